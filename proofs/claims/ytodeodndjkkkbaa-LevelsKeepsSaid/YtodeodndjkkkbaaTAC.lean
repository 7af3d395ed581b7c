import Derived.Test.YtodeodndjkkkbaaTAA
import Derived.Test.YtodeodndjkkkbaaTAB
import Derived.Laws.AppendOwnNone
import Derived.OneCell
import Derived.Laws.OwnMore
import Derived.Deep.Onto
import Derived.BigQuiet
import Derived.Deep.QuietTactic
import Derived.Laws.ResultCell
import Derived.Test.YtodeodndjkkkbaaSLay
import Derived.Shelf.SlSortCmp.KitK
import Derived.Sort.WalkB2
import Derived.Sort.WalkB12
import Derived.Deep.LoopGhost
namespace Go.Proofs.Ytodeodndjkkkbaa
section
open Go.RowKit
section
variable {α : Type}
theorem Dk.flat_len {k : Nat} {enc : α → List Value} (he : ∀ x, (enc x).length = k) : ∀ L : List α, (L.flatMap enc).length = L.length * k
 | [] => by simp
 | x :: L => by
   have := Dk.flat_len he L
   rw [List.flatMap_cons, List.length_append, this, he, List.length_cons, Nat.succ_mul]
   omega
theorem Dk.flat_get {k : Nat} {enc : α → List Value} (he : ∀ x, (enc x).length = k) : ∀ (L : List α) (i j : Nat) (x : α), L[i]? = some x → j < k → (L.flatMap enc)[i * k + j]? = (enc x)[j]?
 | [], _, _, _, h, _ => by cases h
 | y :: L, 0, j, x, h, hj => by
   obtain rfl : y = x := by simpa using h
   rw [List.flatMap_cons, Nat.zero_mul, Nat.zero_add, List.getElem?_append_left (by rw [he]; exact hj)]
 | y :: L, i + 1, j, x, h, hj => by
   have ih := Dk.flat_get he L i j x (by simpa using h) hj
   have e : (i + 1) * k + j = (enc y).length + (i * k + j) := by rw [he, Nat.succ_mul]; omega
   rw [List.flatMap_cons, e, List.getElem?_append_right (Nat.le_add_right _ _), Nat.add_sub_cancel_left]
   exact ih
theorem Dk.flat_set {k : Nat} {enc : α → List Value} (he : ∀ x, (enc x).length = k) (L : List α) (i : Nat) (x y : α) (hi : L[i]? = some x) (j : Nat) (hj : j < k) (u : Value) (hy : enc y = (enc x).set j u) :
 (L.flatMap enc).set (i * k + j) u = (L.set i y).flatMap enc := by
 have hil : i < L.length := by
  rcases Nat.lt_or_ge i L.length with h | h
  ·exact h
  ·rw [List.getElem?_eq_none h] at hi; cases hi
 have hlen : (L.flatMap enc).length = L.length * k := Dk.flat_len he L
 have hm : i * k + j < L.length * k := by
  have := Nat.mul_le_mul_right k hil
  rw [Nat.succ_mul] at this
  omega
 refine List.ext_getElem? fun q => ?_
 by_cases hq : q < L.length * k
 ·have hk : 0 < k := by omega
  obtain ⟨a, b, hb, e⟩ : ∃ a b, b < k ∧ q = a * k + b := ⟨q / k, q % k, Nat.mod_lt _ hk, by rw [Nat.mul_comm]; exact (Nat.div_add_mod q k).symm⟩
  have ha : a < L.length := by
   rcases Nat.lt_or_ge a L.length with h | h
   ·exact h
   ·have := Nat.mul_le_mul_right k h; omega
  rw [e, Dk.flat_get he (L.set i y) a b (if i = a then y else L[a]) (by
   rw [List.getElem?_set]
   by_cases h : i = a
   ·rw [if_pos h, if_pos h, if_pos (by omega)]
   ·rw [if_neg h, if_neg h, List.getElem?_eq_getElem ha]) hb, List.getElem?_set]
  have hx : L[a]? = some L[a] := List.getElem?_eq_getElem ha
  by_cases h : i = a
  ·subst h
   rw [if_pos rfl, hy, List.getElem?_set]
   rw [hi] at hx
   have hxe := Option.some.inj hx
   by_cases hjb : j = b
   ·subst hjb
    rw [if_pos rfl, if_pos rfl, if_pos (by rw [hlen]; exact hm), if_pos (by rw [he]; exact hj)]
   ·rw [if_neg (by omega), if_neg hjb]
    exact Dk.flat_get he L i b x hi hb
  ·rw [if_neg h, if_neg (fun e2 => by
    have h1 : i * k + j = a * k + b := e2
    rcases Nat.lt_or_gt_of_ne h with h2 | h2
    ·have := Nat.mul_le_mul_right k h2; rw [Nat.succ_mul] at this; omega
    ·have := Nat.mul_le_mul_right k h2; rw [Nat.succ_mul] at this; omega)]
   exact Dk.flat_get he L a b _ hx hb
 ·rw [List.getElem?_eq_none (by rw [List.length_set, hlen]; omega), List.getElem?_eq_none (by rw [Dk.flat_len he, List.length_set]; omega)]
def Dk.Own (e : TypeId) (k : Nat) (enc : α → List Value) (base : Nat) (w : World) (v : Value) (L : List α) : Prop := w.ownsRow base e k v L.length (L.flatMap enc)
def Dk.At (P : Nat → Prop) (e : TypeId) (k : Nat) (enc : α → List Value) (w : World) (v : Value) (L : List α) : Prop :=
 ∃ a c, v = .slice a L.length c ∧ L.length ≤ c ∧ ((L = [] ∧ (a = none → c = 0)) ∨ ∃ b o cs fr, a = some ⟨b, o, none⟩ ∧ P b ∧ w.heap[b]? = some (.cells cs e fr) ∧ ∀ i j x, L[i]? = some x → j < k → w.cell? ⟨b, o + i * k + j, none⟩ = (enc x)[j]?)
theorem Dk.addr_add (b o i : Nat) : (⟨b, o, none⟩ : Addr).add i = ⟨b, o + i, none⟩ := by unfold Addr.add; split <;> simp_all
variable {P P' : Nat → Prop} {e : TypeId} {k : Nat} {enc : α → List Value}
theorem Dk.Own.nil (base : Nat) (w : World) : Dk.Own e k enc base w (.slice none 0 0) ([] : List α) := World.ownsRow_nil w base _ k
theorem Dk.Own.base_le {base : Nat} {w : World} {v : Value} {L : List α} (h : Dk.Own e k enc base w v L) : ∀ b, v.ownBlock = some b → base ≤ b := fun b hb => (World.ownsRow.lt h b hb).1
theorem Dk.Own.lt {base : Nat} {w : World} {v : Value} {L : List α} (h : Dk.Own e k enc base w v L) : ∀ b, v.ownBlock = some b → b < w.heap.size := fun b hb => (World.ownsRow.lt h b hb).2
theorem Dk.Own.typed {base : Nat} {w : World} {v : Value} {L : List α} (h : Dk.Own e k enc base w v L) : ∀ b, v.ownBlock = some b → ∃ cs, w.heap[b]? = some (.cells cs e (0, 0)) := by
 intro b hb
 rcases h.2 with ⟨rfl, _⟩ | ⟨g, cap, cur, rfl, _, hg, _⟩
 ·cases hb
 ·have : g = b := by simpa [Value.ownBlock] using hb
  subst this
  exact ⟨cur, hg⟩
theorem Dk.Own.same {base : Nat} {w w' : World} {v : Value} {L : List α} (h : Dk.Own e k enc base w v L) (g : ∀ b, v.ownBlock = some b → w'.heap[b]? = w.heap[b]?) : Dk.Own e k enc base w' v L := by
 refine ⟨h.1, ?_⟩
 rcases h.2 with hn | ⟨b, cap, cur, rfl, hbb, hgg, rest⟩
 ·exact .inl hn
 ·exact .inr ⟨b, cap, cur, rfl, hbb, by rw [g b rfl]; exact hgg, rest⟩
theorem Dk.Own.kept {base : Nat} {w w' : World} {v : Value} {L : List α} (h : Dk.Own e k enc base w v L) (g : Below w.heap.size w w') : Dk.Own e k enc base w' v L :=
 h.same fun b hb => g.block b (h.lt b hb)
theorem Dk.Own.form {base : Nat} {w : World} {v : Value} {L : List α} (h : Dk.Own e k enc base w v L) : (v = .slice none 0 0 ∧ L = []) ∨ ∃ g c, v = .slice (some ⟨g, 0, none⟩) L.length c ∧ L.length ≤ c ∧ c ≤ maxLen ∧ base ≤ g ∧ g < w.heap.size := by
 rcases h.2 with ⟨e1, e0⟩ | ⟨g, cap, cur, e1, hbg, hgg, hcap, hm, _⟩
 ·exact .inl ⟨e1, List.eq_nil_of_length_eq_zero e0⟩
 ·exact .inr ⟨g, cap, e1, hcap, hm, hbg, (Array.getElem?_eq_some_iff.1 hgg).1⟩
theorem Dk.Own.cell (he : ∀ x, (enc x).length = k) {base : Nat} {w : World} {v : Value} {L : List α} (h : Dk.Own e k enc base w v L) {g : Nat} (hv : v.ownBlock = some g) {i j : Nat} {x : α} (hi : L[i]? = some x) (hj : j < k) : w.cell? ⟨g, i * k + j, none⟩ = (enc x)[j]? := by
 have hx : (enc x)[j]? = some ((enc x)[j]'(by rw [he]; exact hj)) := List.getElem?_eq_getElem _
 have := World.ownsRow.cells h hv (i * k + j) _ ((Dk.flat_get he L i j x hi hj).trans hx)
 rw [Dk.addr_add, Nat.zero_add] at this
 rw [this, hx]
theorem Dk.Own.at (he : ∀ x, (enc x).length = k) {base : Nat} {w : World} {v : Value} {L : List α} (h : Dk.Own e k enc base w v L) : Dk.At (fun b => base ≤ b ∧ b < w.heap.size) e k enc w v L := by
 rcases h.form with ⟨rfl, rfl⟩ | ⟨g, c, rfl, hc, _, hb, hg⟩
 ·exact ⟨none, 0, rfl, Nat.le_refl _, .inl ⟨rfl, fun _ => rfl⟩⟩
 ·obtain ⟨cs, hcs⟩ := h.typed g rfl
  refine ⟨_, c, rfl, hc, .inr ⟨g, 0, cs, (0, 0), rfl, ⟨hb, hg⟩, hcs, fun i j x hi hj => ?_⟩⟩
  rw [Nat.zero_add]
  exact h.cell he rfl hi hj
theorem Dk.At.same {w w' : World} {v : Value} {L : List α} (h : Dk.At P e k enc w v L) (g : ∀ b, P b → w'.heap[b]? = w.heap[b]?) : Dk.At P e k enc w' v L := by
 obtain ⟨a, c, hv, hc, h⟩ := h
 refine ⟨a, c, hv, hc, ?_⟩
 rcases h with h | ⟨b, o, cs, fr, ha, hP, hb, h⟩
 ·exact .inl h
 ·refine .inr ⟨b, o, cs, fr, ha, hP, (g b hP).trans hb, fun i j x hi hj => ?_⟩
  rw [← h i j x hi hj]
  exact World.cell?_of_block (g b hP)
theorem Dk.At.imp {w : World} {v : Value} {L : List α} (h : Dk.At P e k enc w v L) (g : ∀ b, P b → P' b) : Dk.At P' e k enc w v L := by
 obtain ⟨a, c, hv, hc, h⟩ := h
 refine ⟨a, c, hv, hc, ?_⟩
 rcases h with h | ⟨b, o, cs, fr, ha, hP, hb, h⟩
 ·exact .inl h
 ·exact .inr ⟨b, o, cs, fr, ha, g b hP, hb, h⟩
theorem Dk.At.alive {w : World} {v : Value} {L : List α} (h : Dk.At P e k enc w v L) : Dk.At (fun b => P b ∧ b < w.heap.size) e k enc w v L := by
 obtain ⟨a, c, hv, hc, h⟩ := h
 refine ⟨a, c, hv, hc, ?_⟩
 rcases h with h | ⟨b, o, cs, fr, ha, hP, hb, h⟩
 ·exact .inl h
 ·exact .inr ⟨b, o, cs, fr, ha, ⟨hP, lt_of_block hb⟩, hb, h⟩
theorem Dk.At.kept {w w' : World} {v : Value} {L : List α} (h : Dk.At P e k enc w v L) (g : Below w.heap.size w w') : Dk.At P e k enc w' v L :=
 ((h.alive).same fun b hb => g.block b hb.2).imp fun _ hb => hb.1
theorem Dk.At.nil (w : World) : Dk.At P e k enc w (.slice none 0 0) ([] : List α) := ⟨none, 0, rfl, Nat.le_refl _, .inl ⟨rfl, fun _ => rfl⟩⟩
def Dk.Src (enc : α → List Value) (w : World) (u : Value) (K : List α) : Prop :=
 (u = .slice none 0 0 ∧ K = []) ∨ ∃ ad c, u = .slice (some ad) K.length c ∧ ∀ j y, (K.flatMap enc)[j]? = some y → w.cell? (ad.add j) = some y
theorem Dk.src_cells {w : World} {b o : Nat} {K : List α} (he : ∀ x, (enc x).length = k) (hk : 0 < k) (h : ∀ i j x, K[i]? = some x → j < k → w.cell? ⟨b, o + i * k + j, none⟩ = (enc x)[j]?) :
 ∀ j y, (K.flatMap enc)[j]? = some y → w.cell? ((⟨b, o, none⟩ : Addr).add j) = some y := by
 intro q y hq
 have hql : q < K.length * k := by
  rw [← Dk.flat_len he K]
  exact (List.getElem?_eq_some_iff.1 hq).1
 obtain ⟨i, j, hj, e1⟩ : ∃ i j, j < k ∧ q = i * k + j := ⟨q / k, q % k, Nat.mod_lt _ hk, by rw [Nat.mul_comm]; exact (Nat.div_add_mod q k).symm⟩
 have hi : i < K.length := by
  rcases Nat.lt_or_ge i K.length with h | h
  ·exact h
  ·have := Nat.mul_le_mul_right k h; omega
 have hx : K[i]? = some K[i] := List.getElem?_eq_getElem hi
 rw [Dk.addr_add, e1, ← Nat.add_assoc, h i j _ hx hj, ← Dk.flat_get he K i j _ hx hj, ← e1, hq]
theorem Dk.append_many {Pr : Program} (T : TypeId) (z : Value) (by_ : Nat) (hT : Pr.underlying T = some (.slice e)) (hinfo : (Pr.info? e).map (fun i => (i.zero, i.size, i.bytes)) = some (some z, k, by_)) (hz : z.cells.size = k) (hk : 0 < k)
 (he : ∀ x, (enc x).length = k) (hone : ∀ x, ∀ u ∈ enc x, u.oneCell' = true) {base : Nat} {w0 : World} {v : Value} {M K : List α} (hown : Dk.Own e k enc base w0 v M) (hb : base ≤ w0.heap.size)
 (hl : (M.length + K.length) * by_ ≤ 140737488355328) (hl2 : M.length + K.length ≤ 140737488355328) {u : Value} (hu : Dk.Src enc w0 u K) (ty : TypeId) :
 ∃ v' w', (Builtin.append_ #[T, T] ty #[v, u]).run Pr w0 = .ok v' w' ∧ Dk.Own e k enc base w' v' (M ++ K) ∧ Ty.Grew w0 w' v v' := by
 obtain ⟨i0, hi, hz0, hz1, hz2⟩ := info_parts hinfo
 rcases hu with ⟨rfl, rfl⟩ | ⟨ad, c, rfl, hK⟩
 ·exact ⟨v, w0, run_append_owned_none (P := Pr) w0 base T ty e i0 k hT hi v _ _ hown, by rw [List.append_nil]; exact hown, Ty.Grew.refl _ _⟩
 ·obtain ⟨v', w', hr, h1, h2⟩ := Ty.append_tight (P := Pr) w0 base T ty e i0 _ k by_ hT hi hz0 hz1 hz2 hz hk v M.length (M.flatMap enc) hown ad K.length c (K.flatMap enc) (Dk.flat_len he K) hK (fun y hy => by
   obtain ⟨x, _, hx⟩ := List.mem_flatMap.1 hy
   exact hone x y hx) (by unfold maxLen; omega) hl hb
  refine ⟨v', w', hr, ?_, h2⟩
  unfold Dk.Own
  rw [List.length_append, List.flatMap_append]
  exact h1
theorem Dk.wpList_append {Pr : Program} (T : TypeId) (z : Value) (by_ : Nat) (hT : Pr.underlying T = some (.slice e)) (hinfo : (Pr.info? e).map (fun i => (i.zero, i.size, i.bytes)) = some (some z, k, by_)) (hz : z.cells.size = k) (hk : 0 < k)
 (he : ∀ x, (enc x).length = k) (hone : ∀ x, ∀ u ∈ enc x, u.oneCell' = true) {base : Nat} {w0 : World} {v : Value} {M : List α} (K : List α) (hown : Dk.Own e k enc base w0 v M) (hb : base ≤ w0.heap.size)
 (hl : (M.length + K.length) * by_ ≤ 140737488355328) (hl2 : M.length + K.length ≤ 140737488355328) {u : Value} (hu : Dk.Src enc w0 u K)
 {ops : Array Oper} {rest : List Oper} {o : Oper} {a : Act} {Q : Exit → Act → World → Prop} (s x : Operand) (hgd : Region.wanted o (yielded ops a.tmps) = true)
 (ho : o.op = .call { callee := .builtin .append, args := #[s, x], argTypes := #[T, T] })
 (hs : a.eval s = v) (hx : a.eval x = u)
 (h : ∀ v' w', Dk.Own e k enc base w' v' (M ++ K) → Ty.Grew w0 w' v v' → wpList Pr ops Q rest (a.put o.dst v') w') :
 wpList Pr ops Q (o :: rest) a w0 := by
 refine wpList_step fun Kx hKx => ?_
 rw [if_pos hgd]
 obtain ⟨v', w', hr, h2, h3⟩ := Dk.append_many (Pr := Pr) T z by_ hT hinfo hz hk he hone hown hb hl hl2 hu o.type
 unfold Oper.wp execOp
 simp only [ho, resolve, invoke, builtin, Sem.run_bind, Sem.run_pure, Result.andThen_ok, List.map_toArray, List.map_cons, List.map_nil, hs, hx, hr]
 exact hKx _ _ (h v' w' h2 h3)
theorem Dk.src_one (w : World) (x : α) (cs : Array Value) (hcs : cs = (enc x).toArray) (t : TypeId) : Dk.Src enc (w.alloc (.cells cs t)) (.slice (some ⟨w.heap.size, 0, none⟩) 1 1) [x] := by
 refine .inr ⟨⟨w.heap.size, 0, none⟩, 1, rfl, fun j y hj => ?_⟩
 rw [Dk.addr_add, Nat.zero_add]
 have e1 : ([x].flatMap enc) = enc x := by simp
 rw [e1] at hj
 have hn := heap_alloc_new w (.cells cs t)
 simp only [World.cell?, hn]
 subst hcs
 simpa using hj
theorem Dk.Own.set (he : ∀ x, (enc x).length = k) {base : Nat} {w : World} {v : Value} {L : List α} (h : Dk.Own e k enc base w v L) {g : Nat} (hv : v.ownBlock = some g) {i j : Nat} {x : α} (hi : L[i]? = some x) (hj : j < k) (u : Value) (y : α) (hy : enc y = (enc x).set j u) :
 Dk.Own e k enc base (w.setCell ⟨g, i * k + j, none⟩ u) v (L.set i y) := by
 rcases h.form with ⟨rfl, rfl⟩ | ⟨g', c, rfl, hc, _, hb, hg⟩
 ·cases hi
 ·have : g' = g := by simpa [Value.ownBlock] using hv
  subst this
  have := (World.ownsRow.stored h (i * k + j) u).1
  rw [Dk.flat_set he L i x y hi j hj u hy] at this
  unfold Dk.Own
  rw [List.length_set]
  exact this
end
end
section
open Go.RowKit
def Mf.pc (p : Mf.P) : List Value := [.int .i64 p.id, .int .i64 p.lv, .bool p.lo.null, .int .i64 p.lo.n, .string p.lo.s, .bool p.hi.null, .int .i64 p.hi.n, .string p.hi.s]
abbrev Mf.cs (p : Mf.P) : Array Value := #[.int .i64 p.id, .int .i64 p.lv, .bool p.lo.null, .int .i64 p.lo.n, .string p.lo.s, .bool p.hi.null, .int .i64 p.hi.n, .string p.hi.s]
abbrev Mf.P.val (p : Mf.P) : Value := .agg (Mf.cs p)
theorem Mf.pc_len (p : Mf.P) : (Mf.pc p).length = 8 := rfl
theorem Mf.pc_one (p : Mf.P) : ∀ u ∈ Mf.pc p, u.oneCell' = true := by
 intro u hu
 simp only [Mf.pc, List.mem_cons, List.not_mem_nil, or_false] at hu
 rcases hu with rfl | rfl | rfl | rfl | rfl | rfl | rfl | rfl <;> rfl
def Mf.ic (x : Int) : List Value := [.int .i64 x]
theorem Mf.ic_len (x : Int) : (Mf.ic x).length = 1 := rfl
theorem Mf.ic_one (x : Int) : ∀ u ∈ Mf.ic x, u.oneCell' = true := by
 intro u hu
 obtain rfl : u = .int .i64 x := by simpa [Mf.ic] using hu
 rfl
def Mf.At {α : Type} (k : Nat) (enc : α → List Value) (w : World) (v : Value) (L : List α) : Prop :=
 ∃ a c, v = .slice a L.length c ∧ L.length ≤ c ∧ ((L = [] ∧ (a = none → c = 0)) ∨ ∃ (b o : Nat) (cs : Array Value) (fr : TypeId × (Nat × Nat)), a = some ⟨b, o, none⟩ ∧ True ∧ w.heap[b]? = some (.cells cs fr.1 fr.2) ∧ ∀ i j x, L[i]? = some x → j < k → w.cell? ⟨b, o + i * k + j, none⟩ = (enc x)[j]?)
theorem Mf.At.of {α : Type} {P : Nat → Prop} {e : TypeId} {k : Nat} {enc : α → List Value} {w : World} {v : Value} {L : List α} (h : Dk.At P e k enc w v L) : Mf.At k enc w v L := by
 obtain ⟨a, c, hv, hc, h⟩ := h
 refine ⟨a, c, hv, hc, ?_⟩
 rcases h with h | ⟨b, o, cs, fr, ha, hP, hb, h⟩
 ·exact .inl h
 ·exact .inr ⟨b, o, cs, (e, fr), ha, trivial, hb, h⟩
theorem Mf.At.nil {α : Type} {k : Nat} {enc : α → List Value} (w : World) : Mf.At k enc w (.slice none 0 0) ([] : List α) := ⟨none, 0, rfl, Nat.le_refl _, .inl ⟨rfl, fun _ => rfl⟩⟩
theorem Mf.At.lt {α : Type} {k : Nat} {enc : α → List Value} {w : World} {v : Value} {L : List α} (h : Mf.At k enc w v L) (hL : L ≠ []) {b : Nat} (hb : v.ownBlock = some b) : b < w.heap.size := by
 obtain ⟨a, c, rfl, _, h⟩ := h
 rcases h with ⟨h, _⟩ | ⟨q, o, cs, fr, rfl, _, hq, _⟩
 ·exact absurd h hL
 ·obtain rfl : q = b := by simpa [Value.ownBlock] using hb
  exact lt_of_block hq
theorem Mf.At.stay {α : Type} {k : Nat} {enc : α → List Value} {w w' : World} {v : Value} {L : List α} (h : Mf.At k enc w v L) (g : L ≠ [] → ∀ b, v.ownBlock = some b → b < w.heap.size → w'.heap[b]? = w.heap[b]?) : Mf.At k enc w' v L := by
 by_cases hL : L = []
 ·obtain ⟨a, c, hv, hc, h⟩ := h
  refine ⟨a, c, hv, hc, ?_⟩
  rcases h with h | ⟨b, o, cs, fr, ha, _, hb, h⟩
  ·exact .inl h
  ·exact .inl ⟨hL, fun e => by rw [ha] at e; cases e⟩
 ·obtain ⟨a, c, hv, hc, h⟩ := h
  refine ⟨a, c, hv, hc, ?_⟩
  rcases h with h | ⟨b, o, cs, fr, ha, _, hb, h⟩
  ·exact .inl h
  ·have hs := g hL b (by rw [hv, ha]; rfl) (lt_of_block hb)
   exact .inr ⟨b, o, cs, fr, ha, trivial, hs.trans hb, fun i j x hi hj => (World.cell?_of_block (a := ⟨b, o + i * k + j, none⟩) hs).trans (h i j x hi hj)⟩
theorem Mf.At.kept {α : Type} {k : Nat} {enc : α → List Value} {w w' : World} {v : Value} {L : List α} (h : Mf.At k enc w v L) (g : Below w.heap.size w w') : Mf.At k enc w' v L := h.stay fun _ b _ hb => g.block b hb
def Mf.Ps (w : World) (v : Value) (L : List Mf.P) : Prop := Mf.At 8 Mf.pc w v L
def Mf.Is (w : World) (v : Value) (L : List Int) : Prop := Mf.At 1 Mf.ic w v L
theorem Mf.Ps.kept {w w' : World} {v : Value} {L : List Mf.P} (h : Mf.Ps w v L) (g : Below w.heap.size w w') : Mf.Ps w' v L := Mf.At.kept h g
theorem Mf.Is.kept {w w' : World} {v : Value} {L : List Int} (h : Mf.Is w v L) (g : Below w.heap.size w w') : Mf.Is w' v L := Mf.At.kept h g
structure Mf.PA (w : World) (b o : Nat) (p : Mf.P) : Prop where
 c0 : w.cell? ⟨b, o, none⟩ = some (.int .i64 p.id)
 c1 : w.cell? ⟨b, o + 1, none⟩ = some (.int .i64 p.lv)
 c2 : w.cell? ⟨b, o + 2, none⟩ = some (.bool p.lo.null)
 c3 : w.cell? ⟨b, o + 3, none⟩ = some (.int .i64 p.lo.n)
 c4 : w.cell? ⟨b, o + 4, none⟩ = some (.string p.lo.s)
 c5 : w.cell? ⟨b, o + 5, none⟩ = some (.bool p.hi.null)
 c6 : w.cell? ⟨b, o + 6, none⟩ = some (.int .i64 p.hi.n)
 c7 : w.cell? ⟨b, o + 7, none⟩ = some (.string p.hi.s)
theorem Mf.PA.lt {w : World} {b o : Nat} {p : Mf.P} (h : Mf.PA w b o p) : b < w.heap.size := World.block_lt_of_cell? w _ h.c0
theorem Mf.PA.kept {w w' : World} {b o : Nat} {p : Mf.P} (h : Mf.PA w b o p) (g : Below w.heap.size w w') : Mf.PA w' b o p :=
 ⟨(g.cell (p := ⟨b, o, none⟩) h.lt).trans h.c0, (g.cell (p := ⟨b, o + 1, none⟩) h.lt).trans h.c1, (g.cell (p := ⟨b, o + 2, none⟩) h.lt).trans h.c2, (g.cell (p := ⟨b, o + 3, none⟩) h.lt).trans h.c3, (g.cell (p := ⟨b, o + 4, none⟩) h.lt).trans h.c4, (g.cell (p := ⟨b, o + 5, none⟩) h.lt).trans h.c5, (g.cell (p := ⟨b, o + 6, none⟩) h.lt).trans h.c6, (g.cell (p := ⟨b, o + 7, none⟩) h.lt).trans h.c7⟩
theorem Mf.PA.new (w : World) (p : Mf.P) (t : TypeId) : Mf.PA (w.alloc (.cells (Mf.cs p) t)) w.heap.size 0 p :=
 ⟨Kn.cell_new w _ t 0 _ rfl, Kn.cell_new w _ t 1 _ rfl, Kn.cell_new w _ t 2 _ rfl, Kn.cell_new w _ t 3 _ rfl, Kn.cell_new w _ t 4 _ rfl, Kn.cell_new w _ t 5 _ rfl, Kn.cell_new w _ t 6 _ rfl, Kn.cell_new w _ t 7 _ rfl⟩
theorem Mf.Ps.part {w : World} {b o : Nat} {L : List Mf.P} (h : ∀ i j x, L[i]? = some x → j < 8 → w.cell? ⟨b, o + i * 8 + j, none⟩ = (Mf.pc x)[j]?) {i : Nat} {p : Mf.P} (hi : L[i]? = some p) : Mf.PA w b (o + i * 8) p :=
 ⟨by have := h i 0 p hi (by decide); rwa [Nat.add_zero] at this, h i 1 p hi (by decide), h i 2 p hi (by decide), h i 3 p hi (by decide), h i 4 p hi (by decide), h i 5 p hi (by decide), h i 6 p hi (by decide), h i 7 p hi (by decide)⟩
theorem Mf.Is.num {w : World} {b o : Nat} {L : List Int} (h : ∀ i j x, L[i]? = some x → j < 1 → w.cell? ⟨b, o + i * 1 + j, none⟩ = (Mf.ic x)[j]?) {i : Nat} {x : Int} (hi : L[i]? = some x) : w.cell? ⟨b, o + i, none⟩ = some (.int .i64 x) := by
 have := h i 0 x hi (by decide)
 rwa [Nat.add_zero, Nat.mul_one] at this
def Mf.up (most n : Int) : Bool := decide (0 ≤ n) && decide (n ≤ most)
end
section
open Go.RowKit
structure Mf.EA (w : World) (b : Nat) (vd va : Value) (f n : Int) : Prop where
 c0 : w.cell? ⟨b, 0, none⟩ = some vd
 c1 : w.cell? ⟨b, 1, none⟩ = some va
 c2 : w.cell? ⟨b, 2, none⟩ = some (.int .i64 f)
 c3 : w.cell? ⟨b, 3, none⟩ = some (.int .i64 n)
theorem Mf.EA.lt {w : World} {b : Nat} {vd va : Value} {f n : Int} (h : Mf.EA w b vd va f n) : b < w.heap.size := World.block_lt_of_cell? w _ h.c0
theorem Mf.EA.kept {w w' : World} {b : Nat} {vd va : Value} {f n : Int} (h : Mf.EA w b vd va f n) (g : Below w.heap.size w w') : Mf.EA w' b vd va f n :=
 ⟨(g.cell (p := ⟨b, 0, none⟩) h.lt).trans h.c0, (g.cell (p := ⟨b, 1, none⟩) h.lt).trans h.c1, (g.cell (p := ⟨b, 2, none⟩) h.lt).trans h.c2, (g.cell (p := ⟨b, 3, none⟩) h.lt).trans h.c3⟩
theorem Mf.EA.new (w : World) (vd va : Value) (f n : Int) (t : TypeId) : Mf.EA (w.alloc (.cells #[vd, va, .int .i64 f, .int .i64 n] t)) w.heap.size vd va f n :=
 ⟨Kn.cell_new w _ t 0 _ rfl, Kn.cell_new w _ t 1 _ rfl, Kn.cell_new w _ t 2 _ rfl, Kn.cell_new w _ t 3 _ rfl⟩
end
section
open Go.RowKit
end
section
open Go.RowKit
abbrev Mf.sv (v : Value) (s : Mf.S) : Value := .agg #[v, .int .i64 s.floor, .int .i64 s.next]
structure Mf.SA (w : World) (b : Nat) (v : Value) (f n : Int) : Prop where
 c0 : w.cell? ⟨b, 0, none⟩ = some v
 c1 : w.cell? ⟨b, 1, none⟩ = some (.int .i64 f)
 c2 : w.cell? ⟨b, 2, none⟩ = some (.int .i64 n)
theorem Mf.SA.lt {w : World} {b : Nat} {v : Value} {f n : Int} (h : Mf.SA w b v f n) : b < w.heap.size := World.block_lt_of_cell? w _ h.c0
theorem Mf.SA.kept {w w' : World} {b : Nat} {v : Value} {f n : Int} (h : Mf.SA w b v f n) (g : Below w.heap.size w w') : Mf.SA w' b v f n :=
 ⟨(g.cell (p := ⟨b, 0, none⟩) h.lt).trans h.c0, (g.cell (p := ⟨b, 1, none⟩) h.lt).trans h.c1, (g.cell (p := ⟨b, 2, none⟩) h.lt).trans h.c2⟩
theorem Mf.SA.new (w : World) (v : Value) (f n : Int) (t : TypeId) : Mf.SA (w.alloc (.cells #[v, .int .i64 f, .int .i64 n] t)) w.heap.size v f n :=
 ⟨Kn.cell_new w _ t 0 _ rfl, Kn.cell_new w _ t 1 _ rfl, Kn.cell_new w _ t 2 _ rfl⟩
theorem Mf.Ps.at_ {w : World} {a : Option Addr} {L : List Mf.P} {c : Nat} (h : Mf.Ps w (.slice a L.length c) L) {i : Nat} {p : Mf.P} (hp : L[i]? = some p) : ∃ b o, a = some ⟨b, o, none⟩ ∧ Mf.PA w b (o + i * 8) p := by
 obtain ⟨a', c', e, -, h⟩ := h
 simp only [Value.slice.injEq, true_and] at e
 obtain ⟨rfl, rfl⟩ := e
 rcases h with ⟨h0, -⟩ | ⟨b, o, cs, fr, rfl, -, _, h⟩
 ·rw [h0] at hp; cases hp
 ·exact ⟨b, o, rfl, Mf.Ps.part h hp⟩
theorem Mf.Ps.form {w : World} {v : Value} {L : List Mf.P} (h : Mf.Ps w v L) : ∃ a c, v = .slice a L.length c ∧ L.length ≤ c := by
 obtain ⟨a, c, rfl, hc, -⟩ := h
 exact ⟨a, c, rfl, hc⟩
def Mf.atV (L : List Mf.P) (d : Int) : Int := match Mf.at_ L d with | none => -1 | some k => (k : Int)
end
section
open Go.RowKit
def Mf.Ow (base : Nat) (w : World) (v : Value) (L : List Mf.P) : Prop := Dk.Own 38 8 Mf.pc base w v L
theorem Mf.infoP : (Try.prog.info? 38).map (fun i => (i.zero, i.size, i.bytes)) = some (some (.agg #[.int .i64 0, .int .i64 0, .bool false, .int .i64 0, .string ⟨#[]⟩, .bool false, .int .i64 0, .string ⟨#[]⟩]), 8, 80) := by kernel_rfl
theorem Mf.infoI : (Try.prog.info? 3).map (fun i => (i.zero, i.size, i.bytes)) = some (some (.int .i64 0), 1, 8) := by kernel_rfl
theorem Mf.Ow.nil (base : Nat) (w : World) : Mf.Ow base w (.slice none 0 0) [] := Dk.Own.nil base w
theorem Mf.Ow.ps {base : Nat} {w : World} {v : Value} {L : List Mf.P} (h : Mf.Ow base w v L) : Mf.Ps w v L := Mf.At.of (Dk.Own.at Mf.pc_len h)
theorem Mf.Ow.kept {base : Nat} {w w' : World} {v : Value} {L : List Mf.P} (h : Mf.Ow base w v L) (g : Below w.heap.size w w') : Mf.Ow base w' v L := Dk.Own.kept h g
theorem Mf.Ps.src {w : World} {v : Value} {L : List Mf.P} (h : Mf.Ps w v L) : Dk.Src Mf.pc w v L := by
 obtain ⟨a, c, rfl, -, h⟩ := h
 rcases h with ⟨rfl, h0⟩ | ⟨b, o, cs, fr, rfl, -, _, h⟩
 ·cases a with
  | none => rw [h0 rfl]; exact .inl ⟨rfl, rfl⟩
  | some ad => exact .inr ⟨ad, c, rfl, fun j y hy => by simp at hy⟩
 ·exact .inr ⟨_, c, rfl, Dk.src_cells Mf.pc_len (by decide) h⟩
theorem Mf.below1 {B : Nat} {w w' : World} {q : Nat} (g : Below B w w') (h : B ≤ q) (i : Nat) (x : Value) : Below B w (w'.setCell ⟨q, i, none⟩ x) :=
 ⟨g.os, g.tape, g.output, by have := g.size; simpa [World.setCell] using this, fun b hb => (Below.heap_setCell _ _ _ _ (by show b ≠ q; omega)).trans (g.block b hb)⟩
def Mf.st (r : Option Mf.S) : Mf.S := match r with | none => ⟨[], 0, 0⟩ | some t => t
def Mf.er (r : Option Mf.S) : Int := match r with | none => 8 | some _ => 0
def Mf.GotS (w : World) (r : Option Mf.S) (e : Ending) (w' : World) : Prop := ∃ u, e = .returned (.tuple #[Mf.sv u (Mf.st r), .int .i64 (Mf.er r)]) ∧ Mf.Ow w.heap.size w' u (Mf.st r).parts ∧ Below w.heap.size w w'
theorem Mf.GotS.good {w w' : World} {r : Option Mf.S} {u : Value} {L : List Mf.P} {f n : Int} (h : r = some ⟨L, f, n⟩) (hu : Mf.Ow w.heap.size w' u L) (g : Below w.heap.size w w') : Mf.GotS w r (.returned (.tuple #[.agg #[u, .int .i64 f, .int .i64 n], .int .i64 0])) w' := by
 subst h
 exact ⟨u, rfl, hu, g⟩
theorem Mf.wpList_part {base : Nat} {w0 : World} {v : Value} {M : List Mf.P} (K : List Mf.P) (hown : Mf.Ow base w0 v M) (hb : base ≤ w0.heap.size) (hl : M.length + K.length ≤ 1500000000000) {u : Value} (hu : Dk.Src Mf.pc w0 u K)
 {ops : Array Oper} {rest : List Oper} {o : Oper} {a : Act} {Q : Exit → Act → World → Prop} (s x : Operand) (hgd : Region.wanted o (yielded ops a.tmps) = true)
 (ho : o.op = .call { callee := .builtin .append, args := #[s, x], argTypes := #[22, 22] })
 (hs : a.eval s = v) (hx : a.eval x = u)
 (h : ∀ v' w', Mf.Ow base w' v' (M ++ K) → Ty.Grew w0 w' v v' → wpList Try.prog ops Q rest (a.put o.dst v') w') :
 wpList Try.prog ops Q (o :: rest) a w0 :=
 Dk.wpList_append 22 _ 80 Try.underlying22 Mf.infoP rfl (by decide) Mf.pc_len Mf.pc_one K hown hb (by omega) (by omega) hu s x hgd ho hs hx h
theorem Mf.ow_below {base : Nat} {w1 w w' : World} {v v' : Value} {L : List Mf.P} (hb : Below base w1 w) (hs : base ≤ w.heap.size) (ho : Mf.Ow base w v L) (g : Ty.Grew w w' v v') : Below base w1 w' :=
 hb.trans (g.below hs fun k hk => Dk.Own.base_le ho k hk)
end
section
open Go Go.RowKit Go.Sort Go.Lib Go.Shelf
instance Lv.inhP : Inhabited Mf.P := ⟨⟨0, 0, ⟨false, 0, ⟨#[]⟩⟩, ⟨false, 0, ⟨#[]⟩⟩⟩⟩
theorem Lv.swap_step {α : Type} [Inhabited α] {d : Array α} {L1 X M Y L2 : List α} {i : Nat} (h : d.toList = L1 ++ ((Y.take i ++ X.drop i) ++ (M ++ ((X.take i ++ Y.drop i) ++ L2)))) (hxy : X.length = Y.length) (hi : i < X.length) :
 (swp d (L1.length + i) (L1.length + X.length + M.length + i)).toList = L1 ++ ((Y.take (i + 1) ++ X.drop (i + 1)) ++ (M ++ ((X.take (i + 1) ++ Y.drop (i + 1)) ++ L2))) := by
 have hx : X.drop i = X[i] :: X.drop (i + 1) := List.drop_eq_getElem_cons hi
 have hy : Y.drop i = Y[i] :: Y.drop (i + 1) := List.drop_eq_getElem_cons (by omega)
 have hw := (Lv.swp_list d (L1 ++ Y.take i) (X.drop (i + 1) ++ (M ++ X.take i)) (Y.drop (i + 1) ++ L2) X[i] Y[i] (by rw [h, hx, hy]; simp only [List.append_assoc, List.cons_append])).1
 have e1 : (L1 ++ Y.take i).length = L1.length + i := by rw [List.length_append, List.length_take]; omega
 have e2 : (X.drop (i + 1) ++ (M ++ X.take i)).length + 1 = X.length + M.length := by simp only [List.length_append, List.length_drop, List.length_take]; omega
 rw [e1, e2, show L1.length + i + (X.length + M.length) = L1.length + X.length + M.length + i by omega] at hw
 rw [hw, List.take_add_one, List.take_add_one, List.getElem?_eq_getElem hi, List.getElem?_eq_getElem (by omega : i < Y.length)]
 simp only [List.append_assoc, List.cons_append, Option.toList_some, List.nil_append]
structure Lv.L (P : Program) (k : Nat) : Prop where
 mixed : P.follows .mixedOrders = true
 fA : P.funcs[98]? = some Try.f98
 fB : P.funcs[91]? = some Try.f91
 fC : P.funcs[78]? = some Try.f78
 eA : ∀ args w, (callFunc 98 args).run P w = .ok (.enter 98 args) w
 eB : ∀ args w, (callFunc 91 args).run P w = .ok (.enter 91 args) w
 eC : ∀ args w, (callFunc 78 args).run P w = .ok (.enter 78 args) w
 t0 : P.underlying 0 = some (TypeDesc.tuple #[])
 a0 : ∀ w, (isAgg 0).run P w = .ok false w
 z0 : ∀ w, (Go.sizeOf 0).run P w = .ok 1 w
 v0 : ∀ w, (zeroValue 0).run P w = .ok (Value.tuple #[]) w
 t3 : P.underlying 3 = some (TypeDesc.int IntKind.i64)
 a3 : ∀ w, (isAgg 3).run P w = .ok false w
 z3 : ∀ w, (Go.sizeOf 3).run P w = .ok 1 w
 v3 : ∀ w, (zeroValue 3).run P w = .ok (Value.int IntKind.i64 0) w
 t4 : P.underlying 4 = some (TypeDesc.bool)
 a4 : ∀ w, (isAgg 4).run P w = .ok false w
 z4 : ∀ w, (Go.sizeOf 4).run P w = .ok 1 w
 v4 : ∀ w, (zeroValue 4).run P w = .ok (Value.bool false) w
 tU : P.underlying 64 = some (TypeDesc.int IntKind.u64)
 aU : ∀ w, (isAgg 64).run P w = .ok false w
 zU : ∀ w, (Go.sizeOf 64).run P w = .ok 1 w
 vU : ∀ w, (zeroValue 64).run P w = .ok (Value.int IntKind.u64 0) w
 tS : P.underlying 22 = some (TypeDesc.slice 38)
 aS : ∀ w, (isAgg 22).run P w = .ok false w
 zS : ∀ w, (Go.sizeOf 22).run P w = .ok 1 w
 vS : ∀ w, (zeroValue 22).run P w = .ok (Value.slice none 0 0) w
 tF : P.underlying 74 = some (TypeDesc.func #[38, 38] #[3] false)
 aF : ∀ w, (isAgg 74).run P w = .ok false w
 zF : ∀ w, (Go.sizeOf 74).run P w = .ok 1 w
 vF : ∀ w, (zeroValue 74).run P w = .ok (Value.nilFunc) w
 aP : ∀ w, (isAgg 38).run P w = .ok true w
 zP : ∀ w, (Go.sizeOf 38).run P w = .ok k w
theorem Lv.lays : Lv.L Try.prog 8 := {
 mixed := rfl
 fA := Try.func98
 fB := Try.func91
 fC := Try.func78
 eA := enters_of Try.func98 (by kernel_rfl) rfl
 eB := enters_of Try.func91 (by kernel_rfl) rfl
 eC := enters_of Try.func78 (by kernel_rfl) rfl
 t0 := Try.underlying0
 a0 := Try.isAgg0
 z0 := Try.sizeOf0
 v0 := Try.zeroValue0
 t3 := Try.underlying3
 a3 := Try.isAgg3
 z3 := Try.sizeOf3
 v3 := Try.zeroValue3
 t4 := Try.underlying4
 a4 := Try.isAgg4
 z4 := Try.sizeOf4
 v4 := Try.zeroValue4
 tU := Try.underlying64
 aU := Try.isAgg64
 zU := Try.sizeOf64
 vU := Try.zeroValue64
 tS := Try.underlying22
 aS := Try.isAgg22
 zS := Try.sizeOf22
 vS := Try.zeroValue22
 tF := Try.underlying74
 aF := Try.isAgg74
 zF := Try.sizeOf74
 vF := Try.zeroValue74
 aP := Try.isAgg38
 zP := Try.sizeOf38 }
set_option maxHeartbeats 4000000 in
set_option maxRecDepth 1000000 in
theorem Lv.swapRange_c {P : Program} {k : Nat} (L : Lv.L P k) {α : Type} [Inhabited α] (enc : α → List Value) (fv : Value) (blk off cap : Nat) (d0 d : Array α) (w0 w : World) (R : RowK enc k w0 blk off d0) (hs : d0.size = d.size) (S : SWK enc k w0 blk off d w) (L1 X M Y L2 : List α)
 (hd : d.toList = L1 ++ (X ++ (M ++ (Y ++ L2)))) (hxy : X.length = Y.length) (hsz : d.size < 1152921504606846976) (A B C : Nat) (hA : A = L1.length) (hB : B = L1.length + X.length + M.length) (hC : C = X.length) :
 Calls P 98 #[.slice (some ⟨blk, off, none⟩) d.size cap, .int .i64 A, .int .i64 B, .int .i64 C, fv] w fun e w' => e = .returned (.tuple #[]) ∧ ∃ d' : Array α, d'.toList = L1 ++ (Y ++ (M ++ (X ++ L2))) ∧ SWK enc k w0 blk off d' w' := by
 have hlen : d.size = L1.length + X.length + M.length + Y.length + L2.length := by
  have := congrArg List.length hd
  simp only [Array.length_toList, List.length_append] at this
  omega
 have S0 : Aside (SWK enc k w0 blk off d w) := S
 have HD := Lib.hid hd
 have mixed := L.mixed; have t0 := L.t0; have a0 := L.a0; have z0 := L.z0; have v0 := L.v0; have t3 := L.t3; have a3 := L.a3; have z3 := L.z3; have v3 := L.v3; have t4 := L.t4; have a4 := L.a4; have z4 := L.z4; have v4 := L.v4; have tS := L.tS; have aS := L.aS; have zS := L.zS; have vS := L.vS; have tF := L.tF; have aF := L.aF; have zF := L.zF; have vF := L.vF; have aE := L.aP; have zE := L.zP
 have FG := L.fA
 have HN : Hid (d.size = L1.length + X.length + M.length + Y.length + L2.length ∧ A = L1.length ∧ B = L1.length + X.length + M.length ∧ C = X.length ∧ X.length = Y.length) := Lib.hid ⟨hlen, hA, hB, hC, hxy⟩
 clear S hd hlen hA hB hC hxy
 go_enter FG, Try.ntmps98
 go_wp2
 go_loopg [10] C (fun kx s10 wr => ∃ (i : Nat) (dk : Array α), s10 = .int .i64 i ∧ i ≤ C ∧ C - i ≤ kx ∧ dk.size = d.size ∧ Aside (SWK enc k w0 blk off dk wr) ∧ Hid (dk.toList = L1 ++ ((Y.take i ++ X.drop i) ++ (M ++ ((X.take i ++ Y.drop i) ++ L2)))))
 case atStart => exact ⟨0, d, rfl, Nat.zero_le _, Nat.le_refl _, rfl, S0, Lib.hid (by rw [List.take_zero, List.drop_zero, List.take_zero, List.drop_zero]; exact HD.out)⟩
 case round =>
  clear S0
  obtain ⟨i, dk, rfl, hi, hkx, hds, S1, HL⟩ := hrel
  by_cases hlt : i < C
  ·have hlti : (i : Int) < (C : Int) := by omega
   obtain ⟨hA9, hB9⟩ : A + i < d.size ∧ B + i < d.size := by have := HN.out; omega
   have hai : ((A : Int) + (i : Int)).toNat = A + i := by omega
   have hbi : ((B : Int) + (i : Int)).toNat = B + i := by omega
   have ra : IntKind.i64.wrap ((A : Int) + (i : Int)) = (A : Int) + (i : Int) := by rw [IntKind.wrap_i64]; omega
   have rb : IntKind.i64.wrap ((B : Int) + (i : Int)) = (B : Int) + (i : Int) := by rw [IntKind.wrap_i64]; omega
   have pa : (0 : Int) ≤ (A : Int) + (i : Int) := by omega
   have pb : (0 : Int) ≤ (B : Int) + (i : Int) := by omega
   have ba : (A : Int) + (i : Int) < (d.size : Int) := by omega
   have bb : (B : Int) + (i : Int) < (d.size : Int) := by omega
   have S2 : Aside (SWK enc k w0 blk off (swp dk (A + i) (B + i)) ((wr.drew.setCells blk (off + (A + i) * k) (enc dk[B + i]!)).setCells blk (off + (B + i) * k) (enc dk[A + i]!))) := S1.out.swapped R (A + i) (B + i) (by omega) (by omega)
   have la := S1.out.ld1 R (by omega) P (A + i) (by omega)
   have lb := S1.out.ld1 R (by omega) P (B + i) (by omega)
   have sa := S1.out.st1 R (by omega) P (A + i) (by omega) dk[B + i]!
   have sb := S1.out.st2 R (by omega) P (A + i) (B + i) (by omega) (by omega) dk[B + i]! dk[A + i]!
   have na : (enc dk[A + i]!).length = k := R.hk _
   have nb : (enc dk[B + i]!).length = k := R.hk _
   generalize enc dk[A + i]! = cI at S2 la sb na
   generalize enc dk[B + i]! = cJ at S2 lb sa sb nb
   clear S1
   go_wp2_with fail
   go_big_region_o
   clear la lb sa sb
   generalize (wr.drew.setCells blk (off + (A + i) * k) cJ).setCells blk (off + (B + i) * k) cI = w2 at S2 ⊢
   go_wp2
   go_roundg (C - (i + 1))
   case measure => omega
   case rel =>
    obtain ⟨-, rfl, rfl, rfl, hxy⟩ := HN.out
    exact ⟨i + 1, _, by simp, by omega, Nat.le_refl _, by rw [size_swp]; exact hds, S2, Lib.hid (Lv.swap_step HL.out hxy hlt)⟩
  ·have hlti : ¬ (i : Int) < (C : Int) := by omega
   go_wp2
   go_end0
   obtain ⟨-, -, -, rfl, hxy⟩ := HN.out
   obtain rfl : i = X.length := by omega
   refine ⟨rfl, dk, ?_, S1.out⟩
   have := HL.out
   rw [List.drop_length, List.take_length, hxy, List.take_length, List.drop_length, List.append_nil, List.append_nil] at this
   exact this
end
section
open Go Go.RowKit Go.Sort Go.Lib Go.Shelf
theorem Lv.swapRange_i {P : Program} {k : Nat} (L : Lv.L P k) {α : Type} [Inhabited α] (enc : α → List Value) (fv : Value) (blk off cap : Nat) (d0 d : Array α) (w0 w : World) (R : RowK enc k w0 blk off d0) (hs : d0.size = d.size) (S : SWK enc k w0 blk off d w) (L1 X M Y L2 : List α)
 (hd : d.toList = L1 ++ (X ++ (M ++ (Y ++ L2)))) (hxy : X.length = Y.length) (N : Nat) (hN : d.size = N) (hsz : N < 1152921504606846976) (A B C : Int) (hA : A = L1.length) (hB : B = (L1.length + X.length + M.length : Nat)) (hC : C = X.length) :
 Calls P 98 #[.slice (some ⟨blk, off, none⟩) N cap, .int .i64 A, .int .i64 B, .int .i64 C, fv] w fun e w' => e = .returned (.tuple #[]) ∧ ∃ d' : Array α, d'.toList = L1 ++ (Y ++ (M ++ (X ++ L2))) ∧ SWK enc k w0 blk off d' w' := by
 subst hN hA hB hC
 exact Lv.swapRange_c L enc fv blk off cap d0 d w0 w R hs S L1 X M Y L2 hd hxy hsz _ _ _ rfl rfl rfl
theorem Lv.len_of {α : Type} {d : Array α} {l : List α} (h : d.toList = l) : d.size = l.length := by rw [← h]; exact (Array.length_toList ..).symm
set_option maxHeartbeats 4000000 in
set_option maxRecDepth 1000000 in
theorem Lv.rotate_c {P : Program} {k : Nat} (L : Lv.L P k) {α : Type} [Inhabited α] (enc : α → List Value) (fv : Value) (blk off cap : Nat) (d0 d : Array α) (w0 w : World) (R : RowK enc k w0 blk off d0) (hs : d0.size = d.size) (S : SWK enc k w0 blk off d w) (L1 X Y L2 : List α)
 (hd : d.toList = L1 ++ (X ++ (Y ++ L2))) (hX : 0 < X.length) (hY : 0 < Y.length) (N : Nat) (hN : d.size = N) (hsz : N < 1152921504606846976) (A B C : Int) (hA : A = L1.length) (hB : B = (L1.length + X.length : Nat)) (hC : C = (L1.length + X.length + Y.length : Nat)) :
 Calls P 91 #[.slice (some ⟨blk, off, none⟩) N cap, .int .i64 A, .int .i64 B, .int .i64 C, fv] w fun e w' => e = .returned (.tuple #[]) ∧ ∃ d' : Array α, d'.toList = L1 ++ (Y ++ (X ++ L2)) ∧ SWK enc k w0 blk off d' w' := by
 have hlen := Lv.len_of hd
 simp only [List.length_append] at hlen
 have S0 : Aside (SWK enc k w0 blk off d w) := S
 have HD := Lib.hid hd
 obtain ⟨i0, hi0⟩ : ∃ i0, i0 = X.length := ⟨_, rfl⟩
 obtain ⟨j0, hj0⟩ : ∃ j0, j0 = Y.length := ⟨_, rfl⟩
 have HF : Hid (i0 = X.length ∧ j0 = Y.length ∧ A = L1.length ∧ B = (L1.length + X.length : Nat) ∧ C = (L1.length + X.length + Y.length : Nat) ∧ N = L1.length + (X.length + (Y.length + L2.length)) ∧ d0.size = N ∧ 0 < X.length ∧ 0 < Y.length) := Lib.hid ⟨hi0, hj0, hA, hB, hC, by omega, by omega, hX, hY⟩
 have wi : IntKind.i64.wrap (B - A) = (i0 : Int) := by rw [IntKind.wrap_i64]; omega
 have wj : IntKind.i64.wrap (C - B) = (j0 : Int) := by rw [IntKind.wrap_i64]; omega
 have mixed := L.mixed; have t0 := L.t0; have a0 := L.a0; have z0 := L.z0; have v0 := L.v0; have t3 := L.t3; have a3 := L.a3; have z3 := L.z3; have v3 := L.v3; have t4 := L.t4; have a4 := L.a4; have z4 := L.z4; have v4 := L.v4; have tU := L.tU; have aU := L.aU; have zU := L.zU; have vU := L.vU; have tS := L.tS; have aS := L.aS; have zS := L.zS; have vS := L.vS; have tF := L.tF; have aF := L.aF; have zF := L.zF; have vF := L.vF; have aE := L.aP; have zE := L.zP; have eA := L.eA; have eB := L.eB; have eC := L.eC
 have FG := L.fB
 clear S hd hlen hA hB hC hX hY hi0 hj0 hs hN
 go_enter FG, Try.ntmps91
 go_wp2
 go_loopg [10, 11] (i0 + j0) (fun kx s10 s11 wr => ∃ (i j : Nat) (dk : Array α), s10 = .int .i64 i ∧ s11 = .int .i64 j ∧ i + j ≤ kx ∧ Aside (SWK enc k w0 blk off dk wr) ∧ Hid (∃ D1 U V D2 : List α, dk.toList = L1 ++ (D1 ++ (U ++ (V ++ (D2 ++ L2)))) ∧ D1 ++ (V ++ (U ++ D2)) = Y ++ X ∧ L1.length + D1.length + U.length = L1.length + X.length ∧ U.length = i ∧ V.length = j ∧ 0 < i ∧ 0 < j ∧ dk.size = N))
 case atStart => exact ⟨i0, j0, d, rfl, rfl, Nat.le_refl _, S0, Lib.hid ⟨[], X, Y, [], by rw [HD.out]; rfl, by simp, by simp, HF.out.1.symm, HF.out.2.1.symm, by have := HF.out; omega, by have := HF.out; omega, by have h1 := Lv.len_of HD.out; simp only [List.length_append] at h1; have := HF.out; omega⟩⟩
 case round =>
  clear S0 wi wj
  obtain ⟨i, j, dk, rfl, rfl, hkx, S1, HL⟩ := hrel
  obtain ⟨m, hm⟩ : ∃ m : Nat, m = L1.length + X.length := ⟨_, rfl⟩
  have HM := Lib.hid hm
  obtain ⟨b0, hb0⟩ : ∃ b0 : Int, b0 = (m : Int) - i := ⟨_, rfl⟩
  have hBm : B = (m : Int) := by have := HF.out; omega
  have hin : 0 < i ∧ 0 < j ∧ m ≤ N ∧ i ≤ m ∧ m + j ≤ N := by
   obtain ⟨D1, U, V, D2, e1, e2, e3, e4, e5, e6, e7, e8⟩ := HL.out
   have h1 := Lv.len_of e1
   simp only [List.length_append] at h1
   omega
  have w1 : IntKind.i64.wrap (B - (i : Int)) = B - (i : Int) := by rw [IntKind.wrap_i64]; omega
  have HIN := Lib.hid (And.intro hin hBm)
  clear hin hBm hb0 hm
  by_cases heq : i = j
  ·subst heq
   have hne : ((i : Int) != (i : Int)) = false := by simp
   have hc : Hid (∃ (dd : Array α), dd.toList = L1 ++ (Y ++ (X ++ L2)) ∧ True) ∨ True := .inr trivial
   have CC : Hid (Calls P 98 #[.slice (some ⟨blk, off, none⟩) N cap, .int .i64 (B - (i : Int)), .int .i64 B, .int .i64 (i : Int), fv] wr fun e w' => e = .returned (.tuple #[]) ∧ ∃ d' : Array α, d'.toList = L1 ++ (Y ++ (X ++ L2)) ∧ SWK enc k w0 blk off d' w') := Lib.hid (by
    obtain ⟨D1, U, V, D2, e1, e2, e3, e4, e5, e6, e7, e8⟩ := HL.out
    have h1 := Lv.swapRange_i L enc fv blk off cap d0 dk w0 wr R (by have := HF.out; omega) S1.out (L1 ++ D1) U [] V (D2 ++ L2) (by rw [e1]; simp) (by omega) N e8 hsz (B - (i : Int)) B (i : Int) (by rw [List.length_append]; have := HIN.out; have := HM.out; omega) (by rw [List.length_append, List.length_nil]; have := HIN.out; have := HM.out; omega) (by omega)
    refine h1.mono ?_
    rintro e w' ⟨rfl, d', hd', hS⟩
    refine ⟨rfl, d', ?_, hS⟩
    rw [hd', show L1 ++ (Y ++ (X ++ L2)) = L1 ++ ((Y ++ X) ++ L2) by simp, ← e2]
    simp)
   clear hc S1 HL
   go_wp2_with fail
   refine CC.out.mono ?_
   rintro e w' ⟨rfl, hx⟩
   have HX := Lib.hid hx
   clear hx CC
   go_wp2
   go_end0
   exact ⟨rfl, HX.out⟩
  ·have hne : ((i : Int) != (j : Int)) = true := by rw [bne_iff_ne]; omega
   have hnz : ¬ (i : Int) = (j : Int) := by omega
   by_cases hgt : j < i
   ·have hgz : (j : Int) < (i : Int) := by omega
    have w2 : IntKind.i64.wrap ((i : Int) - (j : Int)) = (i : Int) - (j : Int) := by have := HIN.out; rw [IntKind.wrap_i64]; omega
    have CC : Hid (Calls P 98 #[.slice (some ⟨blk, off, none⟩) N cap, .int .i64 (B - (i : Int)), .int .i64 B, .int .i64 (j : Int), fv] wr fun e w' => e = .returned (.tuple #[]) ∧ ∃ d' : Array α, SWK enc k w0 blk off d' w' ∧ ∃ D1 U V D2 : List α, d'.toList = L1 ++ (D1 ++ (U ++ (V ++ (D2 ++ L2)))) ∧ D1 ++ (V ++ (U ++ D2)) = Y ++ X ∧ L1.length + D1.length + U.length = L1.length + X.length ∧ U.length = i - j ∧ V.length = j ∧ 0 < i - j ∧ 0 < j ∧ d'.size = N) := Lib.hid (by
     obtain ⟨D1, U, V, D2, e1, e2, e3, e4, e5, e6, e7, e8⟩ := HL.out
     have hU : U = U.take j ++ U.drop j := (List.take_append_drop j U).symm
     have l1 : (U.take j).length = j := by rw [List.length_take]; omega
     have l2 : (U.drop j).length = i - j := by rw [List.length_drop]; omega
     have hd9 : dk.toList = (L1 ++ D1) ++ (U.take j ++ (U.drop j ++ (V ++ (D2 ++ L2)))) := by
      rw [e1]
      conv => lhs; rw [hU]
      simp only [List.append_assoc]
     have h1 := Lv.swapRange_i L enc fv blk off cap d0 dk w0 wr R (by have := HF.out; omega) S1.out (L1 ++ D1) (U.take j) (U.drop j) V (D2 ++ L2) hd9 (by omega) N e8 hsz (B - (i : Int)) B (j : Int) (by rw [List.length_append]; have := HIN.out; have := HM.out; omega) (by rw [List.length_append, l1, l2]; have := HIN.out; have := HM.out; omega) (by omega)
     refine h1.mono ?_
     rintro e w' ⟨rfl, d', hd', hS⟩
     refine ⟨rfl, d', hS, D1 ++ V, U.drop j, U.take j, D2, by rw [hd']; simp only [List.append_assoc], ?_, by rw [List.length_append]; omega, l2, l1, by omega, by omega, ?_⟩
     ·rw [← e2]
      conv => rhs; rw [hU]
      simp only [List.append_assoc]
     ·have h2 := Lv.len_of hd'
      have h3 := Lv.len_of e1
      simp only [List.length_append] at h2 h3
      omega)
    have ei : ((i : Int) - (j : Int)) = ((i - j : Nat) : Int) := by omega
    have HEI := Lib.hid ei
    have HJI : Hid (0 < j ∧ j < i) := Lib.hid ⟨HIN.out.1.2.1, hgt⟩
    clear S1 HL ei
    go_wp2_with fail
    refine CC.out.mono ?_
    rintro e w' ⟨rfl, d', hS, hx⟩
    have HX := Lib.hid hx
    have HS : Aside (SWK enc k w0 blk off d' w') := hS
    clear hx CC hS
    go_wp2
    go_roundg (i - j + j)
    case measure => have := HJI.out; omega
    case rel => exact ⟨i - j, j, d', by rw [HEI.out], rfl, Nat.le_refl _, HS, HX⟩
   ·have hgz : ¬ (j : Int) < (i : Int) := by omega
    have w2 : IntKind.i64.wrap ((j : Int) - (i : Int)) = (j : Int) - (i : Int) := by have := HIN.out; rw [IntKind.wrap_i64]; omega
    have w3 : IntKind.i64.wrap (B + (j : Int)) = B + (j : Int) := by have := HIN.out; rw [IntKind.wrap_i64]; omega
    have w4 : IntKind.i64.wrap (B + (j : Int) - (i : Int)) = B + (j : Int) - (i : Int) := by have := HIN.out; rw [IntKind.wrap_i64]; omega
    have CC : Hid (Calls P 98 #[.slice (some ⟨blk, off, none⟩) N cap, .int .i64 (B - (i : Int)), .int .i64 (B + (j : Int) - (i : Int)), .int .i64 (i : Int), fv] wr fun e w' => e = .returned (.tuple #[]) ∧ ∃ d' : Array α, SWK enc k w0 blk off d' w' ∧ ∃ D1 U V D2 : List α, d'.toList = L1 ++ (D1 ++ (U ++ (V ++ (D2 ++ L2)))) ∧ D1 ++ (V ++ (U ++ D2)) = Y ++ X ∧ L1.length + D1.length + U.length = L1.length + X.length ∧ U.length = i ∧ V.length = j - i ∧ 0 < i ∧ 0 < j - i ∧ d'.size = N) := Lib.hid (by
     obtain ⟨D1, U, V, D2, e1, e2, e3, e4, e5, e6, e7, e8⟩ := HL.out
     have hV : V = V.take (j - i) ++ V.drop (j - i) := (List.take_append_drop (j - i) V).symm
     have l1 : (V.take (j - i)).length = j - i := by rw [List.length_take]; omega
     have l2 : (V.drop (j - i)).length = i := by rw [List.length_drop]; omega
     have hd9 : dk.toList = (L1 ++ D1) ++ (U ++ (V.take (j - i) ++ (V.drop (j - i) ++ (D2 ++ L2)))) := by
      rw [e1]
      conv => lhs; rw [hV]
      simp only [List.append_assoc]
     have h1 := Lv.swapRange_i L enc fv blk off cap d0 dk w0 wr R (by have := HF.out; omega) S1.out (L1 ++ D1) U (V.take (j - i)) (V.drop (j - i)) (D2 ++ L2) hd9 (by omega) N e8 hsz (B - (i : Int)) (B + (j : Int) - (i : Int)) (i : Int) (by rw [List.length_append]; have := HIN.out; have := HM.out; omega) (by rw [List.length_append, l1]; have := HIN.out; have := HM.out; omega) (by omega)
     refine h1.mono ?_
     rintro e w' ⟨rfl, d', hd', hS⟩
     refine ⟨rfl, d', hS, D1, V.drop (j - i), V.take (j - i), U ++ D2, by rw [hd']; simp only [List.append_assoc], ?_, by omega, l2, l1, by omega, by omega, ?_⟩
     ·rw [← e2]
      conv => rhs; rw [hV]
      simp only [List.append_assoc]
     ·have h2 := Lv.len_of hd'
      have h3 := Lv.len_of e1
      simp only [List.length_append] at h2 h3
      omega)
    have ei : ((j : Int) - (i : Int)) = ((j - i : Nat) : Int) := by omega
    have HEI := Lib.hid ei
    have HJI : Hid (0 < i ∧ i < j) := Lib.hid ⟨HIN.out.1.1, by omega⟩
    clear S1 HL ei
    go_wp2_with fail
    refine CC.out.mono ?_
    rintro e w' ⟨rfl, d', hS, hx⟩
    have HX := Lib.hid hx
    have HS : Aside (SWK enc k w0 blk off d' w') := hS
    clear hx CC hS
    go_wp2
    go_roundg (i + (j - i))
    case measure => have := HJI.out; omega
    case rel => exact ⟨i, j - i, d', rfl, by rw [HEI.out], Nat.le_refl _, HS, HX⟩
end
end Go.Proofs.Ytodeodndjkkkbaa
