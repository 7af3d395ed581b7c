import Derived.Test.YteaglaijkafphaaDoorWAA
import Derived.Test.YteaglaijkafphaaDoorWAB
import Derived.Laws.AppendOwnNone
import Derived.OneCell
import Derived.Laws.OwnMore
import Derived.Deep.Onto
namespace Go.Proofs.YteaglaijkafphaaDoor
section
open Go.RowKit
section
variable {α : Type}
theorem Dk.flat_len {k : Nat} {enc : α → List Value} (he : ∀ x, (enc x).length = k) : ∀ L : List α, (L.flatMap enc).length = L.length * k
 | [] => by simp
 | x :: L => by
   have := Dk.flat_len he L
   rw [List.flatMap_cons, List.length_append, this, he, List.length_cons, Nat.succ_mul]
   omega
theorem Dk.flat_get {k : Nat} {enc : α → List Value} (he : ∀ x, (enc x).length = k) : ∀ (L : List α) (i j : Nat) (x : α), L[i]? = some x → j < k → (L.flatMap enc)[i * k + j]? = (enc x)[j]?
 | [], _, _, _, h, _ => by cases h
 | y :: L, 0, j, x, h, hj => by
   obtain rfl : y = x := by simpa using h
   rw [List.flatMap_cons, Nat.zero_mul, Nat.zero_add, List.getElem?_append_left (by rw [he]; exact hj)]
 | y :: L, i + 1, j, x, h, hj => by
   have ih := Dk.flat_get he L i j x (by simpa using h) hj
   have e : (i + 1) * k + j = (enc y).length + (i * k + j) := by rw [he, Nat.succ_mul]; omega
   rw [List.flatMap_cons, e, List.getElem?_append_right (Nat.le_add_right _ _), Nat.add_sub_cancel_left]
   exact ih
theorem Dk.flat_set {k : Nat} {enc : α → List Value} (he : ∀ x, (enc x).length = k) (L : List α) (i : Nat) (x y : α) (hi : L[i]? = some x) (j : Nat) (hj : j < k) (u : Value) (hy : enc y = (enc x).set j u) :
 (L.flatMap enc).set (i * k + j) u = (L.set i y).flatMap enc := by
 have hil : i < L.length := by
  rcases Nat.lt_or_ge i L.length with h | h
  ·exact h
  ·rw [List.getElem?_eq_none h] at hi; cases hi
 have hlen : (L.flatMap enc).length = L.length * k := Dk.flat_len he L
 have hm : i * k + j < L.length * k := by
  have := Nat.mul_le_mul_right k hil
  rw [Nat.succ_mul] at this
  omega
 refine List.ext_getElem? fun q => ?_
 by_cases hq : q < L.length * k
 ·have hk : 0 < k := by omega
  obtain ⟨a, b, hb, e⟩ : ∃ a b, b < k ∧ q = a * k + b := ⟨q / k, q % k, Nat.mod_lt _ hk, by rw [Nat.mul_comm]; exact (Nat.div_add_mod q k).symm⟩
  have ha : a < L.length := by
   rcases Nat.lt_or_ge a L.length with h | h
   ·exact h
   ·have := Nat.mul_le_mul_right k h; omega
  rw [e, Dk.flat_get he (L.set i y) a b (if i = a then y else L[a]) (by
   rw [List.getElem?_set]
   by_cases h : i = a
   ·rw [if_pos h, if_pos h, if_pos (by omega)]
   ·rw [if_neg h, if_neg h, List.getElem?_eq_getElem ha]) hb, List.getElem?_set]
  have hx : L[a]? = some L[a] := List.getElem?_eq_getElem ha
  by_cases h : i = a
  ·subst h
   rw [if_pos rfl, hy, List.getElem?_set]
   rw [hi] at hx
   have hxe := Option.some.inj hx
   by_cases hjb : j = b
   ·subst hjb
    rw [if_pos rfl, if_pos rfl, if_pos (by rw [hlen]; exact hm), if_pos (by rw [he]; exact hj)]
   ·rw [if_neg (by omega), if_neg hjb]
    exact Dk.flat_get he L i b x hi hb
  ·rw [if_neg h, if_neg (fun e2 => by
    have h1 : i * k + j = a * k + b := e2
    rcases Nat.lt_or_gt_of_ne h with h2 | h2
    ·have := Nat.mul_le_mul_right k h2; rw [Nat.succ_mul] at this; omega
    ·have := Nat.mul_le_mul_right k h2; rw [Nat.succ_mul] at this; omega)]
   exact Dk.flat_get he L a b _ hx hb
 ·rw [List.getElem?_eq_none (by rw [List.length_set, hlen]; omega), List.getElem?_eq_none (by rw [Dk.flat_len he, List.length_set]; omega)]
def Dk.Own (e : TypeId) (k : Nat) (enc : α → List Value) (base : Nat) (w : World) (v : Value) (L : List α) : Prop := w.ownsRow base e k v L.length (L.flatMap enc)
def Dk.At (P : Nat → Prop) (e : TypeId) (k : Nat) (enc : α → List Value) (w : World) (v : Value) (L : List α) : Prop :=
 ∃ a c, v = .slice a L.length c ∧ L.length ≤ c ∧ ((L = [] ∧ (a = none → c = 0)) ∨ ∃ b o cs fr, a = some ⟨b, o, none⟩ ∧ P b ∧ w.heap[b]? = some (.cells cs e fr) ∧ ∀ i j x, L[i]? = some x → j < k → w.cell? ⟨b, o + i * k + j, none⟩ = (enc x)[j]?)
theorem Dk.addr_add (b o i : Nat) : (⟨b, o, none⟩ : Addr).add i = ⟨b, o + i, none⟩ := by unfold Addr.add; split <;> simp_all
variable {P P' : Nat → Prop} {e : TypeId} {k : Nat} {enc : α → List Value}
theorem Dk.Own.nil (base : Nat) (w : World) : Dk.Own e k enc base w (.slice none 0 0) ([] : List α) := World.ownsRow_nil w base _ k
theorem Dk.Own.lt {base : Nat} {w : World} {v : Value} {L : List α} (h : Dk.Own e k enc base w v L) : ∀ b, v.ownBlock = some b → b < w.heap.size := fun b hb => (World.ownsRow.lt h b hb).2
theorem Dk.Own.typed {base : Nat} {w : World} {v : Value} {L : List α} (h : Dk.Own e k enc base w v L) : ∀ b, v.ownBlock = some b → ∃ cs, w.heap[b]? = some (.cells cs e (0, 0)) := by
 intro b hb
 rcases h.2 with ⟨rfl, _⟩ | ⟨g, cap, cur, rfl, _, hg, _⟩
 ·cases hb
 ·have : g = b := by simpa [Value.ownBlock] using hb
  subst this
  exact ⟨cur, hg⟩
theorem Dk.Own.same {base : Nat} {w w' : World} {v : Value} {L : List α} (h : Dk.Own e k enc base w v L) (g : ∀ b, v.ownBlock = some b → w'.heap[b]? = w.heap[b]?) : Dk.Own e k enc base w' v L := by
 refine ⟨h.1, ?_⟩
 rcases h.2 with hn | ⟨b, cap, cur, rfl, hbb, hgg, rest⟩
 ·exact .inl hn
 ·exact .inr ⟨b, cap, cur, rfl, hbb, by rw [g b rfl]; exact hgg, rest⟩
theorem Dk.Own.kept {base : Nat} {w w' : World} {v : Value} {L : List α} (h : Dk.Own e k enc base w v L) (g : Below w.heap.size w w') : Dk.Own e k enc base w' v L :=
 h.same fun b hb => g.block b (h.lt b hb)
theorem Dk.Own.form {base : Nat} {w : World} {v : Value} {L : List α} (h : Dk.Own e k enc base w v L) : (v = .slice none 0 0 ∧ L = []) ∨ ∃ g c, v = .slice (some ⟨g, 0, none⟩) L.length c ∧ L.length ≤ c ∧ c ≤ maxLen ∧ base ≤ g ∧ g < w.heap.size := by
 rcases h.2 with ⟨e1, e0⟩ | ⟨g, cap, cur, e1, hbg, hgg, hcap, hm, _⟩
 ·exact .inl ⟨e1, List.eq_nil_of_length_eq_zero e0⟩
 ·exact .inr ⟨g, cap, e1, hcap, hm, hbg, (Array.getElem?_eq_some_iff.1 hgg).1⟩
theorem Dk.Own.cell (he : ∀ x, (enc x).length = k) {base : Nat} {w : World} {v : Value} {L : List α} (h : Dk.Own e k enc base w v L) {g : Nat} (hv : v.ownBlock = some g) {i j : Nat} {x : α} (hi : L[i]? = some x) (hj : j < k) : w.cell? ⟨g, i * k + j, none⟩ = (enc x)[j]? := by
 have hx : (enc x)[j]? = some ((enc x)[j]'(by rw [he]; exact hj)) := List.getElem?_eq_getElem _
 have := World.ownsRow.cells h hv (i * k + j) _ ((Dk.flat_get he L i j x hi hj).trans hx)
 rw [Dk.addr_add, Nat.zero_add] at this
 rw [this, hx]
theorem Dk.Own.at (he : ∀ x, (enc x).length = k) {base : Nat} {w : World} {v : Value} {L : List α} (h : Dk.Own e k enc base w v L) : Dk.At (fun b => base ≤ b ∧ b < w.heap.size) e k enc w v L := by
 rcases h.form with ⟨rfl, rfl⟩ | ⟨g, c, rfl, hc, _, hb, hg⟩
 ·exact ⟨none, 0, rfl, Nat.le_refl _, .inl ⟨rfl, fun _ => rfl⟩⟩
 ·obtain ⟨cs, hcs⟩ := h.typed g rfl
  refine ⟨_, c, rfl, hc, .inr ⟨g, 0, cs, (0, 0), rfl, ⟨hb, hg⟩, hcs, fun i j x hi hj => ?_⟩⟩
  rw [Nat.zero_add]
  exact h.cell he rfl hi hj
theorem Dk.At.same {w w' : World} {v : Value} {L : List α} (h : Dk.At P e k enc w v L) (g : ∀ b, P b → w'.heap[b]? = w.heap[b]?) : Dk.At P e k enc w' v L := by
 obtain ⟨a, c, hv, hc, h⟩ := h
 refine ⟨a, c, hv, hc, ?_⟩
 rcases h with h | ⟨b, o, cs, fr, ha, hP, hb, h⟩
 ·exact .inl h
 ·refine .inr ⟨b, o, cs, fr, ha, hP, (g b hP).trans hb, fun i j x hi hj => ?_⟩
  rw [← h i j x hi hj]
  exact World.cell?_of_block (g b hP)
theorem Dk.At.imp {w : World} {v : Value} {L : List α} (h : Dk.At P e k enc w v L) (g : ∀ b, P b → P' b) : Dk.At P' e k enc w v L := by
 obtain ⟨a, c, hv, hc, h⟩ := h
 refine ⟨a, c, hv, hc, ?_⟩
 rcases h with h | ⟨b, o, cs, fr, ha, hP, hb, h⟩
 ·exact .inl h
 ·exact .inr ⟨b, o, cs, fr, ha, g b hP, hb, h⟩
theorem Dk.At.alive {w : World} {v : Value} {L : List α} (h : Dk.At P e k enc w v L) : Dk.At (fun b => P b ∧ b < w.heap.size) e k enc w v L := by
 obtain ⟨a, c, hv, hc, h⟩ := h
 refine ⟨a, c, hv, hc, ?_⟩
 rcases h with h | ⟨b, o, cs, fr, ha, hP, hb, h⟩
 ·exact .inl h
 ·exact .inr ⟨b, o, cs, fr, ha, ⟨hP, lt_of_block hb⟩, hb, h⟩
theorem Dk.At.kept {w w' : World} {v : Value} {L : List α} (h : Dk.At P e k enc w v L) (g : Below w.heap.size w w') : Dk.At P e k enc w' v L :=
 ((h.alive).same fun b hb => g.block b hb.2).imp fun _ hb => hb.1
theorem Dk.At.nil (w : World) : Dk.At P e k enc w (.slice none 0 0) ([] : List α) := ⟨none, 0, rfl, Nat.le_refl _, .inl ⟨rfl, fun _ => rfl⟩⟩
def Dk.Src (enc : α → List Value) (w : World) (u : Value) (K : List α) : Prop :=
 (u = .slice none 0 0 ∧ K = []) ∨ ∃ ad c, u = .slice (some ad) K.length c ∧ ∀ j y, (K.flatMap enc)[j]? = some y → w.cell? (ad.add j) = some y
theorem Dk.src_cells {w : World} {b o : Nat} {K : List α} (he : ∀ x, (enc x).length = k) (hk : 0 < k) (h : ∀ i j x, K[i]? = some x → j < k → w.cell? ⟨b, o + i * k + j, none⟩ = (enc x)[j]?) :
 ∀ j y, (K.flatMap enc)[j]? = some y → w.cell? ((⟨b, o, none⟩ : Addr).add j) = some y := by
 intro q y hq
 have hql : q < K.length * k := by
  rw [← Dk.flat_len he K]
  exact (List.getElem?_eq_some_iff.1 hq).1
 obtain ⟨i, j, hj, e1⟩ : ∃ i j, j < k ∧ q = i * k + j := ⟨q / k, q % k, Nat.mod_lt _ hk, by rw [Nat.mul_comm]; exact (Nat.div_add_mod q k).symm⟩
 have hi : i < K.length := by
  rcases Nat.lt_or_ge i K.length with h | h
  ·exact h
  ·have := Nat.mul_le_mul_right k h; omega
 have hx : K[i]? = some K[i] := List.getElem?_eq_getElem hi
 rw [Dk.addr_add, e1, ← Nat.add_assoc, h i j _ hx hj, ← Dk.flat_get he K i j _ hx hj, ← e1, hq]
theorem Dk.append_many {Pr : Program} (T : TypeId) (z : Value) (by_ : Nat) (hT : Pr.underlying T = some (.slice e)) (hinfo : (Pr.info? e).map (fun i => (i.zero, i.size, i.bytes)) = some (some z, k, by_)) (hz : z.cells.size = k) (hk : 0 < k)
 (he : ∀ x, (enc x).length = k) (hone : ∀ x, ∀ u ∈ enc x, u.oneCell' = true) {base : Nat} {w0 : World} {v : Value} {M K : List α} (hown : Dk.Own e k enc base w0 v M) (hb : base ≤ w0.heap.size)
 (hl : (M.length + K.length) * by_ ≤ 140737488355328) (hl2 : M.length + K.length ≤ 140737488355328) {u : Value} (hu : Dk.Src enc w0 u K) (ty : TypeId) :
 ∃ v' w', (Builtin.append_ #[T, T] ty #[v, u]).run Pr w0 = .ok v' w' ∧ Dk.Own e k enc base w' v' (M ++ K) ∧ Ty.Grew w0 w' v v' := by
 obtain ⟨i0, hi, hz0, hz1, hz2⟩ := info_parts hinfo
 rcases hu with ⟨rfl, rfl⟩ | ⟨ad, c, rfl, hK⟩
 ·exact ⟨v, w0, run_append_owned_none (P := Pr) w0 base T ty e i0 k hT hi v _ _ hown, by rw [List.append_nil]; exact hown, Ty.Grew.refl _ _⟩
 ·obtain ⟨v', w', hr, h1, h2⟩ := Ty.append_tight (P := Pr) w0 base T ty e i0 _ k by_ hT hi hz0 hz1 hz2 hz hk v M.length (M.flatMap enc) hown ad K.length c (K.flatMap enc) (Dk.flat_len he K) hK (fun y hy => by
   obtain ⟨x, _, hx⟩ := List.mem_flatMap.1 hy
   exact hone x y hx) (by unfold maxLen; omega) hl hb
  refine ⟨v', w', hr, ?_, h2⟩
  unfold Dk.Own
  rw [List.length_append, List.flatMap_append]
  exact h1
theorem Dk.wpList_append {Pr : Program} (T : TypeId) (z : Value) (by_ : Nat) (hT : Pr.underlying T = some (.slice e)) (hinfo : (Pr.info? e).map (fun i => (i.zero, i.size, i.bytes)) = some (some z, k, by_)) (hz : z.cells.size = k) (hk : 0 < k)
 (he : ∀ x, (enc x).length = k) (hone : ∀ x, ∀ u ∈ enc x, u.oneCell' = true) {base : Nat} {w0 : World} {v : Value} {M : List α} (K : List α) (hown : Dk.Own e k enc base w0 v M) (hb : base ≤ w0.heap.size)
 (hl : (M.length + K.length) * by_ ≤ 140737488355328) (hl2 : M.length + K.length ≤ 140737488355328) {u : Value} (hu : Dk.Src enc w0 u K)
 {ops : Array Oper} {rest : List Oper} {o : Oper} {a : Act} {Q : Exit → Act → World → Prop} (s x : Operand) (hgd : Region.wanted o (yielded ops a.tmps) = true)
 (ho : o.op = .call { callee := .builtin .append, args := #[s, x], argTypes := #[T, T] })
 (hs : a.eval s = v) (hx : a.eval x = u)
 (h : ∀ v' w', Dk.Own e k enc base w' v' (M ++ K) → Ty.Grew w0 w' v v' → wpList Pr ops Q rest (a.put o.dst v') w') :
 wpList Pr ops Q (o :: rest) a w0 := by
 refine wpList_step fun Kx hKx => ?_
 rw [if_pos hgd]
 obtain ⟨v', w', hr, h2, h3⟩ := Dk.append_many (Pr := Pr) T z by_ hT hinfo hz hk he hone hown hb hl hl2 hu o.type
 unfold Oper.wp execOp
 simp only [ho, resolve, invoke, builtin, Sem.run_bind, Sem.run_pure, Result.andThen_ok, List.map_toArray, List.map_cons, List.map_nil, hs, hx, hr]
 exact hKx _ _ (h v' w' h2 h3)
theorem Dk.step_appendB {Pr : Program} (T : TypeId) (z : Value) (by_ : Nat) (hT : Pr.underlying T = some (.slice e)) (hinfo : (Pr.info? e).map (fun i => (i.zero, i.size, i.bytes)) = some (some z, k, by_)) (hz : z.cells.size = k) (hk : 0 < k)
 (he : ∀ x, (enc x).length = k) (hone : ∀ x, ∀ u ∈ enc x, u.oneCell' = true) {base : Nat} {w0 : World} {v : Value} {M : List α} (K : List α) (hb : base ≤ w0.heap.size) (hown : Dk.Own e k enc base w0 v M)
 (hl : (M.length + K.length) * by_ ≤ 140737488355328) (hl2 : M.length + K.length ≤ 140737488355328)
 {ops : Array Oper} {o : Oper} {a : Act} {Kx : Act → World → Prop} {Q : Exit → Act → World → Prop} {E : Prop} (s x : Operand) (u : Value) (hgd : o.guard = none)
 (ho : o.op = .call { callee := .builtin .append, args := #[s, x], argTypes := #[T, T] })
 (hs : a.eval s = v) (hx : a.eval x = u) (hu : Dk.Src enc w0 u K)
 (h : ∀ v' w', Dk.Own e k enc base w' v' (M ++ K) → Ty.Grew w0 w' v v' → Kx (a.put o.dst v') w') :
 if Region.wanted o (yielded ops a.tmps) = true then Oper.wp Pr o a w0 Kx Q else E := by
 have hw : Region.wanted o (yielded ops a.tmps) = true := by simp [Region.wanted, hgd]
 rw [if_pos hw]
 obtain ⟨v', w', hr, h2, h3⟩ := Dk.append_many (Pr := Pr) T z by_ hT hinfo hz hk he hone hown hb hl hl2 hu o.type
 unfold Oper.wp execOp
 simp only [ho, resolve, invoke, builtin, Sem.run_bind, Sem.run_pure, Result.andThen_ok, List.map_toArray, List.map_cons, List.map_nil, hs, hx, hr]
 exact h v' w' h2 h3
theorem Dk.Own.form1 {base : Nat} {w : World} {v : Value} {M : List α} {x : α} (h : Dk.Own e k enc base w v (M ++ [x])) : ∃ g c, v = .slice (some ⟨g, 0, none⟩) (M.length + 1) c ∧ M.length + 1 ≤ c ∧ c ≤ maxLen := by
 rcases h.form with ⟨_, h0⟩ | ⟨g, c, rfl, hc, hm, _, _⟩
 ·exact absurd h0 (by simp)
 ·exact ⟨g, c, by rw [List.length_append]; rfl, by rw [List.length_append] at hc; exact hc, hm⟩
theorem Dk.src_one (w : World) (x : α) (cs : Array Value) (hcs : cs = (enc x).toArray) (t : TypeId) : Dk.Src enc (w.alloc (.cells cs t)) (.slice (some ⟨w.heap.size, 0, none⟩) 1 1) [x] := by
 refine .inr ⟨⟨w.heap.size, 0, none⟩, 1, rfl, fun j y hj => ?_⟩
 rw [Dk.addr_add, Nat.zero_add]
 have e1 : ([x].flatMap enc) = enc x := by simp
 rw [e1] at hj
 have hn := heap_alloc_new w (.cells cs t)
 simp only [World.cell?, hn]
 subst hcs
 simpa using hj
theorem Dk.src_cell {w : World} {b : Nat} {x : α} (h : ∀ j y, (enc x)[j]? = some y → w.cell? ⟨b, j, none⟩ = some y) : Dk.Src enc w (.slice (some ⟨b, 0, none⟩) 1 1) [x] := by
 refine .inr ⟨⟨b, 0, none⟩, 1, rfl, fun j y hj => ?_⟩
 rw [Dk.addr_add, Nat.zero_add]
 have e1 : ([x].flatMap enc) = enc x := by simp
 rw [e1] at hj
 exact h j y hj
theorem Dk.Own.set (he : ∀ x, (enc x).length = k) {base : Nat} {w : World} {v : Value} {L : List α} (h : Dk.Own e k enc base w v L) {g : Nat} (hv : v.ownBlock = some g) {i j : Nat} {x : α} (hi : L[i]? = some x) (hj : j < k) (u : Value) (y : α) (hy : enc y = (enc x).set j u) :
 Dk.Own e k enc base (w.setCell ⟨g, i * k + j, none⟩ u) v (L.set i y) := by
 rcases h.form with ⟨rfl, rfl⟩ | ⟨g', c, rfl, hc, _, hb, hg⟩
 ·cases hi
 ·have : g' = g := by simpa [Value.ownBlock] using hv
  subst this
  have := (World.ownsRow.stored h (i * k + j) u).1
  rw [Dk.flat_set he L i x y hi j hj u hy] at this
  unfold Dk.Own
  rw [List.length_set]
  exact this
end
end
section
open Go.RowKit
def Mf.pc (p : Mf.P) : List Value := [.int .i64 p.id, .int .i64 p.lv, .bool p.lo.null, .int .i64 p.lo.n, .string p.lo.s, .bool p.hi.null, .int .i64 p.hi.n, .string p.hi.s]
abbrev Mf.cs (p : Mf.P) : Array Value := #[.int .i64 p.id, .int .i64 p.lv, .bool p.lo.null, .int .i64 p.lo.n, .string p.lo.s, .bool p.hi.null, .int .i64 p.hi.n, .string p.hi.s]
abbrev Mf.P.val (p : Mf.P) : Value := .agg (Mf.cs p)
theorem Mf.pc_len (p : Mf.P) : (Mf.pc p).length = 8 := rfl
theorem Mf.pc_one (p : Mf.P) : ∀ u ∈ Mf.pc p, u.oneCell' = true := by
 intro u hu
 simp only [Mf.pc, List.mem_cons, List.not_mem_nil, or_false] at hu
 rcases hu with rfl | rfl | rfl | rfl | rfl | rfl | rfl | rfl <;> rfl
def Mf.ic (x : Int) : List Value := [.int .i64 x]
theorem Mf.ic_len (x : Int) : (Mf.ic x).length = 1 := rfl
theorem Mf.ic_one (x : Int) : ∀ u ∈ Mf.ic x, u.oneCell' = true := by
 intro u hu
 obtain rfl : u = .int .i64 x := by simpa [Mf.ic] using hu
 rfl
def Mf.At {α : Type} (k : Nat) (enc : α → List Value) (w : World) (v : Value) (L : List α) : Prop :=
 ∃ a c, v = .slice a L.length c ∧ L.length ≤ c ∧ ((L = [] ∧ (a = none → c = 0)) ∨ ∃ (b o : Nat) (cs : Array Value) (fr : TypeId × (Nat × Nat)), a = some ⟨b, o, none⟩ ∧ True ∧ w.heap[b]? = some (.cells cs fr.1 fr.2) ∧ ∀ i j x, L[i]? = some x → j < k → w.cell? ⟨b, o + i * k + j, none⟩ = (enc x)[j]?)
theorem Mf.At.of {α : Type} {P : Nat → Prop} {e : TypeId} {k : Nat} {enc : α → List Value} {w : World} {v : Value} {L : List α} (h : Dk.At P e k enc w v L) : Mf.At k enc w v L := by
 obtain ⟨a, c, hv, hc, h⟩ := h
 refine ⟨a, c, hv, hc, ?_⟩
 rcases h with h | ⟨b, o, cs, fr, ha, hP, hb, h⟩
 ·exact .inl h
 ·exact .inr ⟨b, o, cs, (e, fr), ha, trivial, hb, h⟩
theorem Mf.At.nil {α : Type} {k : Nat} {enc : α → List Value} (w : World) : Mf.At k enc w (.slice none 0 0) ([] : List α) := ⟨none, 0, rfl, Nat.le_refl _, .inl ⟨rfl, fun _ => rfl⟩⟩
theorem Mf.At.lt {α : Type} {k : Nat} {enc : α → List Value} {w : World} {v : Value} {L : List α} (h : Mf.At k enc w v L) (hL : L ≠ []) {b : Nat} (hb : v.ownBlock = some b) : b < w.heap.size := by
 obtain ⟨a, c, rfl, _, h⟩ := h
 rcases h with ⟨h, _⟩ | ⟨q, o, cs, fr, rfl, _, hq, _⟩
 ·exact absurd h hL
 ·obtain rfl : q = b := by simpa [Value.ownBlock] using hb
  exact lt_of_block hq
theorem Mf.At.stay {α : Type} {k : Nat} {enc : α → List Value} {w w' : World} {v : Value} {L : List α} (h : Mf.At k enc w v L) (g : L ≠ [] → ∀ b, v.ownBlock = some b → b < w.heap.size → w'.heap[b]? = w.heap[b]?) : Mf.At k enc w' v L := by
 by_cases hL : L = []
 ·obtain ⟨a, c, hv, hc, h⟩ := h
  refine ⟨a, c, hv, hc, ?_⟩
  rcases h with h | ⟨b, o, cs, fr, ha, _, hb, h⟩
  ·exact .inl h
  ·exact .inl ⟨hL, fun e => by rw [ha] at e; cases e⟩
 ·obtain ⟨a, c, hv, hc, h⟩ := h
  refine ⟨a, c, hv, hc, ?_⟩
  rcases h with h | ⟨b, o, cs, fr, ha, _, hb, h⟩
  ·exact .inl h
  ·have hs := g hL b (by rw [hv, ha]; rfl) (lt_of_block hb)
   exact .inr ⟨b, o, cs, fr, ha, trivial, hs.trans hb, fun i j x hi hj => (World.cell?_of_block (a := ⟨b, o + i * k + j, none⟩) hs).trans (h i j x hi hj)⟩
theorem Mf.At.kept {α : Type} {k : Nat} {enc : α → List Value} {w w' : World} {v : Value} {L : List α} (h : Mf.At k enc w v L) (g : Below w.heap.size w w') : Mf.At k enc w' v L := h.stay fun _ b _ hb => g.block b hb
def Mf.Ps (w : World) (v : Value) (L : List Mf.P) : Prop := Mf.At 8 Mf.pc w v L
def Mf.Is (w : World) (v : Value) (L : List Int) : Prop := Mf.At 1 Mf.ic w v L
theorem Mf.Ps.kept {w w' : World} {v : Value} {L : List Mf.P} (h : Mf.Ps w v L) (g : Below w.heap.size w w') : Mf.Ps w' v L := Mf.At.kept h g
theorem Mf.Is.kept {w w' : World} {v : Value} {L : List Int} (h : Mf.Is w v L) (g : Below w.heap.size w w') : Mf.Is w' v L := Mf.At.kept h g
structure Mf.PA (w : World) (b o : Nat) (p : Mf.P) : Prop where
 c0 : w.cell? ⟨b, o, none⟩ = some (.int .i64 p.id)
 c1 : w.cell? ⟨b, o + 1, none⟩ = some (.int .i64 p.lv)
 c2 : w.cell? ⟨b, o + 2, none⟩ = some (.bool p.lo.null)
 c3 : w.cell? ⟨b, o + 3, none⟩ = some (.int .i64 p.lo.n)
 c4 : w.cell? ⟨b, o + 4, none⟩ = some (.string p.lo.s)
 c5 : w.cell? ⟨b, o + 5, none⟩ = some (.bool p.hi.null)
 c6 : w.cell? ⟨b, o + 6, none⟩ = some (.int .i64 p.hi.n)
 c7 : w.cell? ⟨b, o + 7, none⟩ = some (.string p.hi.s)
theorem Mf.PA.lt {w : World} {b o : Nat} {p : Mf.P} (h : Mf.PA w b o p) : b < w.heap.size := World.block_lt_of_cell? w _ h.c0
theorem Mf.PA.kept {w w' : World} {b o : Nat} {p : Mf.P} (h : Mf.PA w b o p) (g : Below w.heap.size w w') : Mf.PA w' b o p :=
 ⟨(g.cell (p := ⟨b, o, none⟩) h.lt).trans h.c0, (g.cell (p := ⟨b, o + 1, none⟩) h.lt).trans h.c1, (g.cell (p := ⟨b, o + 2, none⟩) h.lt).trans h.c2, (g.cell (p := ⟨b, o + 3, none⟩) h.lt).trans h.c3, (g.cell (p := ⟨b, o + 4, none⟩) h.lt).trans h.c4, (g.cell (p := ⟨b, o + 5, none⟩) h.lt).trans h.c5, (g.cell (p := ⟨b, o + 6, none⟩) h.lt).trans h.c6, (g.cell (p := ⟨b, o + 7, none⟩) h.lt).trans h.c7⟩
theorem Mf.PA.new (w : World) (p : Mf.P) (t : TypeId) : Mf.PA (w.alloc (.cells (Mf.cs p) t)) w.heap.size 0 p :=
 ⟨Kn.cell_new w _ t 0 _ rfl, Kn.cell_new w _ t 1 _ rfl, Kn.cell_new w _ t 2 _ rfl, Kn.cell_new w _ t 3 _ rfl, Kn.cell_new w _ t 4 _ rfl, Kn.cell_new w _ t 5 _ rfl, Kn.cell_new w _ t 6 _ rfl, Kn.cell_new w _ t 7 _ rfl⟩
theorem Mf.Ps.part {w : World} {b o : Nat} {L : List Mf.P} (h : ∀ i j x, L[i]? = some x → j < 8 → w.cell? ⟨b, o + i * 8 + j, none⟩ = (Mf.pc x)[j]?) {i : Nat} {p : Mf.P} (hi : L[i]? = some p) : Mf.PA w b (o + i * 8) p :=
 ⟨by have := h i 0 p hi (by decide); rwa [Nat.add_zero] at this, h i 1 p hi (by decide), h i 2 p hi (by decide), h i 3 p hi (by decide), h i 4 p hi (by decide), h i 5 p hi (by decide), h i 6 p hi (by decide), h i 7 p hi (by decide)⟩
theorem Mf.Is.num {w : World} {b o : Nat} {L : List Int} (h : ∀ i j x, L[i]? = some x → j < 1 → w.cell? ⟨b, o + i * 1 + j, none⟩ = (Mf.ic x)[j]?) {i : Nat} {x : Int} (hi : L[i]? = some x) : w.cell? ⟨b, o + i, none⟩ = some (.int .i64 x) := by
 have := h i 0 x hi (by decide)
 rwa [Nat.add_zero, Nat.mul_one] at this
def Mf.up (most n : Int) : Bool := decide (0 ≤ n) && decide (n ≤ most)
set_option maxHeartbeats 400000 in
theorem Mf.upTo_c (most n : Int) (w : World) : Calls Tryd.prog 42 #[.int .i64 most, .int .i64 n] w fun e w' => e = .returned (.bool (Mf.up most n)) ∧ w' = w := by
 by_cases h0 : 0 ≤ n
 ·by_cases h1 : n ≤ most
  ·have HU : Hid (Mf.up most n = true) := Lib.hid (by simp [Mf.up, h0, h1])
   go_enter Tryd.func42, Tryd.ntmps42
   go_wp2
   go_ret
   exact ⟨by rw [HU.out]; rfl, rfl⟩
  ·have HU : Hid (Mf.up most n = false) := Lib.hid (by simp [Mf.up, h1])
   go_enter Tryd.func42, Tryd.ntmps42
   go_wp2
   go_ret
   exact ⟨by rw [HU.out]; rfl, rfl⟩
 ·have HU : Hid (Mf.up most n = false) := Lib.hid (by simp [Mf.up, h0])
  go_enter Tryd.func42, Tryd.ntmps42
  go_wp2
  go_ret
  exact ⟨by rw [HU.out]; rfl, rfl⟩
theorem Mf.key_ways (v : Kn.V) : (v.null = true ∧ Mf.key v = false) ∨ (v.null = false ∧ v.s.size ≤ 64 ∧ Mf.key v = true) ∨ (v.null = false ∧ ¬ v.s.size ≤ 64 ∧ Mf.key v = false) := by
 unfold Mf.key
 cases v.null
 ·by_cases h : v.s.size ≤ 64
  ·exact .inr (.inl ⟨rfl, h, by simp [h]⟩)
  ·exact .inr (.inr ⟨rfl, h, by simp [h]⟩)
 ·exact .inl ⟨rfl, by simp⟩
set_option maxHeartbeats 1000000 in
set_option maxRecDepth 100000 in
theorem Mf.rightBound_c (v : Kn.V) (w : World) : Calls Tryd.prog 64 #[v.val] w fun e w' => e = .returned (.bool (Mf.key v)) ∧ Below w.heap.size w w' := by
 have hw := Mf.key_ways v
 obtain ⟨v0, v1, v2⟩ := Kn.At.new w v 42
 have HB : Hid (Below w.heap.size w (w.alloc (.cells #[.bool v.null, .int .i64 v.n, .string v.s] 42))) := Lib.hid ((Below.refl _ w).alloc (Nat.le_refl _) _)
 obtain ⟨vn, vi, sv⟩ := v
 unfold Kn.V.val
 simp only at hw v0 v1 v2 HB ⊢
 rcases hw with ⟨rfl, h⟩ | ⟨rfl, h1, h⟩ | ⟨rfl, h1, h⟩
 ·rw [h]
  clear h
  go_enter Tryd.func64, Tryd.ntmps64
  go_wp2
  go_ret
  exact ⟨rfl, HB.out⟩
 ·rw [h]
  have h2 : ((sv.size : Nat) : Int) ≤ 64 := by omega
  clear h
  go_enter Tryd.func64, Tryd.ntmps64
  go_wp2
  go_ret
  exact ⟨rfl, HB.out⟩
 ·rw [h]
  have h2 : ¬ ((sv.size : Nat) : Int) ≤ 64 := by omega
  clear h
  go_enter Tryd.func64, Tryd.ntmps64
  go_wp2
  go_ret
  exact ⟨rfl, HB.out⟩
theorem Mf.part_ways (p : Mf.P) : (Mf.up 999999999 p.id = false ∧ Mf.part p = false) ∨ (Mf.up 999999999 p.id = true ∧ Mf.up 3 p.lv = false ∧ Mf.part p = false) ∨ (Mf.up 999999999 p.id = true ∧ Mf.up 3 p.lv = true ∧ Mf.key p.lo = false ∧ Mf.part p = false)
 ∨ (Mf.up 999999999 p.id = true ∧ Mf.up 3 p.lv = true ∧ Mf.key p.lo = true ∧ Mf.key p.hi = false ∧ Mf.part p = false) ∨ (Mf.up 999999999 p.id = true ∧ Mf.up 3 p.lv = true ∧ Mf.key p.lo = true ∧ Mf.key p.hi = true ∧ Mf.part p = decide (Kn.cmp p.lo p.hi ≤ 0)) := by
 have e1 : Mf.nm p.id = Mf.up 999999999 p.id := rfl
 have e2 : (decide (0 ≤ p.lv) && decide (p.lv ≤ 3)) = Mf.up 3 p.lv := rfl
 unfold Mf.part
 rw [e1, e2]
 cases Mf.up 999999999 p.id <;> cases Mf.up 3 p.lv <;> cases Mf.key p.lo <;> cases Mf.key p.hi <;> simp
set_option maxHeartbeats 2000000 in
set_option maxRecDepth 100000 in
theorem Mf.rightPart_c (p : Mf.P) (w : World) : Calls Tryd.prog 43 #[p.val] w fun e w' => e = .returned (.bool (Mf.part p)) ∧ Below w.heap.size w w' := by
 have hw := Mf.part_ways p
 have hp := Mf.PA.new w p 44
 have hb : Below w.heap.size w (w.alloc (.cells (Mf.cs p) 44)) := (Below.refl _ w).alloc (Nat.le_refl _) _
 have CU := Lib.hid fun (W : World) => Mf.upTo_c 999999999 p.id W
 have CL := Lib.hid fun (W : World) => Mf.upTo_c 3 p.lv W
 have CA := Lib.hid fun (W : World) => Mf.rightBound_c p.lo W
 have CB := Lib.hid fun (W : World) => Mf.rightBound_c p.hi W
 have CC := Lib.hid fun (W : World) => Kn.compare_c p.lo p.hi W
 have HB := Lib.hid hb
 have HP := Lib.hid hp
 obtain ⟨p0, p1, p2, p3, p4, p5, p6, p7⟩ := hp
 obtain ⟨id, lv, ⟨an, ai, sa⟩, ⟨bn, bi, sb⟩⟩ := p
 unfold Kn.V.val at CA CB CC
 simp only at hw HB HP p0 p1 p2 p3 p4 p5 p6 p7 CU CL CA CB CC ⊢
 unfold Mf.P.val Mf.cs
 unfold Mf.cs at HB HP p0 p1 p2 p3 p4 p5 p6 p7
 simp only at HB HP p0 p1 p2 p3 p4 p5 p6 p7 ⊢
 clear hb
 generalize Mf.up 999999999 id = U1 at hw CU
 generalize Mf.up 3 lv = U2 at hw CL
 generalize Mf.key ⟨an, ai, sa⟩ = U3 at hw CA
 generalize Mf.key ⟨bn, bi, sb⟩ = U4 at hw CB
 generalize Mf.part ⟨id, lv, ⟨an, ai, sa⟩, ⟨bn, bi, sb⟩⟩ = U5 at hw ⊢
 rcases hw with ⟨rfl, rfl⟩ | ⟨rfl, rfl, rfl⟩ | ⟨rfl, rfl, rfl, rfl⟩ | ⟨rfl, rfl, rfl, rfl, rfl⟩ | ⟨rfl, rfl, rfl, rfl, hw⟩
 ·go_enter Tryd.func43, Tryd.ntmps43
  go_wp2_with fail
  with_reducible refine (CU.out _).mono ?_
  rintro e w1 ⟨rfl, rfl⟩
  go_wp2
  go_ret
  exact ⟨rfl, HB.out⟩
 ·go_enter Tryd.func43, Tryd.ntmps43
  go_wp2_with fail
  with_reducible refine (CU.out _).mono ?_
  rintro e w1 ⟨rfl, rfl⟩
  go_wp2_with fail
  with_reducible refine (CL.out _).mono ?_
  rintro e w1 ⟨rfl, rfl⟩
  go_wp2
  go_ret
  exact ⟨rfl, HB.out⟩
 ·go_enter Tryd.func43, Tryd.ntmps43
  go_wp2_with fail
  with_reducible refine (CU.out _).mono ?_
  rintro e w1 ⟨rfl, rfl⟩
  go_wp2_with fail
  with_reducible refine (CL.out _).mono ?_
  rintro e w1 ⟨rfl, rfl⟩
  go_wp2_with fail
  with_reducible refine (CA.out _).mono ?_
  rintro e w1 ⟨rfl, g1⟩
  go_wp2
  go_ret
  exact ⟨rfl, HB.out.trans (g1.mono HB.out.size)⟩
 ·go_enter Tryd.func43, Tryd.ntmps43
  go_wp2_with fail
  with_reducible refine (CU.out _).mono ?_
  rintro e w1 ⟨rfl, rfl⟩
  go_wp2_with fail
  with_reducible refine (CL.out _).mono ?_
  rintro e w1 ⟨rfl, rfl⟩
  go_wp2_with fail
  with_reducible refine (CA.out _).mono ?_
  rintro e w1 ⟨rfl, g1⟩
  have HB1 := Lib.hid (HB.out.trans (g1.mono HB.out.size))
  obtain ⟨q0, q1, q2, q3, q4, q5, q6, q7⟩ := HP.out.kept g1
  clear p0 p1 p2 p3 p4 p5 p6 p7 g1
  go_wp2_with fail
  with_reducible refine (CB.out _).mono ?_
  rintro e w2 ⟨rfl, g2⟩
  go_wp2
  go_ret
  exact ⟨rfl, HB1.out.trans (g2.mono HB1.out.size)⟩
 ·rw [hw]
  clear hw
  go_enter Tryd.func43, Tryd.ntmps43
  go_wp2_with fail
  with_reducible refine (CU.out _).mono ?_
  rintro e w1 ⟨rfl, rfl⟩
  go_wp2_with fail
  with_reducible refine (CL.out _).mono ?_
  rintro e w1 ⟨rfl, rfl⟩
  go_wp2_with fail
  with_reducible refine (CA.out _).mono ?_
  rintro e w1 ⟨rfl, g1⟩
  have HB1 := Lib.hid (HB.out.trans (g1.mono HB.out.size))
  have HP1 := Lib.hid (HP.out.kept g1)
  obtain ⟨q0, q1, q2, q3, q4, q5, q6, q7⟩ := HP.out.kept g1
  clear p0 p1 p2 p3 p4 p5 p6 p7 g1
  go_wp2_with fail
  with_reducible refine (CB.out _).mono ?_
  rintro e w2 ⟨rfl, g2⟩
  have HB2 := Lib.hid (HB1.out.trans (g2.mono HB1.out.size))
  obtain ⟨p0, p1, p2, p3, p4, p5, p6, p7⟩ := HP1.out.kept g2
  clear q0 q1 q2 q3 q4 q5 q6 q7 g2
  go_wp2_with fail
  with_reducible refine (CC.out _).mono ?_
  rintro e w3 ⟨rfl, g3⟩
  go_wp2
  go_ret
  exact ⟨rfl, HB2.out.trans (g3.mono HB2.out.size)⟩
end
section
open Go.RowKit
structure Mf.EA (w : World) (b : Nat) (vd va : Value) (f n : Int) : Prop where
 c0 : w.cell? ⟨b, 0, none⟩ = some vd
 c1 : w.cell? ⟨b, 1, none⟩ = some va
 c2 : w.cell? ⟨b, 2, none⟩ = some (.int .i64 f)
 c3 : w.cell? ⟨b, 3, none⟩ = some (.int .i64 n)
theorem Mf.EA.lt {w : World} {b : Nat} {vd va : Value} {f n : Int} (h : Mf.EA w b vd va f n) : b < w.heap.size := World.block_lt_of_cell? w _ h.c0
theorem Mf.EA.kept {w w' : World} {b : Nat} {vd va : Value} {f n : Int} (h : Mf.EA w b vd va f n) (g : Below w.heap.size w w') : Mf.EA w' b vd va f n :=
 ⟨(g.cell (p := ⟨b, 0, none⟩) h.lt).trans h.c0, (g.cell (p := ⟨b, 1, none⟩) h.lt).trans h.c1, (g.cell (p := ⟨b, 2, none⟩) h.lt).trans h.c2, (g.cell (p := ⟨b, 3, none⟩) h.lt).trans h.c3⟩
theorem Mf.EA.new (w : World) (vd va : Value) (f n : Int) (t : TypeId) : Mf.EA (w.alloc (.cells #[vd, va, .int .i64 f, .int .i64 n] t)) w.heap.size vd va f n :=
 ⟨Kn.cell_new w _ t 0 _ rfl, Kn.cell_new w _ t 1 _ rfl, Kn.cell_new w _ t 2 _ rfl, Kn.cell_new w _ t 3 _ rfl⟩
theorem Mf.all_take {α : Type} {L : List α} {q : α → Bool} {k : Nat} {x : α} (hx : L[k]? = some x) (h : (L.take k).all q = true) (hq : q x = true) : (L.take (k + 1)).all q = true := by
 obtain ⟨hk, rfl⟩ := List.getElem?_eq_some_iff.1 hx
 rw [List.take_add_one, hx, List.all_append, h]
 simp [hq]
theorem Mf.all_not {α : Type} {L : List α} {q : α → Bool} {k : Nat} {x : α} (hx : L[k]? = some x) (hq : q x = false) : L.all q = false := by
 rw [List.all_eq_false]
 exact ⟨x, List.mem_of_getElem? hx, by rw [hq]; decide⟩
theorem Mf.right_d {e : Mf.E} (h : e.drop.all Mf.nm = false) : Mf.right e = false := by unfold Mf.right; rw [h]; simp
theorem Mf.right_a {e : Mf.E} (h : e.add.all Mf.part = false) : Mf.right e = false := by unfold Mf.right; rw [h]; simp
theorem Mf.right_fn {e : Mf.E} (h1 : e.drop.length ≤ 1000) (h2 : e.add.length ≤ 1000) (h3 : e.drop.all Mf.nm = true) (h4 : e.add.all Mf.part = true) : Mf.right e = (Mf.nm e.floor && Mf.nm e.next) := by
 unfold Mf.right
 rw [h3, h4, decide_eq_true h1, decide_eq_true h2]
 simp
theorem Mf.right_l {e : Mf.E} (h : ¬ e.drop.length ≤ 1000 ∨ ¬ e.add.length ≤ 1000) : Mf.right e = false := by
 unfold Mf.right
 rcases h with h | h <;> rw [decide_eq_false h] <;> simp
set_option maxHeartbeats 8000000 in
set_option maxRecDepth 100000 in
theorem Mf.rightEdit_c (vd va : Value) (e : Mf.E) (w : World) (hd : Mf.Is w vd e.drop) (ha : Mf.Ps w va e.add) :
 Calls Tryd.prog 20 #[.agg #[vd, va, .int .i64 e.floor, .int .i64 e.next]] w fun r w' => r = .returned (.bool (Mf.right e)) ∧ Below w.heap.size w w' := by
 have hE := Mf.EA.new w vd va e.floor e.next 37
 have hb : Below w.heap.size w (w.alloc (.cells #[vd, va, .int .i64 e.floor, .int .i64 e.next] 37)) := (Below.refl _ w).alloc (Nat.le_refl _) _
 have hd1 := hd.kept hb
 have ha1 := ha.kept hb
 have HRL := Lib.hid (Mf.right_l (e := e))
 have HRD := Lib.hid (Mf.right_d (e := e))
 have HRA := Lib.hid (Mf.right_a (e := e))
 have HRF := Lib.hid (Mf.right_fn (e := e))
 obtain ⟨D, A, fl, nx⟩ := e
 simp only at hE hb hd1 ha1 HRL HRD HRA HRF ⊢
 obtain ⟨ad, cd, rfl, -, hd2⟩ := hd1
 obtain ⟨aa, ca, rfl, -, ha2⟩ := ha1
 have CU := Lib.hid fun (m x : Int) (W : World) => Mf.upTo_c m x W
 have CP := Lib.hid fun (p : Mf.P) (W : World) => Mf.rightPart_c p W
 have HB := Lib.hid hb
 have HE := Lib.hid hE
 have HD := Lib.hid hd2
 have HA : Hid (∀ W, Below (w.alloc (.cells #[.slice ad D.length cd, .slice aa A.length ca, .int .i64 fl, .int .i64 nx] 37)).heap.size (w.alloc (.cells #[.slice ad D.length cd, .slice aa A.length ca, .int .i64 fl, .int .i64 nx] 37)) W → ∀ (i : Nat) (p : Mf.P), A[i]? = some p → ∃ b o, aa = some ⟨b, o, none⟩ ∧ Mf.PA W b (o + i * 8) p) := Lib.hid fun W hW i p hp => by
  rcases ha2 with ⟨h0, -⟩ | ⟨b, o, cs, fr, rfl, -, _, h⟩
  ·rw [h0] at hp; cases hp
  ·exact ⟨b, o, rfl, (Mf.Ps.part h hp).kept hW⟩
 obtain ⟨e0, e1, e2, e3⟩ := hE
 clear hd ha hd2 ha2 hb
 generalize Mf.right ⟨D, A, fl, nx⟩ = R at HRL HRD HRA HRF ⊢
 obtain ⟨n1, hn1⟩ : ∃ n1, n1 = D.length := ⟨_, rfl⟩
 obtain ⟨n2, hn2⟩ : ∃ n2, n2 = A.length := ⟨_, rfl⟩
 by_cases hl1 : D.length ≤ 1000
 ·by_cases hl2 : A.length ≤ 1000
  ·have i1 : (D.length : Int) ≤ 1000 := by omega
   have i2 : (A.length : Int) ≤ 1000 := by omega
   have j1 : ¬ (1000 : Int) < (D.length : Int) := by omega
   have j2 : ¬ (1000 : Int) < (A.length : Int) := by omega
   have HRF2 := Lib.hid (HRF.out hl1 hl2)
   clear HRL HRF hl1 hl2
   go_enter Tryd.func20, Tryd.ntmps20
   go_wp2_with fail
   generalize hwo : w.alloc _ = w1 at HB HE HD HA e0 e1 e2 e3 ⊢
   clear hwo
   go_loopw [20] (fun i wr => ∃ k : Nat, k ≤ D.length ∧ i = .int .i64 k ∧ (D.take k).all Mf.nm = true ∧ wr = w1) (fun i _ => D.length - (intOf i).toNat)
   case atStart => exact ⟨0, Nat.zero_le _, rfl, rfl, rfl⟩
   case round =>
    obtain ⟨k, hk, rfl, hall, rfl⟩ := hrel
    have hk0 : (0 : Int) ≤ (k : Int) := by omega
    by_cases hkl : k < D.length
    ·have hx := List.getElem?_eq_getElem hkl
     generalize D[k] = x at hx
     have HX := Lib.hid hx
     have HALL := Lib.hid hall
     rcases HD.out with ⟨h0, -⟩ | ⟨b, o, cs, fr, rfl, -, hbb, hc⟩
     ·rw [h0] at hkl; simp at hkl
     ·have c0 := Mf.Is.num hc hx
      have hki : (k : Int) < (D.length : Int) := by omega
      have cu := CU.out 999999999 x wr
      have hnm : Mf.up 999999999 x = Mf.nm x := rfl
      rw [hnm] at cu
      clear hbb hc hx hall
      cases hq : Mf.nm x
      ·rw [hq] at cu
       have HF := Lib.hid (HRD.out (Mf.all_not HX.out hq))
       clear hnm hq
       go_wp2_with fail
       with_reducible refine cu.mono ?_
       rintro e w2 ⟨rfl, rfl⟩
       go_wp2
       go_ret
       exact ⟨by rw [HF.out]; rfl, HB.out⟩
      ·rw [hq] at cu
       have HN := Lib.hid (Mf.all_take HX.out HALL.out hq)
       clear hnm hq
       go_wp2_with fail
       with_reducible refine cu.mono ?_
       rintro e w2 ⟨rfl, h9⟩
       subst w2
       go_wp2
       go_roundw
       case rel => exact ⟨k + 1, by omega, by simp, HN.out, trivial⟩
       case measure => simp [intOf]; omega
    ·obtain rfl : k = D.length := by omega
     have HALD : Hid (D.all Mf.nm = true) := Lib.hid (by rwa [List.take_length] at hall)
     have hki : ¬ (D.length : Int) < (D.length : Int) := by omega
     clear hk hall hkl HD HRD hk0
     go_wp2_with fail
     go_loopw [31] (fun i w3 => ∃ k : Nat, k ≤ A.length ∧ i = .int .i64 k ∧ (A.take k).all Mf.part = true ∧ Below wr.heap.size wr w3) (fun i _ => A.length - (intOf i).toNat)
     case atStart => exact ⟨0, Nat.zero_le _, rfl, rfl, Below.refl _ _⟩
     case round =>
      obtain ⟨k, hk, rfl, hall, hg⟩ := hrel
      have hk0 : (0 : Int) ≤ (k : Int) := by omega
      have HG := Lib.hid hg
      have HALL := Lib.hid hall
      by_cases hkl : k < A.length
      ·have hx := List.getElem?_eq_getElem hkl
       generalize A[k] = p at hx
       have HX := Lib.hid hx
       obtain ⟨b, o, rfl, hp⟩ := HA.out _ hg k p hx
       obtain ⟨p0, p1, p2, p3, p4, p5, p6, p7⟩ := hp
       have hki : (k : Int) < (A.length : Int) := by omega
       have CPP := Lib.hid (CP.out p)
       have HNO := Lib.hid fun hq => HRA.out (Mf.all_not HX.out hq)
       have HNX := Lib.hid fun hq => Mf.all_take HX.out HALL.out hq
       have HNEW := Lib.hid (fun (W : World) => Mf.PA.new W p 44)
       have HBA : Hid (Below w.heap.size w _) := Lib.hid (HB.out.trans (HG.out.mono HB.out.size))
       obtain ⟨id, lv, ⟨an, ai, sa⟩, ⟨bn, bi, sb⟩⟩ := p
       unfold Mf.P.val Mf.cs at CPP
       unfold Mf.cs at HNEW
       simp only at CPP HNEW p0 p1 p2 p3 p4 p5 p6 p7
       generalize Mf.part ⟨id, lv, ⟨an, ai, sa⟩, ⟨bn, bi, sb⟩⟩ = Q at CPP HNO HNX
       clear hx hall hg HX
       cases Q
       ·have HF := Lib.hid (HNO.out rfl)
        go_wp2_with fail
        with_reducible refine (CPP.out _).mono ?_
        rintro e w4 ⟨rfl, g4⟩
        have HB4 := Lib.hid ((HBA.out.alloc HBA.out.size (.cells #[.int .i64 id, .int .i64 lv, .bool an, .int .i64 ai, .string sa, .bool bn, .int .i64 bi, .string sb] 44)).trans (g4.mono (HBA.out.alloc HBA.out.size _).size))
        go_wp2
        go_ret
        exact ⟨by rw [HF.out]; rfl, HB4.out⟩
       ·have HN := Lib.hid (HNX.out rfl)
        go_wp2_with fail
        with_reducible refine (CPP.out _).mono ?_
        rintro e w4 ⟨rfl, g4⟩
        have HG4 := Lib.hid ((HG.out.alloc HG.out.size (.cells #[.int .i64 id, .int .i64 lv, .bool an, .int .i64 ai, .string sa, .bool bn, .int .i64 bi, .string sb] 44)).trans (g4.mono (HG.out.alloc HG.out.size _).size))
        clear g4
        go_wp2
        go_roundw
        case rel => exact ⟨k + 1, by omega, by simp, HN.out, HG4.out⟩
        case measure => simp [intOf]; omega
      ·obtain rfl : k = A.length := by omega
       have HALA : Hid (A.all Mf.part = true) := Lib.hid (by rwa [List.take_length] at hall)
       have hki : ¬ (A.length : Int) < (A.length : Int) := by omega
       have HFF := Lib.hid (HRF2.out HALD.out HALA.out)
       have HBA : Hid (Below w.heap.size w _) := Lib.hid (HB.out.trans (HG.out.mono HB.out.size))
       obtain ⟨f0, f1, f2, f3⟩ := HE.out.kept hg
       have CF := Lib.hid fun (W : World) => CU.out 999999999 fl W
       have CN := Lib.hid fun (W : World) => CU.out 999999999 nx W
       have hf9 : Mf.up 999999999 fl = Mf.nm fl := rfl
       have hn9 : Mf.up 999999999 nx = Mf.nm nx := rfl
       simp only [hf9, hn9] at CF CN
       clear hf9 hn9 e0 e1 e2 e3 hall hg HRA HA HALA HALD HALL HRF2 hkl hk hk0
       generalize Mf.nm fl = X1 at CF HFF
       generalize Mf.nm nx = X2 at CN HFF
       cases X1
       ·go_wp2_with fail
        with_reducible refine (CF.out _).mono ?_
        rintro e w4 ⟨rfl, h9⟩
        subst w4
        go_wp2
        go_ret
        exact ⟨by rw [HFF.out]; rfl, HBA.out⟩
       ·go_wp2_with fail
        with_reducible refine (CF.out _).mono ?_
        rintro e w4 ⟨rfl, h9⟩
        subst w4
        go_wp2_with fail
        with_reducible refine (CN.out _).mono ?_
        rintro e w4 ⟨rfl, h9⟩
        subst w4
        go_wp2
        go_ret
        exact ⟨by rw [HFF.out]; rfl, HBA.out⟩
  ·have HF := Lib.hid (HRL.out (.inr hl2))
   have j1 : ¬ (1000 : Int) < (D.length : Int) := by omega
   have j2 : (1000 : Int) < (A.length : Int) := by omega
   go_enter Tryd.func20, Tryd.ntmps20
   go_wp2
   go_ret
   exact ⟨by rw [HF.out]; rfl, HB.out⟩
 ·have HF := Lib.hid (HRL.out (.inl hl1))
  have j1 : (1000 : Int) < (D.length : Int) := by omega
  go_enter Tryd.func20, Tryd.ntmps20
  go_wp2
  go_ret
  exact ⟨by rw [HF.out]; rfl, HB.out⟩
end
section
open Go.RowKit
end
end Go.Proofs.YteaglaijkafphaaDoor
