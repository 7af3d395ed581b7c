import Derived.Test.YtikdcmplihgdcaaZAC
import Derived.Test.YtikdcmplihgdcaaZAH
import Derived.Laws.AppendOwnNone
import Derived.OneCell
import Derived.Laws.OwnMore
import Derived.Deep.Onto
import Derived.Test.YtikdcmplihgdcaaZAE
import Derived.Test.YtikdcmplihgdcaaZAG
import Derived.Lib.QuietBelow
import Derived.BigQuiet
import Derived.Test.YtikdcmplihgdcaaZAF
import Derived.Deep.RegionLaw
import Derived.Deep.RegionLawGrows
namespace Go.Proofs.Ytikdcmplihgdcaa
section
open Go.RowKit
section
variable {α : Type}
theorem Dk.flat_len {k : Nat} {enc : α → List Value} (he : ∀ x, (enc x).length = k) : ∀ L : List α, (L.flatMap enc).length = L.length * k
 | [] => by simp
 | x :: L => by
   have := Dk.flat_len he L
   rw [List.flatMap_cons, List.length_append, this, he, List.length_cons, Nat.succ_mul]
   omega
theorem Dk.flat_get {k : Nat} {enc : α → List Value} (he : ∀ x, (enc x).length = k) : ∀ (L : List α) (i j : Nat) (x : α), L[i]? = some x → j < k → (L.flatMap enc)[i * k + j]? = (enc x)[j]?
 | [], _, _, _, h, _ => by cases h
 | y :: L, 0, j, x, h, hj => by
   obtain rfl : y = x := by simpa using h
   rw [List.flatMap_cons, Nat.zero_mul, Nat.zero_add, List.getElem?_append_left (by rw [he]; exact hj)]
 | y :: L, i + 1, j, x, h, hj => by
   have ih := Dk.flat_get he L i j x (by simpa using h) hj
   have e : (i + 1) * k + j = (enc y).length + (i * k + j) := by rw [he, Nat.succ_mul]; omega
   rw [List.flatMap_cons, e, List.getElem?_append_right (Nat.le_add_right _ _), Nat.add_sub_cancel_left]
   exact ih
theorem Dk.flat_set {k : Nat} {enc : α → List Value} (he : ∀ x, (enc x).length = k) (L : List α) (i : Nat) (x y : α) (hi : L[i]? = some x) (j : Nat) (hj : j < k) (u : Value) (hy : enc y = (enc x).set j u) :
 (L.flatMap enc).set (i * k + j) u = (L.set i y).flatMap enc := by
 have hil : i < L.length := by
  rcases Nat.lt_or_ge i L.length with h | h
  ·exact h
  ·rw [List.getElem?_eq_none h] at hi; cases hi
 have hlen : (L.flatMap enc).length = L.length * k := Dk.flat_len he L
 have hm : i * k + j < L.length * k := by
  have := Nat.mul_le_mul_right k hil
  rw [Nat.succ_mul] at this
  omega
 refine List.ext_getElem? fun q => ?_
 by_cases hq : q < L.length * k
 ·have hk : 0 < k := by omega
  obtain ⟨a, b, hb, e⟩ : ∃ a b, b < k ∧ q = a * k + b := ⟨q / k, q % k, Nat.mod_lt _ hk, by rw [Nat.mul_comm]; exact (Nat.div_add_mod q k).symm⟩
  have ha : a < L.length := by
   rcases Nat.lt_or_ge a L.length with h | h
   ·exact h
   ·have := Nat.mul_le_mul_right k h; omega
  rw [e, Dk.flat_get he (L.set i y) a b (if i = a then y else L[a]) (by
   rw [List.getElem?_set]
   by_cases h : i = a
   ·rw [if_pos h, if_pos h, if_pos (by omega)]
   ·rw [if_neg h, if_neg h, List.getElem?_eq_getElem ha]) hb, List.getElem?_set]
  have hx : L[a]? = some L[a] := List.getElem?_eq_getElem ha
  by_cases h : i = a
  ·subst h
   rw [if_pos rfl, hy, List.getElem?_set]
   rw [hi] at hx
   have hxe := Option.some.inj hx
   by_cases hjb : j = b
   ·subst hjb
    rw [if_pos rfl, if_pos rfl, if_pos (by rw [hlen]; exact hm), if_pos (by rw [he]; exact hj)]
   ·rw [if_neg (by omega), if_neg hjb]
    exact Dk.flat_get he L i b x hi hb
  ·rw [if_neg h, if_neg (fun e2 => by
    have h1 : i * k + j = a * k + b := e2
    rcases Nat.lt_or_gt_of_ne h with h2 | h2
    ·have := Nat.mul_le_mul_right k h2; rw [Nat.succ_mul] at this; omega
    ·have := Nat.mul_le_mul_right k h2; rw [Nat.succ_mul] at this; omega)]
   exact Dk.flat_get he L a b _ hx hb
 ·rw [List.getElem?_eq_none (by rw [List.length_set, hlen]; omega), List.getElem?_eq_none (by rw [Dk.flat_len he, List.length_set]; omega)]
def Dk.Own (e : TypeId) (k : Nat) (enc : α → List Value) (base : Nat) (w : World) (v : Value) (L : List α) : Prop := w.ownsRow base e k v L.length (L.flatMap enc)
def Dk.At (P : Nat → Prop) (e : TypeId) (k : Nat) (enc : α → List Value) (w : World) (v : Value) (L : List α) : Prop :=
 ∃ a c, v = .slice a L.length c ∧ L.length ≤ c ∧ ((L = [] ∧ (a = none → c = 0)) ∨ ∃ b o cs fr, a = some ⟨b, o, none⟩ ∧ P b ∧ w.heap[b]? = some (.cells cs e fr) ∧ ∀ i j x, L[i]? = some x → j < k → w.cell? ⟨b, o + i * k + j, none⟩ = (enc x)[j]?)
theorem Dk.addr_add (b o i : Nat) : (⟨b, o, none⟩ : Addr).add i = ⟨b, o + i, none⟩ := by unfold Addr.add; split <;> simp_all
variable {P P' : Nat → Prop} {e : TypeId} {k : Nat} {enc : α → List Value}
theorem Dk.Own.nil (base : Nat) (w : World) : Dk.Own e k enc base w (.slice none 0 0) ([] : List α) := World.ownsRow_nil w base _ k
theorem Dk.Own.base_le {base : Nat} {w : World} {v : Value} {L : List α} (h : Dk.Own e k enc base w v L) : ∀ b, v.ownBlock = some b → base ≤ b := fun b hb => (World.ownsRow.lt h b hb).1
theorem Dk.Own.lt {base : Nat} {w : World} {v : Value} {L : List α} (h : Dk.Own e k enc base w v L) : ∀ b, v.ownBlock = some b → b < w.heap.size := fun b hb => (World.ownsRow.lt h b hb).2
theorem Dk.Own.typed {base : Nat} {w : World} {v : Value} {L : List α} (h : Dk.Own e k enc base w v L) : ∀ b, v.ownBlock = some b → ∃ cs, w.heap[b]? = some (.cells cs e (0, 0)) := by
 intro b hb
 rcases h.2 with ⟨rfl, _⟩ | ⟨g, cap, cur, rfl, _, hg, _⟩
 ·cases hb
 ·have : g = b := by simpa [Value.ownBlock] using hb
  subst this
  exact ⟨cur, hg⟩
theorem Dk.Own.same {base : Nat} {w w' : World} {v : Value} {L : List α} (h : Dk.Own e k enc base w v L) (g : ∀ b, v.ownBlock = some b → w'.heap[b]? = w.heap[b]?) : Dk.Own e k enc base w' v L := by
 refine ⟨h.1, ?_⟩
 rcases h.2 with hn | ⟨b, cap, cur, rfl, hbb, hgg, rest⟩
 ·exact .inl hn
 ·exact .inr ⟨b, cap, cur, rfl, hbb, by rw [g b rfl]; exact hgg, rest⟩
theorem Dk.Own.kept {base : Nat} {w w' : World} {v : Value} {L : List α} (h : Dk.Own e k enc base w v L) (g : Below w.heap.size w w') : Dk.Own e k enc base w' v L :=
 h.same fun b hb => g.block b (h.lt b hb)
theorem Dk.own_below {wo w w' : World} {v v' : Value} {L : List α} (hb : Below wo.heap.size wo w) (ho : Dk.Own e k enc wo.heap.size w v L) (g : Ty.Grew w w' v v') : Below wo.heap.size wo w' :=
 hb.trans (g.below hb.size ho.base_le)
theorem Dk.Own.form {base : Nat} {w : World} {v : Value} {L : List α} (h : Dk.Own e k enc base w v L) : (v = .slice none 0 0 ∧ L = []) ∨ ∃ g c, v = .slice (some ⟨g, 0, none⟩) L.length c ∧ L.length ≤ c ∧ c ≤ maxLen ∧ base ≤ g ∧ g < w.heap.size := by
 rcases h.2 with ⟨e1, e0⟩ | ⟨g, cap, cur, e1, hbg, hgg, hcap, hm, _⟩
 ·exact .inl ⟨e1, List.eq_nil_of_length_eq_zero e0⟩
 ·exact .inr ⟨g, cap, e1, hcap, hm, hbg, (Array.getElem?_eq_some_iff.1 hgg).1⟩
theorem Dk.Own.cell (he : ∀ x, (enc x).length = k) {base : Nat} {w : World} {v : Value} {L : List α} (h : Dk.Own e k enc base w v L) {g : Nat} (hv : v.ownBlock = some g) {i j : Nat} {x : α} (hi : L[i]? = some x) (hj : j < k) : w.cell? ⟨g, i * k + j, none⟩ = (enc x)[j]? := by
 have hx : (enc x)[j]? = some ((enc x)[j]'(by rw [he]; exact hj)) := List.getElem?_eq_getElem _
 have := World.ownsRow.cells h hv (i * k + j) _ ((Dk.flat_get he L i j x hi hj).trans hx)
 rw [Dk.addr_add, Nat.zero_add] at this
 rw [this, hx]
theorem Dk.Own.at (he : ∀ x, (enc x).length = k) {base : Nat} {w : World} {v : Value} {L : List α} (h : Dk.Own e k enc base w v L) : Dk.At (fun b => base ≤ b ∧ b < w.heap.size) e k enc w v L := by
 rcases h.form with ⟨rfl, rfl⟩ | ⟨g, c, rfl, hc, _, hb, hg⟩
 ·exact ⟨none, 0, rfl, Nat.le_refl _, .inl ⟨rfl, fun _ => rfl⟩⟩
 ·obtain ⟨cs, hcs⟩ := h.typed g rfl
  refine ⟨_, c, rfl, hc, .inr ⟨g, 0, cs, (0, 0), rfl, ⟨hb, hg⟩, hcs, fun i j x hi hj => ?_⟩⟩
  rw [Nat.zero_add]
  exact h.cell he rfl hi hj
theorem Dk.At.same {w w' : World} {v : Value} {L : List α} (h : Dk.At P e k enc w v L) (g : ∀ b, P b → w'.heap[b]? = w.heap[b]?) : Dk.At P e k enc w' v L := by
 obtain ⟨a, c, hv, hc, h⟩ := h
 refine ⟨a, c, hv, hc, ?_⟩
 rcases h with h | ⟨b, o, cs, fr, ha, hP, hb, h⟩
 ·exact .inl h
 ·refine .inr ⟨b, o, cs, fr, ha, hP, (g b hP).trans hb, fun i j x hi hj => ?_⟩
  rw [← h i j x hi hj]
  exact World.cell?_of_block (g b hP)
theorem Dk.At.imp {w : World} {v : Value} {L : List α} (h : Dk.At P e k enc w v L) (g : ∀ b, P b → P' b) : Dk.At P' e k enc w v L := by
 obtain ⟨a, c, hv, hc, h⟩ := h
 refine ⟨a, c, hv, hc, ?_⟩
 rcases h with h | ⟨b, o, cs, fr, ha, hP, hb, h⟩
 ·exact .inl h
 ·exact .inr ⟨b, o, cs, fr, ha, g b hP, hb, h⟩
theorem Dk.At.alive {w : World} {v : Value} {L : List α} (h : Dk.At P e k enc w v L) : Dk.At (fun b => P b ∧ b < w.heap.size) e k enc w v L := by
 obtain ⟨a, c, hv, hc, h⟩ := h
 refine ⟨a, c, hv, hc, ?_⟩
 rcases h with h | ⟨b, o, cs, fr, ha, hP, hb, h⟩
 ·exact .inl h
 ·exact .inr ⟨b, o, cs, fr, ha, ⟨hP, lt_of_block hb⟩, hb, h⟩
theorem Dk.At.kept {w w' : World} {v : Value} {L : List α} (h : Dk.At P e k enc w v L) (g : Below w.heap.size w w') : Dk.At P e k enc w' v L :=
 ((h.alive).same fun b hb => g.block b hb.2).imp fun _ hb => hb.1
theorem Dk.At.nil (w : World) : Dk.At P e k enc w (.slice none 0 0) ([] : List α) := ⟨none, 0, rfl, Nat.le_refl _, .inl ⟨rfl, fun _ => rfl⟩⟩
def Dk.Src (enc : α → List Value) (w : World) (u : Value) (K : List α) : Prop :=
 (u = .slice none 0 0 ∧ K = []) ∨ ∃ ad c, u = .slice (some ad) K.length c ∧ ∀ j y, (K.flatMap enc)[j]? = some y → w.cell? (ad.add j) = some y
theorem Dk.src_cells {w : World} {b o : Nat} {K : List α} (he : ∀ x, (enc x).length = k) (hk : 0 < k) (h : ∀ i j x, K[i]? = some x → j < k → w.cell? ⟨b, o + i * k + j, none⟩ = (enc x)[j]?) :
 ∀ j y, (K.flatMap enc)[j]? = some y → w.cell? ((⟨b, o, none⟩ : Addr).add j) = some y := by
 intro q y hq
 have hql : q < K.length * k := by
  rw [← Dk.flat_len he K]
  exact (List.getElem?_eq_some_iff.1 hq).1
 obtain ⟨i, j, hj, e1⟩ : ∃ i j, j < k ∧ q = i * k + j := ⟨q / k, q % k, Nat.mod_lt _ hk, by rw [Nat.mul_comm]; exact (Nat.div_add_mod q k).symm⟩
 have hi : i < K.length := by
  rcases Nat.lt_or_ge i K.length with h | h
  ·exact h
  ·have := Nat.mul_le_mul_right k h; omega
 have hx : K[i]? = some K[i] := List.getElem?_eq_getElem hi
 rw [Dk.addr_add, e1, ← Nat.add_assoc, h i j _ hx hj, ← Dk.flat_get he K i j _ hx hj, ← e1, hq]
theorem Dk.append_many {Pr : Program} (T : TypeId) (z : Value) (by_ : Nat) (hT : Pr.underlying T = some (.slice e)) (hinfo : (Pr.info? e).map (fun i => (i.zero, i.size, i.bytes)) = some (some z, k, by_)) (hz : z.cells.size = k) (hk : 0 < k)
 (he : ∀ x, (enc x).length = k) (hone : ∀ x, ∀ u ∈ enc x, u.oneCell' = true) {base : Nat} {w0 : World} {v : Value} {M K : List α} (hown : Dk.Own e k enc base w0 v M) (hb : base ≤ w0.heap.size)
 (hl : (M.length + K.length) * by_ ≤ 140737488355328) (hl2 : M.length + K.length ≤ 140737488355328) {u : Value} (hu : Dk.Src enc w0 u K) (ty : TypeId) :
 ∃ v' w', (Builtin.append_ #[T, T] ty #[v, u]).run Pr w0 = .ok v' w' ∧ Dk.Own e k enc base w' v' (M ++ K) ∧ Ty.Grew w0 w' v v' := by
 obtain ⟨i0, hi, hz0, hz1, hz2⟩ := info_parts hinfo
 rcases hu with ⟨rfl, rfl⟩ | ⟨ad, c, rfl, hK⟩
 ·exact ⟨v, w0, run_append_owned_none (P := Pr) w0 base T ty e i0 k hT hi v _ _ hown, by rw [List.append_nil]; exact hown, Ty.Grew.refl _ _⟩
 ·obtain ⟨v', w', hr, h1, h2⟩ := Ty.append_tight (P := Pr) w0 base T ty e i0 _ k by_ hT hi hz0 hz1 hz2 hz hk v M.length (M.flatMap enc) hown ad K.length c (K.flatMap enc) (Dk.flat_len he K) hK (fun y hy => by
   obtain ⟨x, _, hx⟩ := List.mem_flatMap.1 hy
   exact hone x y hx) (by unfold maxLen; omega) hl hb
  refine ⟨v', w', hr, ?_, h2⟩
  unfold Dk.Own
  rw [List.length_append, List.flatMap_append]
  exact h1
theorem Dk.wpList_append {Pr : Program} (T : TypeId) (z : Value) (by_ : Nat) (hT : Pr.underlying T = some (.slice e)) (hinfo : (Pr.info? e).map (fun i => (i.zero, i.size, i.bytes)) = some (some z, k, by_)) (hz : z.cells.size = k) (hk : 0 < k)
 (he : ∀ x, (enc x).length = k) (hone : ∀ x, ∀ u ∈ enc x, u.oneCell' = true) {base : Nat} {w0 : World} {v : Value} {M : List α} (K : List α) (hown : Dk.Own e k enc base w0 v M) (hb : base ≤ w0.heap.size)
 (hl : (M.length + K.length) * by_ ≤ 140737488355328) (hl2 : M.length + K.length ≤ 140737488355328) {u : Value} (hu : Dk.Src enc w0 u K)
 {ops : Array Oper} {rest : List Oper} {o : Oper} {a : Act} {Q : Exit → Act → World → Prop} (s x : Operand) (hgd : Region.wanted o (yielded ops a.tmps) = true)
 (ho : o.op = .call { callee := .builtin .append, args := #[s, x], argTypes := #[T, T] })
 (hs : a.eval s = v) (hx : a.eval x = u)
 (h : ∀ v' w', Dk.Own e k enc base w' v' (M ++ K) → Ty.Grew w0 w' v v' → wpList Pr ops Q rest (a.put o.dst v') w') :
 wpList Pr ops Q (o :: rest) a w0 := by
 refine wpList_step fun Kx hKx => ?_
 rw [if_pos hgd]
 obtain ⟨v', w', hr, h2, h3⟩ := Dk.append_many (Pr := Pr) T z by_ hT hinfo hz hk he hone hown hb hl hl2 hu o.type
 unfold Oper.wp execOp
 simp only [ho, resolve, invoke, builtin, Sem.run_bind, Sem.run_pure, Result.andThen_ok, List.map_toArray, List.map_cons, List.map_nil, hs, hx, hr]
 exact hKx _ _ (h v' w' h2 h3)
theorem Dk.step_appendB {Pr : Program} (T : TypeId) (z : Value) (by_ : Nat) (hT : Pr.underlying T = some (.slice e)) (hinfo : (Pr.info? e).map (fun i => (i.zero, i.size, i.bytes)) = some (some z, k, by_)) (hz : z.cells.size = k) (hk : 0 < k)
 (he : ∀ x, (enc x).length = k) (hone : ∀ x, ∀ u ∈ enc x, u.oneCell' = true) {base : Nat} {w0 : World} {v : Value} {M : List α} (K : List α) (hb : base ≤ w0.heap.size) (hown : Dk.Own e k enc base w0 v M)
 (hl : (M.length + K.length) * by_ ≤ 140737488355328) (hl2 : M.length + K.length ≤ 140737488355328)
 {ops : Array Oper} {o : Oper} {a : Act} {Kx : Act → World → Prop} {Q : Exit → Act → World → Prop} {E : Prop} (s x : Operand) (u : Value) (hgd : o.guard = none)
 (ho : o.op = .call { callee := .builtin .append, args := #[s, x], argTypes := #[T, T] })
 (hs : a.eval s = v) (hx : a.eval x = u) (hu : Dk.Src enc w0 u K)
 (h : ∀ v' w', Dk.Own e k enc base w' v' (M ++ K) → Ty.Grew w0 w' v v' → Kx (a.put o.dst v') w') :
 if Region.wanted o (yielded ops a.tmps) = true then Oper.wp Pr o a w0 Kx Q else E := by
 have hw : Region.wanted o (yielded ops a.tmps) = true := by simp [Region.wanted, hgd]
 rw [if_pos hw]
 obtain ⟨v', w', hr, h2, h3⟩ := Dk.append_many (Pr := Pr) T z by_ hT hinfo hz hk he hone hown hb hl hl2 hu o.type
 unfold Oper.wp execOp
 simp only [ho, resolve, invoke, builtin, Sem.run_bind, Sem.run_pure, Result.andThen_ok, List.map_toArray, List.map_cons, List.map_nil, hs, hx, hr]
 exact h v' w' h2 h3
theorem Dk.Own.form1 {base : Nat} {w : World} {v : Value} {M : List α} {x : α} (h : Dk.Own e k enc base w v (M ++ [x])) : ∃ g c, v = .slice (some ⟨g, 0, none⟩) (M.length + 1) c ∧ M.length + 1 ≤ c ∧ c ≤ maxLen := by
 rcases h.form with ⟨_, h0⟩ | ⟨g, c, rfl, hc, hm, _, _⟩
 ·exact absurd h0 (by simp)
 ·exact ⟨g, c, by rw [List.length_append]; rfl, by rw [List.length_append] at hc; exact hc, hm⟩
theorem Dk.src_take (he : ∀ x, (enc x).length = k) (hk : 0 < k) {w : World} {D : List α} {b q : Nat} (hc : ∀ i j x, D[i]? = some x → j < k → w.cell? ⟨b, i * k + j, none⟩ = (enc x)[j]?) (hq : q ≤ D.length) (c : Nat) : Dk.Src enc w (.slice (some ⟨b, 0, none⟩) q c) (D.take q) := by
 have hl : (D.take q).length = q := by rw [List.length_take]; omega
 refine .inr ⟨⟨b, 0, none⟩, c, by rw [hl], Dk.src_cells he hk fun i j x hi hj => ?_⟩
 rw [Nat.zero_add]
 refine hc i j x ?_ hj
 rw [List.getElem?_take] at hi
 split at hi
 ·exact hi
 ·cases hi
theorem Dk.src_drop (he : ∀ x, (enc x).length = k) (hk : 0 < k) {w : World} {D : List α} {b q o : Nat} (ho : o = q * k) (hc : ∀ i j x, D[i]? = some x → j < k → w.cell? ⟨b, i * k + j, none⟩ = (enc x)[j]?) (c : Nat) : Dk.Src enc w (.slice (some ⟨b, o, none⟩) (D.length - q) c) (D.drop q) := by
 subst ho
 have hl : (D.drop q).length = D.length - q := List.length_drop
 refine .inr ⟨⟨b, q * k, none⟩, c, by rw [hl], Dk.src_cells he hk fun i j x hi hj => ?_⟩
 rw [List.getElem?_drop] at hi
 rw [← Nat.add_mul]
 exact hc (q + i) j x hi hj
theorem Dk.src_none {w : World} (b o c m : Nat) {K : List α} (hK : K = []) (hm : m = 0) : Dk.Src enc w (.slice (some ⟨b, o, none⟩) m c) K := by
 subst hK hm
 exact .inr ⟨_, c, rfl, fun j y hj => by simp at hj⟩
theorem Dk.src_one (w : World) (x : α) (cs : Array Value) (hcs : cs = (enc x).toArray) (t : TypeId) : Dk.Src enc (w.alloc (.cells cs t)) (.slice (some ⟨w.heap.size, 0, none⟩) 1 1) [x] := by
 refine .inr ⟨⟨w.heap.size, 0, none⟩, 1, rfl, fun j y hj => ?_⟩
 rw [Dk.addr_add, Nat.zero_add]
 have e1 : ([x].flatMap enc) = enc x := by simp
 rw [e1] at hj
 have hn := heap_alloc_new w (.cells cs t)
 simp only [World.cell?, hn]
 subst hcs
 simpa using hj
theorem Dk.src_cell {w : World} {b : Nat} {x : α} (h : ∀ j y, (enc x)[j]? = some y → w.cell? ⟨b, j, none⟩ = some y) : Dk.Src enc w (.slice (some ⟨b, 0, none⟩) 1 1) [x] := by
 refine .inr ⟨⟨b, 0, none⟩, 1, rfl, fun j y hj => ?_⟩
 rw [Dk.addr_add, Nat.zero_add]
 have e1 : ([x].flatMap enc) = enc x := by simp
 rw [e1] at hj
 exact h j y hj
theorem Dk.cell_new {w : World} {cs : Array Value} {t : TypeId} {x : α} (hcs : cs = (enc x).toArray) : ∀ j y, (enc x)[j]? = some y → (w.alloc (.cells cs t)).cell? ⟨w.heap.size, j, none⟩ = some y := by
 intro j y hj
 have hn := heap_alloc_new w (.cells cs t)
 simp only [World.cell?, hn]
 subst hcs
 simpa using hj
theorem Dk.cell_kept {w w' : World} {v' : Value} (g : Ty.Grew w w' (.slice none 0 0) v') {a : Addr} {x : Value} (h : w.cell? a = some x) : w'.cell? a = some x := by
 have hb : Below w.heap.size w w' := g.below (Nat.le_refl _) (fun k hk => by cases hk)
 exact (hb.cell (World.block_lt_of_cell? w _ h)).trans h
theorem Dk.wpList_append1 {Pr : Program} (T : TypeId) (z : Value) (by_ : Nat) (hT : Pr.underlying T = some (.slice e)) (hinfo : (Pr.info? e).map (fun i => (i.zero, i.size, i.bytes)) = some (some z, k, by_)) (hz : z.cells.size = k) (hk : 0 < k)
 (he : ∀ x, (enc x).length = k) (hone : ∀ x, ∀ u ∈ enc x, u.oneCell' = true) {base : Nat} {w0 : World} {v : Value} {M : List α} (x : α) (hown : Dk.Own e k enc base w0 v M) (hb : base ≤ w0.heap.size)
 (hl : (M.length + 1) * by_ ≤ 140737488355328) (hl2 : M.length + 1 ≤ 140737488355328) (q : Nat) (hq : q = w0.heap.size) (cs : Array Value) (hcs : cs = (enc x).toArray)
 {ops : Array Oper} {rest : List Oper} {o : Oper} {a : Act} {Q : Exit → Act → World → Prop} (s y : Operand) (hgd : Region.wanted o (yielded ops a.tmps) = true)
 (ho : o.op = .call { callee := .builtin .append, args := #[s, y], argTypes := #[T, T] })
 (hs : a.eval s = v) (hx : a.eval y = .slice (some ⟨q, 0, none⟩) 1 1)
 (h : ∀ v' w', Dk.Own e k enc base w' v' (M ++ [x]) → Ty.Grew w0 w' v v' → wpList Pr ops Q rest (a.put o.dst v') w') :
 wpList Pr ops Q (o :: rest) a (w0.alloc (.cells cs e)) := by
 subst hq
 exact Dk.wpList_append T z by_ hT hinfo hz hk he hone [x] (World.ownsRow.alloc hown _) (by rw [World.size_alloc]; omega) hl hl2 (Dk.src_one w0 x cs hcs e) s y hgd ho hs hx fun v' w' h1 h2 => h v' w' h1 (h2.behind _)
theorem Dk.Own.set (he : ∀ x, (enc x).length = k) {base : Nat} {w : World} {v : Value} {L : List α} (h : Dk.Own e k enc base w v L) {g : Nat} (hv : v.ownBlock = some g) {i j : Nat} {x : α} (hi : L[i]? = some x) (hj : j < k) (u : Value) (y : α) (hy : enc y = (enc x).set j u) :
 Dk.Own e k enc base (w.setCell ⟨g, i * k + j, none⟩ u) v (L.set i y) := by
 rcases h.form with ⟨rfl, rfl⟩ | ⟨g', c, rfl, hc, _, hb, hg⟩
 ·cases hi
 ·have : g' = g := by simpa [Value.ownBlock] using hv
  subst this
  have := (World.ownsRow.stored h (i * k + j) u).1
  rw [Dk.flat_set he L i x y hi j hj u hy] at this
  unfold Dk.Own
  rw [List.length_set]
  exact this
end
end
section
open Go.RowKit
def Bk.sv (x : Option Addr × Nat × Nat) : Value := .slice x.1 x.2.1 x.2.2
def Bk.e1 (x : Option Addr × Nat × Nat) : List Value := [Bk.sv x]
theorem Bk.e1_len (x : Option Addr × Nat × Nat) : (Bk.e1 x).length = 1 := rfl
theorem Bk.e1_one (x : Option Addr × Nat × Nat) : ∀ u ∈ Bk.e1 x, u.oneCell' = true := fun u hu => by
 simp only [Bk.e1, List.mem_cons, List.not_mem_nil, or_false] at hu
 subst hu
 rfl
structure Bk.Dr (w : World) (v : Value) (L : List Dd.D) (R : Nat → Option Addr × Nat × Nat) : Prop where
 is : ∃ a c, v = .slice a L.length c ∧ (L = [] ∨ ∃ b o, a = some ⟨b, o, none⟩ ∧ b < w.heap.size ∧
  ∀ i x, L[i]? = some x → w.cell? ⟨b, o + i * 2, none⟩ = some (.bool x.gone) ∧ w.cell? ⟨b, o + i * 2 + 1, none⟩ = some (Bk.sv (R i)))
theorem Bk.Dr.later {w w' : World} {v : Value} {L : List Dd.D} {R : Nat → Option Addr × Nat × Nat} (h : Bk.Dr w v L R) (g : Below w.heap.size w w') : Bk.Dr w' v L R := by
 obtain ⟨a, c, hv, h⟩ := h
 refine ⟨a, c, hv, ?_⟩
 rcases h with h | ⟨b, o, ha, hb, h⟩
 ·exact .inl h
 ·refine .inr ⟨b, o, ha, Nat.lt_of_lt_of_le hb g.size, fun i x hx => ?_⟩
  obtain ⟨c0, c1⟩ := h i x hx
  exact ⟨(g.cell (p := ⟨b, o + i * 2, none⟩) hb).trans c0, (g.cell (p := ⟨b, o + i * 2 + 1, none⟩) hb).trans c1⟩
def Bk.partsOf : Option Value → Option Addr × Nat × Nat
 | some (.slice a n c) => (a, n, c)
 | _ => (none, 0, 0)
theorem Bk.Ds.dr {w : World} {v : Value} {L : List Dd.D} (h : Bk.Ds w v L) : ∃ R, Bk.Dr w v L R ∧ ∀ i x, L[i]? = some x → Kn.Vals w (Bk.sv (R i)) x.row := by
 obtain ⟨a, c, hv, _, _, h⟩ := h
 rcases h with rfl | ⟨b, o, ha, hb, h⟩
 ·exact ⟨fun _ => (none, 0, 0), ⟨a, c, hv, .inl rfl⟩, fun i x hx => by simp at hx⟩
 ·have key : ∀ i x, L[i]? = some x → w.cell? ⟨b, o + i * 2 + 1, none⟩ = some (Bk.sv (Bk.partsOf (w.cell? ⟨b, o + i * 2 + 1, none⟩))) ∧ Kn.Vals w (Bk.sv (Bk.partsOf (w.cell? ⟨b, o + i * 2 + 1, none⟩))) x.row := fun i x hx => by
   obtain ⟨u, _, c1, hu⟩ := h i x hx
   rw [c1]
   obtain ⟨a', c', rfl, hu'⟩ := hu
   exact ⟨rfl, a', c', rfl, hu'⟩
  exact ⟨fun i => Bk.partsOf (w.cell? ⟨b, o + i * 2 + 1, none⟩), ⟨a, c, hv, .inr ⟨b, o, ha, hb, fun i x hx => ⟨(h i x hx).choose_spec.1, (key i x hx).1⟩⟩⟩, fun i x hx => (key i x hx).2⟩
def Bk.hl (i : Nat) (R : Nat → Option Addr × Nat × Nat) : Nat → List Dd.D → List (Option Addr × Nat × Nat)
 | _, [] => []
 | k, d :: r => if Bk.has i d = true then R k :: Bk.hl i R (k + 1) r else Bk.hl i R (k + 1) r
def Bk.wd (s : List Kn.C) (g : Bool) : Nat := if g = true then 1 else s.length
end
section
open Go.RowKit
theorem Rn.infoB : (Try.prog.info? 25).map (fun i => (i.zero, i.size, i.bytes)) = some (some (.slice none 0 0), 1, 24) := by kernel_rfl
def Rn.part (b o n c i : Nat) : Option Addr × Nat × Nat := (some ⟨b, o + 8 * i * 2, none⟩, min 8 (n - 8 * i), c - 8 * i)
def Rn.parts (b o n c k : Nat) : List (Option Addr × Nat × Nat) := (List.range k).map (Rn.part b o n c)
end
section
open Go.RowKit
def Rn.il {α : Type} (p : Dd.D → Bool) (f : Nat → Dd.D → α) : Nat → List Dd.D → List α
 | _, [] => []
 | k, d :: r => if p d = true then f k d :: Rn.il p f (k + 1) r else Rn.il p f (k + 1) r
theorem Rn.il_snoc {α : Type} (p : Dd.D → Bool) (f : Nat → Dd.D → α) (d : Dd.D) : ∀ (k : Nat) (A : List Dd.D), Rn.il p f k (A ++ [d]) = Rn.il p f k A ++ if p d = true then [f (k + A.length) d] else []
 | k, [] => by
   simp only [List.nil_append, Rn.il, List.length_nil, Nat.add_zero]
 | k, x :: A => by
   have ih := Rn.il_snoc p f d (k + 1) A
   simp only [List.cons_append, Rn.il, List.length_cons]
   rw [ih, show k + 1 + A.length = k + (A.length + 1) by omega]
   split <;> simp
theorem Rn.il_take {α : Type} {p : Dd.D → Bool} {f : Nat → Dd.D → α} {L : List Dd.D} {k : Nat} {d : Dd.D} (h : L[k]? = some d) : Rn.il p f 0 (L.take (k + 1)) = Rn.il p f 0 (L.take k) ++ if p d = true then [f k d] else [] := by
 obtain ⟨hk, rfl⟩ := List.getElem?_eq_some_iff.1 h
 rw [List.take_succ_eq_append_getElem hk, Rn.il_snoc, List.length_take, Nat.min_eq_left (by omega), Nat.zero_add]
theorem Rn.il_len {α : Type} (p : Dd.D → Bool) (f : Nat → Dd.D → α) : ∀ (k : Nat) (L : List Dd.D), (Rn.il p f k L).length = (L.filter p).length
 | _, [] => rfl
 | k, d :: L => by
   have ih := Rn.il_len p f (k + 1) L
   unfold Rn.il
   rw [List.filter_cons]
   split
   ·rw [List.length_cons, List.length_cons, ih]
   ·exact ih
theorem Rn.il_at {α : Type} (p : Dd.D → Bool) (f : Nat → Dd.D → α) : ∀ (o : Nat) (L : List Dd.D) (k : Nat) (d : Dd.D), (L.filter p)[k]? = some d → ∃ j, L[j]? = some d ∧ (Rn.il p f o L)[k]? = some (f (o + j) d)
 | _, [], k, d, h => by simp at h
 | o, x :: L, k, d, h => by
   unfold Rn.il
   rw [List.filter_cons] at h
   by_cases hp : p x = true
   ·rw [if_pos hp] at h ⊢
    cases k with
    | zero =>
      obtain rfl : x = d := by simpa using h
      exact ⟨0, rfl, rfl⟩
    | succ k =>
      obtain ⟨j, h1, h2⟩ := Rn.il_at p f (o + 1) L k d (by simpa using h)
      exact ⟨j + 1, by simpa using h1, by rw [List.getElem?_cons_succ, h2]; congr 2; omega⟩
   ·rw [if_neg hp] at h ⊢
    obtain ⟨j, h1, h2⟩ := Rn.il_at p f (o + 1) L k d h
    exact ⟨j + 1, by simpa using h1, by rw [h2]; congr 2; omega⟩
def Rn.e2 (x : Bool × (Option Addr × Nat × Nat)) : List Value := [.bool x.1, Bk.sv x.2]
theorem Rn.e2_len (x : Bool × (Option Addr × Nat × Nat)) : (Rn.e2 x).length = 2 := rfl
theorem Rn.e2_one (x : Bool × (Option Addr × Nat × Nat)) : ∀ u ∈ Rn.e2 x, u.oneCell' = true := fun u hu => by
 simp only [Rn.e2, List.mem_cons, List.not_mem_nil, or_false] at hu
 rcases hu with rfl | rfl <;> rfl
theorem Rn.infoD : (Try.prog.info? 41).map (fun i => (i.zero, i.size, i.bytes)) = some (some (.agg #[.bool false, .slice none 0 0]), 2, 32) := by kernel_rfl
def Rn.fd (R : Nat → Option Addr × Nat × Nat) (k : Nat) (d : Dd.D) : Bool × (Option Addr × Nat × Nat) := (d.gone, R k)
theorem Rn.own_ds {base : Nat} {w : World} {u : Value} {L : List Dd.D} {R : Nat → Option Addr × Nat × Nat} {p : Dd.D → Bool} (h : Dk.Own 41 2 Rn.e2 base w u (Rn.il p (Rn.fd R) 0 L)) (hr : ∀ i x, L[i]? = some x → Kn.Vals w (Bk.sv (R i)) x.row) : Bk.Ds w u (L.filter p) := by
 have hl := Rn.il_len p (Rn.fd R) 0 L
 rcases h.form with ⟨rfl, h0⟩ | ⟨g, c, rfl, h1, h2, _, h4⟩
 ·rw [h0] at hl
  have : L.filter p = [] := List.eq_nil_of_length_eq_zero hl.symm
  rw [this]
  exact ⟨none, 0, rfl, Nat.le_refl _, by omega, .inl rfl⟩
 ·refine ⟨_, c, by rw [hl], by rw [← hl]; exact h1, by unfold maxLen at h2; omega, .inr ⟨g, 0, rfl, h4, fun i x hx => ?_⟩⟩
  obtain ⟨j, hj, hi⟩ := Rn.il_at p (Rn.fd R) 0 L i x hx
  have c0 := h.cell Rn.e2_len rfl hi (j := 0) (by decide)
  have c1 := h.cell Rn.e2_len rfl hi (j := 1) (by decide)
  rw [Nat.zero_add]
  rw [Nat.zero_add] at c0 c1
  exact ⟨Bk.sv (R j), c0, c1, hr j x hj⟩
theorem Rn.row_at {w : World} {a : Option Addr} {n c : Nat} {vs : List Kn.V} (h : Kn.Vals w (.slice a n c) vs) {i : Nat} {x : Kn.V} (hx : vs[i]? = some x) : n = vs.length ∧ ∃ b o, a = some ⟨b, o, none⟩ ∧ b < w.heap.size ∧ Kn.At w b (o + i * 3) x := by
 obtain ⟨a', c', e, h⟩ := h
 simp only [Value.slice.injEq] at e
 obtain ⟨rfl, rfl, _⟩ := e
 rcases h with rfl | ⟨b, o, rfl, hb, _, h⟩
 ·simp at hx
 ·exact ⟨rfl, b, o, rfl, hb, h i x hx⟩
theorem Rn.key_at {d : Dd.D} (h : d.row ≠ []) : d.row[0]? = some (Bk.key d) := by
 unfold Bk.key
 cases hr : d.row with
 | nil => exact absurd hr h
 | cons x l => rfl
end
section
open Go.RowKit
structure Mg.Ls (w : World) (v : Value) (LL : List (List Dd.D)) : Prop where
 is : ∃ a c, v = .slice a LL.length c ∧ LL.length ≤ c ∧ c ≤ 9223372036854775807 ∧ (LL = [] ∨ ∃ b o, a = some ⟨b, o, none⟩ ∧ b < w.heap.size ∧
  ∀ i L, LL[i]? = some L → ∃ u, w.cell? ⟨b, o + i, none⟩ = some u ∧ Bk.Ds w u L)
theorem Mg.Ls.later {w w' : World} {v : Value} {LL : List (List Dd.D)} (h : Mg.Ls w v LL) (g : Below w.heap.size w w') : Mg.Ls w' v LL := by
 obtain ⟨a, c, hv, h1, h2, h⟩ := h
 refine ⟨a, c, hv, h1, h2, ?_⟩
 rcases h with h | ⟨b, o, ha, hb, h⟩
 ·exact .inl h
 ·refine .inr ⟨b, o, ha, Nat.lt_of_lt_of_le hb g.size, fun i L hx => ?_⟩
  obtain ⟨u, c0, hu⟩ := h i L hx
  exact ⟨u, (g.cell (p := ⟨b, o + i, none⟩) hb).trans c0, hu.later g⟩
structure Mg.Lr (w : World) (v : Value) (LL : List (List Dd.D)) (R : Nat → Option Addr × Nat × Nat) : Prop where
 is : ∃ a c, v = .slice a LL.length c ∧ LL.length ≤ c ∧ c ≤ 9223372036854775807 ∧ (LL = [] ∨ ∃ b o, a = some ⟨b, o, none⟩ ∧ b < w.heap.size ∧
  ∀ i L, LL[i]? = some L → w.cell? ⟨b, o + i, none⟩ = some (Bk.sv (R i)))
theorem Mg.ds_parts {w : World} {u : Value} {L : List Dd.D} (h : Bk.Ds w u L) : ∃ x : Option Addr × Nat × Nat, u = Bk.sv x ∧ x.2.1 = L.length ∧ L.length ≤ x.2.2 ∧ x.2.2 ≤ 9223372036854775807 := by
 obtain ⟨a, c, rfl, h1, h2, _⟩ := h
 exact ⟨(a, L.length, c), rfl, rfl, h1, h2⟩
theorem Mg.Ls.lr {w : World} {v : Value} {LL : List (List Dd.D)} (h : Mg.Ls w v LL) : ∃ R, Mg.Lr w v LL R ∧ ∀ i L, LL[i]? = some L → Bk.Ds w (Bk.sv (R i)) L := by
 obtain ⟨a, c, hv, h1, h2, h⟩ := h
 rcases h with rfl | ⟨b, o, ha, hb, h⟩
 ·exact ⟨fun _ => (none, 0, 0), ⟨a, c, hv, h1, h2, .inl rfl⟩, fun i x hx => by simp at hx⟩
 ·have key : ∀ i L, LL[i]? = some L → w.cell? ⟨b, o + i, none⟩ = some (Bk.sv (Bk.partsOf (w.cell? ⟨b, o + i, none⟩))) ∧ Bk.Ds w (Bk.sv (Bk.partsOf (w.cell? ⟨b, o + i, none⟩))) L := fun i L hx => by
   obtain ⟨u, c0, hu⟩ := h i L hx
   rw [c0]
   obtain ⟨a', c', rfl, _⟩ := id hu
   exact ⟨rfl, hu⟩
  exact ⟨fun i => Bk.partsOf (w.cell? ⟨b, o + i, none⟩), ⟨a, c, hv, h1, h2, .inr ⟨b, o, ha, hb, fun i L hx => (key i L hx).1⟩⟩, fun i L hx => (key i L hx).2⟩
theorem Mg.own_ls {base : Nat} {w : World} {u : Value} {Ps : List (Option Addr × Nat × Nat)} {LL : List (List Dd.D)} (h : Dk.Own 25 1 Bk.e1 base w u Ps) (hl : Ps.length = LL.length) (hr : ∀ (i : Nat) (L : List Dd.D), LL[i]? = some L → ∃ p, Ps[i]? = some p ∧ Bk.Ds w (Bk.sv p) L) : Mg.Ls w u LL := by
 rcases h.form with ⟨rfl, h0⟩ | ⟨g, c, rfl, h1, h2, _, h4⟩
 ·rw [h0] at hl
  have : LL = [] := List.eq_nil_of_length_eq_zero hl.symm
  rw [this]
  exact ⟨none, 0, rfl, Nat.le_refl _, by omega, .inl rfl⟩
 ·refine ⟨_, c, by rw [hl], by rw [← hl]; exact h1, by unfold maxLen at h2; omega, .inr ⟨g, 0, rfl, h4, fun i L hx => ?_⟩⟩
  obtain ⟨p, hp, hd⟩ := hr i L hx
  have c0 := h.cell Bk.e1_len rfl hp (j := 0) (by decide)
  rw [Nat.mul_one, Nat.add_zero] at c0
  rw [Nat.zero_add]
  exact ⟨Bk.sv p, c0, hd⟩
set_option maxHeartbeats 4000000 in
set_option maxRecDepth 100000 in
theorem Mg.rlive_c (v : Value) (L : List Dd.D) (w : World) (hv : Bk.Ds w v L) (hl : L.length ≤ 4398046511104) :
 Calls Try.prog 17 #[v] w fun e w' => ∃ u, e = .returned u ∧ Bk.Ds w' u (Mg.live L) ∧ Below w.heap.size w w' := by
 obtain ⟨R, hr, hrv⟩ := hv.dr
 have HRV := Lib.hid hrv
 have H2 := Lib.hid hl
 obtain ⟨a, c, rfl, h⟩ := hr
 have HH := Lib.hid h
 unfold Mg.live
 obtain ⟨P, hP⟩ : ∃ P : Dd.D → Bool, P = fun d => !d.gone := ⟨_, rfl⟩
 rw [← hP]
 have HP := Lib.hid hP
 clear hv hrv hl h hP
 go_enter Try.func17, Try.ntmps17
 go_wp2_with fail
 go_loopw [3, 4] (fun out i wr => ∃ k : Nat, k ≤ L.length ∧ i = .int .i64 k ∧ Dk.Own 41 2 Rn.e2 w.heap.size wr out (Rn.il P (Rn.fd R) 0 (L.take k)) ∧ Below w.heap.size w wr) (fun _ i _ => L.length - (intOf i).toNat)
 case atStart => exact ⟨0, Nat.zero_le _, rfl, Dk.Own.nil _ _, Below.refl _ _⟩
 case round =>
  obtain ⟨k, hk, rfl, hO, hB⟩ := hrel
  have HB := Lib.hid hB
  by_cases hkl : k < L.length
  ·rcases HH.out with rfl | ⟨b, o, rfl, hlt, hc⟩
   ·simp at hkl
   ·have hx := List.getElem?_eq_getElem hkl
    generalize L[k] = d at hx
    obtain ⟨c0, c1⟩ := hc k d hx
    have c0 := (hB.cell (p := ⟨b, o + k * 2, none⟩) hlt).trans c0
    have c1 := (hB.cell (p := ⟨b, o + k * 2 + 1, none⟩) hlt).trans c1
    have HPD : Hid (P d = !d.gone) := Lib.hid (by rw [HP.out])
    have HT := Lib.hid (Rn.il_take (p := P) (f := Rn.fd R) hx)
    have HML : Hid ((Rn.il P (Rn.fd R) 0 (L.take k)).length + 1 ≤ 4398046511104) := Lib.hid (by
     rw [Rn.il_len]
     have h1 : ((L.take k).filter P).length ≤ (L.take k).length := List.length_filter_le ..
     rw [List.length_take] at h1
     have := H2.out
     omega)
    generalize Rn.il P (Rn.fd R) 0 (L.take k) = M at hO HT HML
    rw [show Rn.fd R k d = (d.gone, R k) from rfl] at HT
    generalize R k = rk at c1 HT
    obtain ⟨ra, rn, rc⟩ := rk
    simp only [Bk.sv] at c1
    have dk : (k : Int) < (L.length : Int) := by omega
    have dk0 : (0 : Int) ≤ (k : Int) := by omega
    have dk7 : (k : Int) ≤ 4398046511104 := by have := H2.out; omega
    have HK := Lib.hid hkl
    have hbs := hB.size
    have hml := HML.out
    rw [HPD.out] at HT
    clear hc hx hkl hk hlt hB HPD
    generalize d.gone = gd at c0 HT
    cases gd
    ·have HT2 := Lib.hid (HT.out.trans (by rw [if_pos (by decide)]))
     go_wp2_with (at_builtin; refine Dk.wpList_append1 25 _ 32 Try.underlying25 Rn.infoD rfl (by decide) Rn.e2_len Rn.e2_one (false, (ra, rn, rc)) hO hbs (by omega) (by omega) _ rfl _ rfl (.tmp 17) (.tmp 22) (by rfl) (by rfl) (by rfl) (by rfl) ?_; intro v6 w6 h6 g6)
     have H6 := Lib.hid h6
     have HB6 := Lib.hid (Dk.own_below HB.out hO g6)
     clear h6 g6 hO hbs hml
     go_roundw
     case rel => exact ⟨k + 1, HK.out, by simp, by rw [HT2.out]; exact H6.out, HB6.out⟩
     case measure => (have := HK.out; simp [intOf]; omega)
    ·have HT2 := Lib.hid (HT.out.trans (by rw [if_neg (by decide), List.append_nil]))
     have HO := Lib.hid hO
     clear hbs hml hO
     go_wp2
     go_roundw
     case rel => exact ⟨k + 1, HK.out, by simp, by rw [HT2.out]; exact HO.out, HB.out⟩
     case measure => (have := HK.out; simp [intOf]; omega)
  ·obtain rfl : k = L.length := by omega
   have dk : ¬ (L.length : Int) < (L.length : Int) := by omega
   rw [List.take_length] at hO
   have HO := Lib.hid hO
   clear hk hkl hO hB
   go_wp2
   go_ret
   exact ⟨_, rfl, Rn.own_ds HO.out (fun i x hx => (HRV.out i x hx).later HB.out), HB.out⟩
end
section
open Go
def Mg.part (m : Nat) (L : List Dd.D) (j : Nat) : List Dd.D := (L.drop (m * j)).take m
def Mg.cut (m : Nat) (L : List Dd.D) : List (List Dd.D) := (List.range ((L.length + m - 1) / m)).map (Mg.part m L)
def Mg.step (n : Int) (len : Nat) : Nat := if n < 1 then max 1 len else n.toNat
theorem Mg.step_pos (n : Int) (len : Nat) : 1 ≤ Mg.step n len := by unfold Mg.step; split <;> omega
theorem Mg.cut_nil (m : Nat) (h : 1 ≤ m) : Mg.cut m [] = [] := by
 unfold Mg.cut
 rw [List.length_nil, Nat.zero_add, Nat.div_eq_of_lt (by omega)]
 rfl
theorem Mg.part_take {L : List Dd.D} {m k j : Nat} (h : m * j + m ≤ k) : Mg.part m (L.take k) j = Mg.part m L j := by
 unfold Mg.part
 rw [List.drop_take, List.take_take, Nat.min_eq_left (by omega)]
theorem Mg.part_last {L : List Dd.D} {m k j : Nat} (h : k ≤ m * j + m) : Mg.part m (L.take k) j = (L.take k).drop (m * j) := by
 unfold Mg.part
 rw [List.take_of_length_le (by rw [List.length_drop, List.length_take]; omega)]
theorem Mg.ceil_mul {m q : Nat} (h : 1 ≤ m) : (m * q + m - 1) / m = q := by
 rw [show m * q + m - 1 = (m - 1) + m * q by omega, Nat.add_mul_div_left _ _ (by omega), Nat.div_eq_of_lt (by omega), Nat.zero_add]
theorem Mg.ceil_more {m q r : Nat} (h : 1 ≤ m) (h0 : 0 < r) (hr : r ≤ m) : (m * q + r + m - 1) / m = q + 1 := by
 rw [show m * q + r + m - 1 = (r - 1) + m * (q + 1) by rw [Nat.mul_add]; omega, Nat.add_mul_div_left _ _ (by omega), Nat.div_eq_of_lt (by omega), Nat.zero_add]
theorem Mg.cut_new {L : List Dd.D} {m k : Nat} {d : Dd.D} (h : 1 ≤ m) (hd : L[k]? = some d) (hk : k % m = 0) : Mg.cut m (L.take (k + 1)) = Mg.cut m (L.take k) ++ [[d]] := by
 obtain ⟨hkl, rfl⟩ := List.getElem?_eq_some_iff.1 hd
 obtain ⟨q, rfl⟩ : ∃ q, k = m * q := ⟨k / m, by have := Nat.div_add_mod k m; omega⟩
 unfold Mg.cut
 rw [List.length_take, List.length_take, Nat.min_eq_left (by omega), Nat.min_eq_left (by omega), Mg.ceil_more (r := 1) h (by decide) h, Mg.ceil_mul h, List.range_succ, List.map_append, List.map_cons, List.map_nil]
 congr 1
 ·refine List.map_congr_left fun j hj => ?_
  have hj := List.mem_range.1 hj
  have h1 : m * j + m ≤ m * q := by rw [← Nat.mul_succ]; exact Nat.mul_le_mul_left _ hj
  rw [Mg.part_take h1, Mg.part_take (by omega)]
 ·rw [Mg.part_last (by omega), List.drop_take, Nat.add_sub_cancel_left, List.drop_eq_getElem_cons hkl]
  rfl
theorem Mg.cut_grow {L : List Dd.D} {m k : Nat} {d : Dd.D} (h : 1 ≤ m) (hd : L[k]? = some d) (hk : 0 < k % m) : ∃ A l, Mg.cut m (L.take k) = A ++ [l] ∧ Mg.cut m (L.take (k + 1)) = A ++ [l ++ [d]] := by
 obtain ⟨hkl, rfl⟩ := List.getElem?_eq_some_iff.1 hd
 obtain ⟨q, r, hr, rfl⟩ : ∃ q r, r < m ∧ k = m * q + r := ⟨k / m, k % m, Nat.mod_lt _ (by omega), by have := Nat.div_add_mod k m; omega⟩
 have hr0 : 0 < r := by rw [Nat.mul_add_mod, Nat.mod_eq_of_lt hr] at hk; exact hk
 refine ⟨(List.range q).map (Mg.part m (L.take (m * q + r))), (L.take (m * q + r)).drop (m * q), ?_, ?_⟩
 ·unfold Mg.cut
  rw [List.length_take, Nat.min_eq_left (by omega), Mg.ceil_more h hr0 (by omega), List.range_succ, List.map_append, List.map_cons, List.map_nil, Mg.part_last (by omega)]
 ·unfold Mg.cut
  rw [List.length_take, Nat.min_eq_left (by omega), show m * q + r + 1 = m * q + (r + 1) by omega, Mg.ceil_more h (by omega) (by omega), List.range_succ, List.map_append, List.map_cons, List.map_nil, Mg.part_last (by omega)]
  congr 1
  ·refine List.map_congr_left fun j hj => ?_
   have hj := List.mem_range.1 hj
   have h1 : m * j + m ≤ m * q := by rw [← Nat.mul_succ]; exact Nat.mul_le_mul_left _ hj
   rw [Mg.part_take (by omega), Mg.part_take (by omega)]
  ·rw [← Nat.add_assoc, List.take_succ_eq_append_getElem hkl, List.drop_append_of_le_length (by rw [List.length_take]; omega)]
theorem Mg.flat_take {m : Nat} (L : List Dd.D) : ∀ k, ((List.range k).map (Mg.part m L)).flatten = L.take (m * k)
 | 0 => by simp
 | k + 1 => by
   rw [List.range_succ, List.map_append, List.flatten_append, Mg.flat_take L k]
   simp only [List.map_cons, List.map_nil, List.flatten_cons, List.flatten_nil, List.append_nil]
   unfold Mg.part
   rw [Nat.mul_succ, List.take_add]
theorem Mg.cut_flat {m : Nat} (h : 1 ≤ m) (L : List Dd.D) : (Mg.cut m L).flatten = L := by
 unfold Mg.cut
 rw [Mg.flat_take, List.take_of_length_le]
 have := Nat.div_add_mod (L.length + m - 1) m
 have := Nat.mod_lt (L.length + m - 1) (show 0 < m by omega)
 omega
theorem Mg.cut_ne {m : Nat} (h : 1 ≤ m) {L l : List Dd.D} (hl : l ∈ Mg.cut m L) : l ≠ [] := by
 unfold Mg.cut at hl
 obtain ⟨j, hj, rfl⟩ := List.mem_map.1 hl
 have hj := List.mem_range.1 hj
 have h1 : m * (j + 1) ≤ L.length + m - 1 := Nat.le_trans (Nat.mul_le_mul_left m hj) (Nat.mul_div_le ..)
 rw [Nat.mul_succ] at h1
 unfold Mg.part
 intro e
 have := congrArg List.length e
 rw [List.length_take, List.length_drop, List.length_nil] at this
 omega
theorem Mg.step_test {n : Int} {k len : Nat} (h : k < len) : (decide (n < 1) && decide (0 < (k : Int)) || decide (1 ≤ n) && decide (0 < (k : Int) % n)) = decide (0 < k % Mg.step n len) := by
 unfold Mg.step
 by_cases hn : n < 1
 ·rw [if_pos hn, Nat.max_eq_right (by omega), Nat.mod_eq_of_lt h, decide_eq_true hn, decide_eq_false (show ¬ 1 ≤ n by omega)]
  simp
 ·obtain ⟨q, rfl⟩ : ∃ q : Nat, n = (q : Int) := ⟨n.toNat, by omega⟩
  rw [if_neg hn, decide_eq_false hn, decide_eq_true (show 1 ≤ (q : Int) by omega), Int.toNat_natCast]
  simp only [Bool.false_and, Bool.false_or, Bool.true_and]
  rw [decide_eq_decide, ← Int.natCast_emod]
  omega
end
section
open Go.RowKit
abbrev Mg.Y := Bool × (Option Addr × Nat × Nat)
def Mg.Rd (w0 : World) (Es : List Mg.Y) (L : List Dd.D) : Prop := Es.length = L.length ∧ ∀ (i : Nat) (x : Dd.D), L[i]? = some x → ∃ y, Es[i]? = some y ∧ y.1 = x.gone ∧ Kn.Vals w0 (Bk.sv y.2) x.row
theorem Mg.Rd.snoc {w0 : World} {Es : List Mg.Y} {L : List Dd.D} (h : Mg.Rd w0 Es L) {y : Mg.Y} {d : Dd.D} (h1 : y.1 = d.gone) (h2 : Kn.Vals w0 (Bk.sv y.2) d.row) : Mg.Rd w0 (Es ++ [y]) (L ++ [d]) := by
 refine ⟨by rw [List.length_append, List.length_append, h.1]; rfl, fun i x hx => ?_⟩
 rcases Nat.lt_or_ge i L.length with hi | hi
 ·rw [List.getElem?_append_left hi] at hx
  obtain ⟨z, e1, e2⟩ := h.2 i x hx
  exact ⟨z, by rw [List.getElem?_append_left (by rw [h.1]; exact hi)]; exact e1, e2⟩
 ·rw [List.getElem?_append_right hi] at hx
  cases hq : i - L.length with
  | zero =>
    rw [hq] at hx
    obtain rfl : d = x := by simpa using hx
    refine ⟨y, ?_, h1, h2⟩
    rw [List.getElem?_append_right (by rw [h.1]; exact hi), h.1, hq]
    rfl
  | succ q => rw [hq] at hx; simp at hx
theorem Mg.Rd.one {w0 : World} {y : Mg.Y} {d : Dd.D} (h1 : y.1 = d.gone) (h2 : Kn.Vals w0 (Bk.sv y.2) d.row) : Mg.Rd w0 [y] [d] := Mg.Rd.snoc (Es := []) (L := []) ⟨rfl, fun i x hx => by simp at hx⟩ h1 h2
theorem Mg.own_rd {base : Nat} {w0 w : World} {v : Value} {Es : List Mg.Y} {L : List Dd.D} (h : Dk.Own 41 2 Rn.e2 base w v Es) (hr : Mg.Rd w0 Es L) (g : Below w0.heap.size w0 w) : Bk.Ds w v L := by
 rcases h.form with ⟨rfl, h0⟩ | ⟨b, c, rfl, h1, h2, _, h4⟩
 ·have hl := hr.1
  rw [h0] at hl
  have : L = [] := List.eq_nil_of_length_eq_zero hl.symm
  rw [this]
  exact ⟨none, 0, rfl, Nat.le_refl _, by omega, .inl rfl⟩
 ·refine ⟨_, c, by rw [hr.1], by rw [← hr.1]; exact h1, by unfold maxLen at h2; omega, .inr ⟨b, 0, rfl, h4, fun i x hx => ?_⟩⟩
  obtain ⟨y, hy, e1, e2⟩ := hr.2 i x hx
  have c0 := h.cell Rn.e2_len rfl hy (j := 0) (by decide)
  have c1 := h.cell Rn.e2_len rfl hy (j := 1) (by decide)
  rw [Nat.zero_add]
  rw [Nat.add_zero] at c0
  exact ⟨Bk.sv y.2, by rw [← e1]; exact c0, c1, e2.later g⟩
theorem Mg.own_mono {α : Type} {e : TypeId} {k : Nat} {enc : α → List Value} {base base' : Nat} {w : World} {v : Value} {L : List α} (h : Dk.Own e k enc base w v L) (hb : base' ≤ base) : Dk.Own e k enc base' w v L := by
 refine ⟨h.1, ?_⟩
 rcases h.2 with hn | ⟨b, cap, cur, e, hbb, rest⟩
 ·exact .inl hn
 ·exact .inr ⟨b, cap, cur, e, Nat.le_trans hb hbb, rest⟩
structure Mg.Sp (w0 W : World) (u : Value) (LL : List (List Dd.D)) (l : List Dd.D) (z : Nat) (Ps : List (Option Addr × Nat × Nat)) (p : Option Addr × Nat × Nat) (Es : List Mg.Y) : Prop where
 ou : Dk.Own 25 1 Bk.e1 w0.heap.size W u (Ps ++ [p])
 la : Dk.Own 41 2 Rn.e2 z W (Bk.sv p) Es
 rl : Mg.Rd w0 Es l
 z0 : w0.heap.size ≤ z
 zs : z ≤ W.heap.size
 ln : Ps.length = LL.length
 ne : ∀ b g, u.ownBlock = some b → (Bk.sv p).ownBlock = some g → b ≠ g
 dn : ∀ (i : Nat) (L : List Dd.D), LL[i]? = some L → ∃ q Fs, Ps[i]? = some q ∧ Dk.Own 41 2 Rn.e2 w0.heap.size W (Bk.sv q) Fs ∧ Mg.Rd w0 Fs L ∧ ∀ g, (Bk.sv q).ownBlock = some g → g < z ∧ ∀ b, u.ownBlock = some b → b ≠ g
 bw : Below w0.heap.size w0 W
theorem Mg.Sp.kept {w0 W W' : World} {u : Value} {LL : List (List Dd.D)} {l : List Dd.D} {z : Nat} {Ps : List (Option Addr × Nat × Nat)} {p : Option Addr × Nat × Nat} {Es : List Mg.Y} (h : Mg.Sp w0 W u LL l z Ps p Es) (g : Below W.heap.size W W') : Mg.Sp w0 W' u LL l z Ps p Es :=
 ⟨h.ou.kept g, h.la.kept g, h.rl, h.z0, Nat.le_trans h.zs g.size, h.ln, h.ne, fun i L hL => by
  obtain ⟨q, Fs, e1, e2, e3⟩ := h.dn i L hL
  exact ⟨q, Fs, e1, e2.kept g, e3⟩, h.bw.trans (g.mono h.bw.size)⟩
theorem Mg.Sp.grow {w0 W W' : World} {b n c : Nat} {LL : List (List Dd.D)} {l : List Dd.D} {z : Nat} {Ps : List (Option Addr × Nat × Nat)} {p p' : Option Addr × Nat × Nat} {Es : List Mg.Y} (h : Mg.Sp w0 W (.slice (some ⟨b, 0, none⟩) n c) LL l z Ps p Es)
 {y : Mg.Y} {d : Dd.D} (h1 : y.1 = d.gone) (h2 : Kn.Vals w0 (Bk.sv y.2) d.row) (ho : Dk.Own 41 2 Rn.e2 z W' (Bk.sv p') (Es ++ [y])) (g : Ty.Grew W W' (Bk.sv p) (Bk.sv p')) :
 Mg.Sp w0 (W'.setCell ⟨b, Ps.length, none⟩ (Bk.sv p')) (.slice (some ⟨b, 0, none⟩) n c) LL (l ++ [d]) z Ps p' (Es ++ [y]) := by
 have hb : b < W.heap.size := h.ou.lt b rfl
 have hbp : ∀ x, (Bk.sv p).ownBlock = some x → b ≠ x := fun x hx => h.ne b x rfl hx
 have hbb : W'.heap[b]? = W.heap[b]? := g.by_.block b hb fun e => hbp b e.symm rfl
 have hou : Dk.Own 25 1 Bk.e1 w0.heap.size W' (.slice (some ⟨b, 0, none⟩) n c) (Ps ++ [p]) := h.ou.same fun x hx => by
  obtain rfl : b = x := by simpa [Value.ownBlock] using hx
  exact hbb
 have hset := hou.set Bk.e1_len (g := b) rfl (i := Ps.length) (j := 0) (x := p) (by rw [List.getElem?_append_right (Nat.le_refl _), Nat.sub_self]; rfl) (by decide) (Bk.sv p') p' rfl
 rw [Nat.mul_one, Nat.add_zero] at hset
 have e9 : (Ps ++ [p]).set Ps.length p' = Ps ++ [p'] := by simp
 rw [e9] at hset
 have hoth : ∀ x, x ≠ b → (W'.setCell ⟨b, Ps.length, none⟩ (Bk.sv p')).heap[x]? = W'.heap[x]? := fun x hx => heap_setCell_other W' ⟨b, Ps.length, none⟩ x _ hx
 have hsz : (W'.setCell ⟨b, Ps.length, none⟩ (Bk.sv p')).heap.size = W'.heap.size := by simp [World.setCell]
 have hne : ∀ x, (Bk.sv p').ownBlock = some x → b ≠ x := fun x hx => by
  rcases g.own with e | ⟨k, e, hk⟩
  ·exact hbp x (e ▸ hx)
  ·rw [e] at hx
   obtain rfl : k = x := by simpa using hx
   omega
 have hpb : ∀ x, (Bk.sv p).ownBlock = some x → z ≤ x := h.la.base_le
 refine ⟨hset, ho.same fun x hx => hoth x (fun e => hne x hx e.symm), h.rl.snoc h1 h2, h.z0, by rw [hsz]; exact Nat.le_trans h.zs g.by_.size, h.ln, fun x y hx hy => ?_, fun i L hL => ?_, ?_⟩
 ·obtain rfl : b = x := by simpa [Value.ownBlock] using hx
  exact hne y hy
 ·obtain ⟨q, Fs, e1, e2, e3, e4⟩ := h.dn i L hL
  refine ⟨q, Fs, e1, e2.same fun x hx => ?_, e3, e4⟩
  obtain ⟨k1, k2⟩ := e4 x hx
  rw [hoth x (fun e => k2 b rfl e.symm)]
  refine g.by_.block x (e2.lt x hx) fun e => ?_
  have := hpb x e.symm
  omega
 ·have hg := g.below (B := w0.heap.size) h.bw.size fun k hk => Nat.le_trans h.z0 (hpb k hk)
  have hbase := h.ou.base_le b rfl
  refine (h.bw.trans hg).trans ⟨rfl, rfl, rfl, by rw [hsz]; exact Nat.le_refl _, fun x hx => hoth x (by omega)⟩
theorem Mg.Sp.after {w0 W W' : World} {b n c : Nat} {LL : List (List Dd.D)} {l : List Dd.D} {z : Nat} {Ps : List (Option Addr × Nat × Nat)} {p : Option Addr × Nat × Nat} {v' : Value} {Es : List Mg.Y} (h : Mg.Sp w0 W (.slice (some ⟨b, 0, none⟩) n c) LL l z Ps p Es)
 (g : Ty.Grew W W' (Bk.sv p) v') : W'.cell? ⟨b, Ps.length, none⟩ = some (Bk.sv p) ∧ W'.frozen? ⟨b, Ps.length, none⟩ = false := by
 have hb : b < W.heap.size := h.ou.lt b rfl
 have hbp : ∀ x, (Bk.sv p).ownBlock = some x → b ≠ x := fun x hx => h.ne b x rfl hx
 have hbb : W'.heap[b]? = W.heap[b]? := g.by_.block b hb fun e => hbp b e.symm rfl
 have hou : Dk.Own 25 1 Bk.e1 w0.heap.size W' (.slice (some ⟨b, 0, none⟩) n c) (Ps ++ [p]) := h.ou.same fun x hx => by
  obtain rfl : b = x := by simpa [Value.ownBlock] using hx
  exact hbb
 have c0 := hou.cell Bk.e1_len (g := b) rfl (i := Ps.length) (j := 0) (x := p) (by rw [List.getElem?_append_right (Nat.le_refl _), Nat.sub_self]; rfl) (by decide)
 rw [Nat.mul_one, Nat.add_zero] at c0
 obtain ⟨cs, hcs⟩ := hou.typed b rfl
 exact ⟨c0, frozen_of_row _ _ _ _ _ hcs⟩
theorem Mg.Sp.next {w0 W W1 W' : World} {u u' : Value} {LL : List (List Dd.D)} {l : List Dd.D} {z : Nat} {Ps : List (Option Addr × Nat × Nat)} {p p' : Option Addr × Nat × Nat} {Es : List Mg.Y} (h : Mg.Sp w0 W u LL l z Ps p Es)
 {y : Mg.Y} {d : Dd.D} (h1 : y.1 = d.gone) (h2 : Kn.Vals w0 (Bk.sv y.2) d.row) (g1 : Below W.heap.size W W1) (ho : Dk.Own 41 2 Rn.e2 W.heap.size W1 (Bk.sv p') [y]) (g : Ty.Grew W1 W' u u') (hu : Dk.Own 25 1 Bk.e1 w0.heap.size W' u' (Ps ++ [p] ++ [p'])) :
 Mg.Sp w0 W' u' (LL ++ [l]) [d] W.heap.size (Ps ++ [p]) p' [y] := by
 have hub : ∀ b, u.ownBlock = some b → b < W.heap.size := h.ou.lt
 have hpl : ∀ b, (Bk.sv p').ownBlock = some b → b < W1.heap.size := ho.lt
 have hpb : ∀ b, (Bk.sv p').ownBlock = some b → W.heap.size ≤ b := ho.base_le
 have hold : ∀ x, x < W.heap.size → u.ownBlock ≠ some x → W'.heap[x]? = W.heap[x]? := fun x hx hne =>
  (g.by_.block x (Nat.lt_of_lt_of_le hx g1.size) (fun e => hne e.symm)).trans (g1.block x hx)
 have hnew : ∀ b, u'.ownBlock = some b → u.ownBlock = some b ∨ W1.heap.size ≤ b := fun b hb => by
  rcases g.own with e | ⟨k, e, hk⟩
  ·exact .inl (e ▸ hb)
  ·rw [e] at hb
   obtain rfl : k = b := by simpa using hb
   exact .inr hk
 refine ⟨hu, ho.same fun x hx => g.by_.block x (hpl x hx) fun e => ?_, Mg.Rd.one h1 h2, h.bw.size, Nat.le_trans g1.size g.by_.size, by rw [List.length_append, List.length_append, h.ln]; rfl, fun b x hb hx => ?_, fun i L hL => ?_, ?_⟩
 ·have := hub x e.symm
  have := hpb x hx
  omega
 ·rcases hnew b hb with h3 | h3
  ·have := hub b h3
   have := hpb x hx
   omega
  ·have := hpl x hx
   omega
 ·have key : ∀ (q : Option Addr × Nat × Nat) (Fs : List Mg.Y) (base : Nat), Dk.Own 41 2 Rn.e2 base W (Bk.sv q) Fs → w0.heap.size ≤ base → (∀ x, (Bk.sv q).ownBlock = some x → u.ownBlock ≠ some x) → Dk.Own 41 2 Rn.e2 w0.heap.size W' (Bk.sv q) Fs ∧ ∀ x, (Bk.sv q).ownBlock = some x → x < W.heap.size ∧ ∀ b, u'.ownBlock = some b → b ≠ x := fun q Fs base hq hb9 hne => by
   refine ⟨?_, fun x hx => ⟨hq.lt x hx, fun b hb e => ?_⟩⟩
   ·have := hq.same (w' := W') fun x hx => hold x (hq.lt x hx) (hne x hx)
    exact Mg.own_mono this hb9
   ·rcases hnew b hb with h3 | h3
    ·exact hne x hx (e ▸ h3)
    ·have := hq.lt x hx
     have := g1.size
     omega
  rcases Nat.lt_or_ge i LL.length with hi | hi
  ·rw [List.getElem?_append_left hi] at hL
   obtain ⟨q, Fs, e1, e2, e3, e4⟩ := h.dn i L hL
   obtain ⟨k1, k2⟩ := key q Fs _ e2 (Nat.le_refl _) fun x hx e => (e4 x hx).2 x e rfl
   exact ⟨q, Fs, by rw [List.getElem?_append_left (by rw [h.ln]; exact hi)]; exact e1, k1, e3, k2⟩
  ·rw [List.getElem?_append_right hi] at hL
   cases hq : i - LL.length with
   | zero =>
     rw [hq] at hL
     obtain rfl : l = L := by simpa using hL
     obtain ⟨k1, k2⟩ := key p Es _ h.la h.z0 fun x hx e => h.ne x x e hx rfl
     exact ⟨p, Es, by rw [List.getElem?_append_right (by rw [h.ln]; exact hi), h.ln, hq]; rfl, k1, h.rl, k2⟩
   | succ q => rw [hq] at hL; simp at hL
 ·exact (h.bw.trans (g1.mono h.bw.size)).trans (g.below (Nat.le_trans h.bw.size g1.size) h.ou.base_le)
theorem Mg.Sp.first {w0 W W1 W' : World} {u' : Value} {p' : Option Addr × Nat × Nat} (hb : Below w0.heap.size w0 W)
 {y : Mg.Y} {d : Dd.D} (h1 : y.1 = d.gone) (h2 : Kn.Vals w0 (Bk.sv y.2) d.row) (g1 : Below W.heap.size W W1) (ho : Dk.Own 41 2 Rn.e2 W.heap.size W1 (Bk.sv p') [y]) (g : Ty.Grew W1 W' (.slice none 0 0) u') (hu : Dk.Own 25 1 Bk.e1 w0.heap.size W' u' [p']) :
 Mg.Sp w0 W' u' [] [d] W.heap.size [] p' [y] := by
 have hpl : ∀ b, (Bk.sv p').ownBlock = some b → b < W1.heap.size := ho.lt
 refine ⟨hu, ho.same fun x hx => g.by_.block x (hpl x hx) fun e => by simp [Value.ownBlock] at e, Mg.Rd.one h1 h2, hb.size, Nat.le_trans g1.size g.by_.size, rfl, fun b x hb hx => ?_, fun i L hL => by simp at hL, ?_⟩
 ·rcases g.own with e | ⟨k, e, hk⟩
  ·rw [e] at hb; simp [Value.ownBlock] at hb
  ·rw [e] at hb
   obtain rfl : k = b := by simpa using hb
   have := hpl x hx
   omega
 ·exact (hb.trans (g1.mono hb.size)).trans (g.below (Nat.le_trans hb.size g1.size) fun k hk => by simp [Value.ownBlock] at hk)
theorem Mg.Sp.ls {w0 W : World} {u : Value} {LL : List (List Dd.D)} {l : List Dd.D} {z : Nat} {Ps : List (Option Addr × Nat × Nat)} {p : Option Addr × Nat × Nat} {Es : List Mg.Y} (h : Mg.Sp w0 W u LL l z Ps p Es) : Mg.Ls W u (LL ++ [l]) := by
 refine Mg.own_ls h.ou (by rw [List.length_append, List.length_append, h.ln]; rfl) fun i L hL => ?_
 rcases Nat.lt_or_ge i LL.length with hi | hi
 ·rw [List.getElem?_append_left hi] at hL
  obtain ⟨q, Fs, e1, e2, e3, _⟩ := h.dn i L hL
  exact ⟨q, by rw [List.getElem?_append_left (by rw [h.ln]; exact hi)]; exact e1, Mg.own_rd e2 e3 h.bw⟩
 ·rw [List.getElem?_append_right hi] at hL
  cases hq : i - LL.length with
  | zero =>
    rw [hq] at hL
    obtain rfl : l = L := by simpa using hL
    exact ⟨p, by rw [List.getElem?_append_right (by rw [h.ln]; exact hi), h.ln, hq]; rfl, Mg.own_rd h.la h.rl h.bw⟩
  | succ q => rw [hq] at hL; simp at hL
end
end Go.Proofs.Ytikdcmplihgdcaa
