/-
  The document's answers for package texts: strings that a call owns; the dictionary.
-/
import Derived.Test.YtkbkhohknniibaaQ1
import Derived.Lib.QuietBelow
import Derived.Deep.RegionHeld3
import Derived.Test.YtkbkhohknniibaaT1
namespace Go.Proofs.Ytkbkhohknniibaa
open Go.RowKit
theorem Tx.infoS : (Try.prog.info? 9).map (fun i => (i.zero, i.size, i.bytes)) = some (some (.string ⟨#[]⟩), 1, 16) := by kernel_rfl
theorem Ig.below_reg {w w' : World} (h : ∃ p : Regrown, w' = Sort.grow (redrawn w p.d) p.os) : Below w.heap.size w w' := by
  obtain ⟨p, rfl⟩ := h
  exact below_regrown w p.d p.os
/-- A slice of strings that a call owns. -/
def Tx.Own (base : Nat) (w : World) (v : Value) (L : List Tx.Str) : Prop := Bt.Buf 9 base w v L.length (Tx.sv L)
theorem Tx.Own.nil (base : Nat) (w : World) : Tx.Own base w (.slice none 0 0) [] := Bt.Buf.nil _ _ _ _
theorem Tx.sv_left (M R : List Tx.Str) {i : Nat} (h : i < M.length) : Tx.sv (M ++ R) i = Tx.sv M i := by
  unfold Tx.sv
  rw [List.getD, List.getD, List.getElem?_append_left h]
theorem Tx.sv_right (M R : List Tx.Str) (i : Nat) : Tx.sv (M ++ R) (M.length + i) = Tx.sv R i := by
  unfold Tx.sv
  have e : M.length + i - M.length = i := by omega
  rw [List.getD, List.getD, List.getElem?_append_right (by omega), e]
theorem Tx.sv_drop (M : List Tx.Str) (k i : Nat) : Tx.sv (M.drop k) i = Tx.sv M (k + i) := by
  unfold Tx.sv
  rw [List.getD, List.getD, List.getElem?_drop]
theorem Tx.sv_take (M : List Tx.Str) {k i : Nat} (h : i < k) : Tx.sv (M.take k) i = Tx.sv M i := by
  unfold Tx.sv
  rw [List.getD, List.getD, List.getElem?_take, if_pos h]
theorem Tx.Own.pre {base : Nat} {w : World} {v : Value} {M : List Tx.Str} (h : Tx.Own base w v M) (x : Tx.Str) : Bt.Buf 9 base w v M.length (Tx.sv (M ++ [x])) :=
  Bt.Buf.congr h fun i hi => by rw [Tx.sv_left M [x] hi]
theorem Tx.Own.post {base : Nat} {w : World} {v : Value} {M : List Tx.Str} {x : Tx.Str} (h : Bt.Buf 9 base w v (M.length + 1) (Tx.sv (M ++ [x]))) : Tx.Own base w v (M ++ [x]) := by
  unfold Tx.Own
  rw [List.length_append, List.length_singleton]
  exact h
theorem Tx.sv_snoc (M : List Tx.Str) (x : Tx.Str) : Value.string (Ty.S x) = Tx.sv (M ++ [x]) M.length := by
  have := Tx.sv_right M [x] 0
  rw [Nat.add_zero] at this
  rw [this]
  rfl
theorem Tx.Own.at {base : Nat} {w : World} {v : Value} {L : List Tx.Str} (h : Tx.Own base w v L) : Tx.At w.heap.size w v L := by
  have hs := Bt.Buf.sl h
  obtain ⟨a, c, rfl, h1⟩ := hs
  have hc : L.length ≤ c ∧ (a = none → c = 0) := by
    rcases h.2 with ⟨e, e0⟩ | ⟨g, cap, cur, e, _, _, hcap, _⟩
    · simp only [Value.slice.injEq] at e
      exact ⟨by omega, fun _ => by omega⟩
    · simp only [Value.slice.injEq] at e
      exact ⟨by omega, fun e2 => by rw [e2] at e; exact absurd e.1 (by simp)⟩
  refine ⟨a, c, rfl, hc.1, Nat.le_refl _, ?_⟩
  rcases h1 with h1 | h1
  · exact .inl ⟨List.eq_nil_of_length_eq_zero h1, hc.2⟩
  · exact .inr h1
/-- The strings K can be read off this slice. -/
def Tx.Src (w : World) (u : Value) (K : List Tx.Str) : Prop := (u = .slice none 0 0 ∧ K = []) ∨ ∃ ad c, u = .slice (some ad) K.length c ∧ ∀ i, i < K.length → w.cell? (ad.add i) = some (Tx.sv K i)
theorem Tx.addr_add (b o i : Nat) : (⟨b, o, none⟩ : Addr).add i = ⟨b, o + i, none⟩ := by unfold Addr.add; split <;> simp_all
theorem Tx.Own.form {base : Nat} {w : World} {v : Value} {L : List Tx.Str} (h : Tx.Own base w v L) : (v = .slice none 0 0 ∧ L = []) ∨ ∃ g c, v = .slice (some ⟨g, 0, none⟩) L.length c ∧ L.length ≤ c ∧ g < w.heap.size ∧ ∀ i, i < L.length → w.cell? ⟨g, i, none⟩ = some (Tx.sv L i) := by
  rcases h.2 with ⟨e, e0⟩ | ⟨g, cap, cur, e, _, hgg, hcap, _⟩
  · exact .inl ⟨e, List.eq_nil_of_length_eq_zero e0⟩
  · refine .inr ⟨g, cap, e, hcap, (Array.getElem?_eq_some_iff.1 hgg).1, fun i hi => ?_⟩
    have := h.cells (g := g) (by rw [e]; rfl) i (Tx.sv L i) (by simp [hi])
    rwa [Tx.addr_add, Nat.zero_add] at this
set_option maxRecDepth 100000 in
/-- Many values appended. -/
theorem Tx.append_more {base : Nat} {w0 : World} {v : Value} {M K : List Tx.Str} (hown : Tx.Own base w0 v M) (hb : base ≤ w0.heap.size) (hl : (M.length + K.length) * 16 ≤ 140737488355328) {u : Value} (hu : Tx.Src w0 u K) (ty : TypeId) :
    ∃ v' w', (Builtin.append_ #[27, 27] ty #[v, u]).run Try.prog w0 = .ok v' w' ∧ Tx.Own base w' v' (M ++ K) ∧ Ty.Grew w0 w' v v' := by
  obtain ⟨i0, hi, hz0, hz1, hz2⟩ := info_parts Tx.infoS
  rcases hu with ⟨rfl, rfl⟩ | ⟨ad, c, rfl, hK⟩
  · exact ⟨v, w0, run_append_owned_none (P := Try.prog) w0 base 27 ty 9 i0 1 Try.underlying27 hi v _ _ hown, by rw [List.append_nil]; exact hown, Ty.Grew.refl _ _⟩
  · obtain ⟨v', w', hr, h1, h2⟩ := Ty.append_tight (P := Try.prog) w0 base 27 ty 9 i0 _ 1 16 Try.underlying27 hi hz0 hz1 hz2 rfl (by decide) v M.length ((List.range M.length).map (Tx.sv M)) hown ad K.length c ((List.range K.length).map (Tx.sv K)) (by simp) (fun j u hj => by
      have hjl : j < K.length := by
        rcases Nat.lt_or_ge j K.length with h3 | h3
        · exact h3
        · rw [List.getElem?_eq_none (by simpa using h3)] at hj
          cases hj
      have e : u = Tx.sv K j := by
        rw [List.getElem?_map, List.getElem?_range hjl] at hj
        exact (Option.some.inj hj).symm
      rw [e]
      exact hK j hjl) (fun u hu => by
      obtain ⟨i, _, rfl⟩ := List.mem_map.1 hu
      rfl) (by unfold maxLen; omega) hl hb
    refine ⟨v', w', hr, ?_, h2⟩
    unfold Tx.Own Bt.Buf
    rw [List.length_append]
    have e : (List.range (M.length + K.length)).map (Tx.sv (M ++ K)) = (List.range M.length).map (Tx.sv M) ++ (List.range K.length).map (Tx.sv K) := by
      rw [List.range_add, List.map_append, List.map_map]
      congr 1
      · exact List.map_congr_left fun i hi => Tx.sv_left M K (List.mem_range.1 hi)
      · exact List.map_congr_left fun i _ => Tx.sv_right M K i
    rw [e]
    exact h1
theorem Tx.grew_below {wo w w' : World} {v v' : Value} {L : List Tx.Str} (hb : Below wo.heap.size wo w) (ho : Tx.Own wo.heap.size w v L) (g : Ty.Grew w w' v v') : Below wo.heap.size wo w' :=
  hb.trans (g.below hb.size (Bt.Buf.base_le ho))
theorem Tx.cell_kept {w w' : World} {v' : Value} (g : Ty.Grew w w' (.slice none 0 0) v') {a : Addr} {x : Value} (h : w.cell? a = some x) : w'.cell? a = some x := by
  have hb : Below w.heap.size w w' := g.below (Nat.le_refl _) (fun k hk => by cases hk)
  exact (hb.cell (World.block_lt_of_cell? w _ h)).trans h
/-- At a step of a region that draws its order. -/
theorem Tx.step_append_more {wo w0 : World} {v : Value} {M K : List Tx.Str} (hbW : Below wo.heap.size wo w0) (hown : Tx.Own wo.heap.size w0 v M) (hl : (M.length + K.length) * 16 ≤ 140737488355328)
    {ops : Array Oper} {o : Oper} {a : Act} {Kx : Act → World → Prop} {Q : Exit → Act → World → Prop} {E : Prop} (s x : Operand) (u : Value) (hgd : o.guard = none)
    (ho : o.op = .call { callee := .builtin .append, args := #[s, x], argTypes := #[27, 27] })
    (hs : a.eval s = v) (hx : a.eval x = u) (hu : Tx.Src w0 u K)
    (h : ∀ v' w', Tx.Own wo.heap.size w' v' (M ++ K) → Below wo.heap.size wo w' → Ty.Grew w0 w' v v' → Kx (a.put o.dst v') w') :
    if Region.wanted o (yielded ops a.tmps) = true then Oper.wp Try.prog o a w0 Kx Q else E := by
  have hw : Region.wanted o (yielded ops a.tmps) = true := by simp [Region.wanted, hgd]
  rw [if_pos hw]
  obtain ⟨v', w', hr, h2, h3⟩ := Tx.append_more hown hbW.size hl hu o.type
  unfold Oper.wp execOp
  simp only [ho, resolve, invoke, builtin, Sem.run_bind, Sem.run_pure, Result.andThen_ok, List.map_toArray, List.map_cons, List.map_nil, hs, hx, hr]
  exact h v' w' h2 (Tx.grew_below hbW hown h3) h3
/-- Many values appended: the walk's law. -/
theorem Tx.wpList_append_more {base : Nat} {w0 : World} {v : Value} {M K : List Tx.Str} (hown : Tx.Own base w0 v M) (hb : base ≤ w0.heap.size) (hl : (M.length + K.length) * 16 ≤ 140737488355328)
    {ops : Array Oper} {rest : List Oper} {o : Oper} {a : Act} {Q : Exit → Act → World → Prop} (s x : Operand) (u : Value) (hgd : o.guard = none)
    (ho : o.op = .call { callee := .builtin .append, args := #[s, x], argTypes := #[27, 27] })
    (hs : a.eval s = v) (hx : a.eval x = u) (hu : Tx.Src w0 u K)
    (h : ∀ v' w', Tx.Own base w' v' (M ++ K) → Ty.Grew w0 w' v v' → wpList Try.prog ops Q rest (a.put o.dst v') w') :
    wpList Try.prog ops Q (o :: rest) a w0 := by
  refine wpList_plain hgd fun Kx hKx => ?_
  obtain ⟨v', w', hr, h2, h3⟩ := Tx.append_more hown hb hl hu o.type
  unfold Oper.wp execOp
  simp only [ho, resolve, invoke, builtin, Sem.run_bind, Sem.run_pure, Result.andThen_ok, List.map_toArray, List.map_cons, List.map_nil, hs, hx, hr]
  exact hKx _ _ (h v' w' h2 h3)
theorem Tx.src_take {w W : World} {D : List Tx.Str} {b q : Nat} (hlt : b < w.heap.size) (hc : ∀ i, i < D.length → w.cell? ⟨b, i, none⟩ = some (Tx.sv D i)) (g : Below w.heap.size w W) (hq : q ≤ D.length) (c : Nat) : Tx.Src W (.slice (some ⟨b, 0, none⟩) q c) (D.take q) := by
  have hl : (D.take q).length = q := by rw [List.length_take]; omega
  refine .inr ⟨⟨b, 0, none⟩, c, by rw [hl], fun i hi => ?_⟩
  rw [hl] at hi
  rw [Tx.addr_add, Nat.zero_add, Tx.sv_take D hi]
  exact (g.cell (p := ⟨b, i, none⟩) hlt).trans (hc i (by omega))
theorem Tx.src_drop {w W : World} {D : List Tx.Str} {b q : Nat} (hlt : b < w.heap.size) (hc : ∀ i, i < D.length → w.cell? ⟨b, i, none⟩ = some (Tx.sv D i)) (g : Below w.heap.size w W) (hq : q ≤ D.length) (c : Nat) : Tx.Src W (.slice (some ⟨b, q, none⟩) (D.length - q) c) (D.drop q) := by
  have hl : (D.drop q).length = D.length - q := by rw [List.length_drop]
  refine .inr ⟨⟨b, q, none⟩, c, by rw [hl], fun i hi => ?_⟩
  rw [hl] at hi
  rw [Tx.addr_add, Tx.sv_drop]
  exact (g.cell (p := ⟨b, q + i, none⟩) hlt).trans (hc (q + i) (by omega))
theorem Tx.src_one {w : World} {b : Nat} {t : Tx.Str} (h : w.cell? ⟨b, 0, none⟩ = some (.string (Ty.S t))) (c : Nat) : Tx.Src w (.slice (some ⟨b, 0, none⟩) 1 c) [t] := by
  refine .inr ⟨⟨b, 0, none⟩, c, rfl, fun i hi => ?_⟩
  obtain rfl : i = 0 := by simpa using hi
  rw [Tx.addr_add]
  exact h
theorem Tx.Own.mono {B B' : Nat} {w : World} {v : Value} {L : List Tx.Str} (h : Tx.Own B w v L) (hB : B' ≤ B) : Tx.Own B' w v L := by
  refine ⟨h.1, ?_⟩
  rcases h.2 with hn | ⟨b, cap, cur, rfl, hbb, rest⟩
  · exact .inl hn
  · exact .inr ⟨b, cap, cur, rfl, by omega, rest⟩
/-- A string is laid in where those ahead of it end. -/
theorem Tx.ins_at (t : Tx.Str) : ∀ (d : List Tx.Str) (k : Nat), t ∉ d → k ≤ d.length → (∀ i, i < k → Tx.lt (d.getD i []) t = true) → (k < d.length → Tx.lt (d.getD k []) t = false) → Tx.ins t d = d.take k ++ t :: d.drop k
  | [], k, _, hk, _, _ => by
    obtain rfl : k = 0 := by simpa using hk
    rfl
  | a :: d, 0, hm, _, _, h0 => by
    have h1 : a ≠ t := fun e => hm (by rw [e]; simp)
    have h2 : Tx.lt a t = false := h0 (by simp)
    unfold Tx.ins
    rw [if_neg h1, h2]
    rfl
  | a :: d, k + 1, hm, hk, hb, h0 => by
    have h1 : a ≠ t := fun e => hm (by rw [e]; simp)
    have h2 : Tx.lt a t = true := hb 0 (by omega)
    unfold Tx.ins
    rw [if_neg h1, if_pos h2, Tx.ins_at t d k (fun h => hm (by simp [h])) (by simpa using hk) (fun i hi => hb (i + 1) (by omega)) (fun h => h0 (by simpa using h))]
    rfl
theorem Tx.ins_in (t : Tx.Str) : ∀ (d : List Tx.Str) (p : Option Tx.Str), Tx.Asc p d → t ∈ d → Tx.ins t d = d
  | [], _, _, h => by cases h
  | a :: d, p, ha, h => by
    unfold Tx.ins
    by_cases h1 : a = t
    · rw [if_pos h1]
    · have hm : t ∈ d := by
        rcases List.mem_cons.1 h with e | e
        · exact absurd e.symm h1
        · exact e
      have h2 := Tx.asc_all d (some a) ha.2 a rfl t hm
      rw [if_neg h1, if_pos h2, Tx.ins_in t d (some a) ha.2 hm]
theorem Tx.dict_step (L : List Tx.Str) (k : Nat) (h : k < L.length) : Tx.dict (L.take (k + 1)) = Tx.ins (L.getD k []) (Tx.dict (L.take k)) := by
  unfold Tx.dict
  rw [List.take_succ_eq_append_getElem h, List.foldl_append, List.getD, List.getElem?_eq_getElem h]
  rfl
end Go.Proofs.Ytkbkhohknniibaa
