/-
  The document's answers for package texts: strings in hand; which string is ahead, where a string stands, the same lists.
  The document's answers for package texts: strings that a call owns; the dictionary.
  The document's answers for package texts: With.
-/
import Derived.Test.YtfbjmehkipcmbaaGreatDoorZAA
import Derived.Test.YtfbjmehkipcmbaaGreatDoorZAE
import Derived.Test.YtfbjmehkipcmbaaGreatDoorZAF
import Derived.Test.YtfbjmehkipcmbaaGreatDoorZAC
import Derived.Lib.QuietBelow
import Derived.Deep.RegionHeld3
import Derived.LoopTactic
import Derived.RegionCalls
import Derived.Deep.RegionWith
namespace Go.Proofs.YtfbjmehkipcmbaaGreatDoor
open Go.RowKit
def Tx.sv (L : List Tx.Str) (i : Nat) : Value := .string (Ty.S (L.getD i []))
structure Tx.At (B : Nat) (w : World) (v : Value) (L : List Tx.Str) : Prop where
  is : ∃ a c, v = .slice a L.length c ∧ L.length ≤ c ∧ B ≤ w.heap.size ∧ ((L = [] ∧ (a = none → c = 0)) ∨ ∃ b o, a = some ⟨b, o, none⟩ ∧ b < B ∧ ∀ i, i < L.length → w.cell? ⟨b, o + i, none⟩ = some (Tx.sv L i))
theorem Tx.At.below {B : Nat} {w w' : World} {v : Value} {L : List Tx.Str} (h : Tx.At B w v L) (g : Below B w w') : Tx.At B w' v L := by
  obtain ⟨a, c, rfl, hc, hB, h⟩ := h
  refine ⟨a, c, rfl, hc, Nat.le_trans hB g.size, ?_⟩
  rcases h with h | ⟨b, o, rfl, hlt, h⟩
  · exact .inl h
  · exact .inr ⟨b, o, rfl, hlt, fun i hi => (g.cell (p := ⟨b, o + i, none⟩) hlt).trans (h i hi)⟩
theorem Tx.At.mono {B B' : Nat} {w : World} {v : Value} {L : List Tx.Str} (h : Tx.At B w v L) (h1 : B ≤ B') (h2 : B' ≤ w.heap.size) : Tx.At B' w v L := by
  obtain ⟨a, c, rfl, hc, hB, h⟩ := h
  refine ⟨a, c, rfl, hc, h2, ?_⟩
  rcases h with h | ⟨b, o, rfl, hlt, h⟩
  · exact .inl h
  · exact .inr ⟨b, o, rfl, by omega, h⟩
theorem Tx.At.nil (w : World) : Tx.At w.heap.size w (.slice none 0 0) [] := ⟨_, _, rfl, Nat.le_refl _, Nat.le_refl _, .inl ⟨rfl, fun _ => rfl⟩⟩
theorem Tx.S_size (t : Tx.Str) : (Ty.S t).size = t.length := rfl
theorem Tx.S_toList (t : Tx.Str) : (Ty.S t).toList = t := by
  rw [ByteArray.toList_eq]
  rfl
theorem Tx.S_yes (a : Tx.Str) : ((Ty.S a).toList == (Ty.S a).toList) = true := by rw [beq_iff_eq]
theorem Tx.S_no {a b : Tx.Str} (h : a ≠ b) : ((Ty.S a).toList == (Ty.S b).toList) = false := by
  rw [beq_eq_false_iff_ne, Tx.S_toList, Tx.S_toList]
  exact h
theorem Tx.cmp_lt (a b : Tx.Str) : decide (Kn.cmp ⟨false, 0, Ty.S a⟩ ⟨false, 0, Ty.S b⟩ < 0) = Tx.lt a b := by
  rw [Kn.ahead_is]
  simp only [Bool.false_eq_true, if_false, bne_self_eq_false]
  rw [Tx.S_toList, Tx.S_toList]
  rfl
set_option maxRecDepth 100000 in
set_option maxHeartbeats 1000000 in
theorem Tx.rahead_c (a b : Tx.Str) (ha : a.length ≤ 140737488351232) (hb : b.length ≤ 140737488351232) (w : World) :
    Calls Tryz.prog 142 #[.string (Ty.S a), .string (Ty.S b)] w fun e w' => e = .returned (.bool (Tx.lt a b)) ∧ Below w.heap.size w w' := by
  have ca := Kn.rAhead_c ⟨false, 0, Ty.S a⟩ ⟨false, 0, Ty.S b⟩ ha hb
  rw [Tx.cmp_lt] at ca
  unfold Kn.V.val at ca
  generalize Tx.lt a b = x at ca ⊢
  generalize Ty.S a = sa at ca ⊢
  generalize Ty.S b = sb at ca ⊢
  clear ha hb
  go_enter Tryz.func142, Tryz.ntmps142
  go_wp2_with fail
  refine (ca _).mono ?_
  rintro e w1 ⟨rfl, g1⟩
  go_wp2
  go_ret
  exact ⟨rfl, g1⟩
def Tx.posI (L : List Tx.Str) (t : Tx.Str) : Int := if t ∈ L then ((Tx.pos L t : Nat) : Int) else -1
theorem Tx.pos_le : ∀ (L : List Tx.Str) (t : Tx.Str) (k : Nat) (hk : k < L.length), L[k] = t → Tx.pos L t ≤ k
  | [], _, k, hk, _ => by simp at hk
  | a :: L, t, 0, _, e => by
    obtain rfl : a = t := e
    simp [Tx.pos]
  | a :: L, t, k + 1, hk, e => by
    have ih := Tx.pos_le L t k (by simpa using hk) (by simpa using e)
    unfold Tx.pos at ih ⊢
    rw [List.idxOf_cons]
    cases (a == t)
    · simpa using ih
    · simp
theorem Tx.posI_here {L : List Tx.Str} {t : Tx.Str} {k : Nat} (hk : k < L.length) (h : ∀ j, j < k → L.getD j [] ≠ t) (e : L.getD k [] = t) : Tx.posI L t = (k : Int) := by
  have hg : L[k] = t := by rw [← e, List.getD, List.getElem?_eq_getElem hk]; rfl
  have hm : t ∈ L := hg ▸ List.getElem_mem hk
  unfold Tx.posI
  rw [if_pos hm]
  have h1 := Tx.pos_get hm
  have h2 := Tx.pos_lt hm
  have h3 : ¬ Tx.pos L t < k := fun hc => h _ hc (by rw [List.getD, h1]; rfl)
  have h4 := Tx.pos_le L t k hk hg
  omega
theorem Tx.posI_none {L : List Tx.Str} {t : Tx.Str} (h : ∀ j, j < L.length → L.getD j [] ≠ t) : Tx.posI L t = -1 := by
  unfold Tx.posI
  rw [if_neg]
  intro hm
  obtain ⟨j, hj, e⟩ := List.getElem_of_mem hm
  exact h j hj (by rw [List.getD, List.getElem?_eq_getElem hj]; exact e)
set_option maxRecDepth 100000 in
set_option maxHeartbeats 1000000 in
theorem Tx.rat_c (v : Value) (L : List Tx.Str) (t : Tx.Str) (w : World) (hv : Tx.At w.heap.size w v L) (hn : L.length ≤ 140737488355328) :
    Calls Tryz.prog 132 #[v, .string (Ty.S t)] w fun e w' => e = .returned (.int .i64 (Tx.posI L t)) ∧ Below w.heap.size w w' := by
  obtain ⟨a, c, rfl, _, _, h⟩ := hv
  have HH := Lib.hid h
  obtain ⟨n, hnn⟩ : ∃ n, n = L.length := ⟨_, rfl⟩
  rw [← hnn] at hn ⊢
  have HN := Lib.hid hnn
  clear h hnn
  go_enter Tryz.func132, Tryz.ntmps132
  go_wp2
  go_loopw [5] (fun i wr => ∃ k : Nat, k ≤ n ∧ i = .int .i64 k ∧ (∀ j, j < k → L.getD j [] ≠ t) ∧ Below w.heap.size w wr) (fun i _ => n - (intOf i).toNat)
  case atStart => exact ⟨0, by omega, rfl, fun j hj => by omega, Below.refl _ _⟩
  case round =>
    obtain ⟨k, hk, rfl, hp, hb⟩ := hrel
    have HB := Lib.hid hb
    have HP := Lib.hid hp
    clear hp
    by_cases hl : k < n
    · rcases HH.out with h | ⟨b, o, rfl, hlt, h⟩
      · exact absurd hl (by rw [HN.out, h.1]; simp)
      · have hc := (hb.cell (p := ⟨b, o + k, none⟩) hlt).trans (h k (by rw [← HN.out]; exact hl))
        unfold Tx.sv at hc
        have dk : (k : Int) < (n : Int) := by omega
        have dk0 : (0 : Int) ≤ (k : Int) := by omega
        have dk2 : (k : Int) < 140737488355328 := by omega
        have HNN := Lib.hid hn
        by_cases he : L.getD k [] = t
        · have HE := Lib.hid (Tx.posI_here (by rw [← HN.out]; exact hl) HP.out he)
          have hx := Tx.S_yes t
          rw [he] at hc
          generalize Ty.S t = s at hc hx ⊢
          clear h hn hb he
          go_wp2
          go_ret
          exact ⟨congrArg (fun x : Int => Ending.returned (.int .i64 x)) HE.out.symm, HB.out⟩
        · have HE := Lib.hid he
          have hx := Tx.S_no he
          generalize Ty.S t = s at hc hx ⊢
          generalize Ty.S (L.getD k []) = s2 at hc hx ⊢
          clear h hn hb he
          go_wp2
          go_roundw
          case rel => exact ⟨k + 1, by omega, by simp, (fun j hj => by
            by_cases e : j = k
            · rw [e]; exact HE.out
            · exact HP.out j (by omega)), HB.out⟩
          case measure => simp [intOf]; omega
    · obtain rfl : k = n := by omega
      have dk : ¬ (k : Int) < (k : Int) := by omega
      have HE := Lib.hid (Tx.posI_none (L := L) (t := t) (fun j hj => HP.out j (by rw [HN.out]; exact hj)))
      clear hb
      go_wp2
      go_ret
      exact ⟨congrArg (fun x : Int => Ending.returned (.int .i64 x)) HE.out.symm, HB.out⟩
end Go.Proofs.YtfbjmehkipcmbaaGreatDoor

namespace Go.Proofs.YtfbjmehkipcmbaaGreatDoor
open Go.RowKit
theorem Tx.infoS : (Tryz.prog.info? 9).map (fun i => (i.zero, i.size, i.bytes)) = some (some (.string ⟨#[]⟩), 1, 16) := by kernel_rfl
theorem Ig.below_reg {w w' : World} (h : ∃ p : Regrown, w' = Sort.grow (redrawn w p.d) p.os) : Below w.heap.size w w' := by
  obtain ⟨p, rfl⟩ := h
  exact below_regrown w p.d p.os
def Tx.Own (base : Nat) (w : World) (v : Value) (L : List Tx.Str) : Prop := Bt.Buf 9 base w v L.length (Tx.sv L)
theorem Tx.Own.nil (base : Nat) (w : World) : Tx.Own base w (.slice none 0 0) [] := Bt.Buf.nil _ _ _ _
theorem Tx.sv_left (M R : List Tx.Str) {i : Nat} (h : i < M.length) : Tx.sv (M ++ R) i = Tx.sv M i := by
  unfold Tx.sv
  rw [List.getD, List.getD, List.getElem?_append_left h]
theorem Tx.sv_right (M R : List Tx.Str) (i : Nat) : Tx.sv (M ++ R) (M.length + i) = Tx.sv R i := by
  unfold Tx.sv
  have e : M.length + i - M.length = i := by omega
  rw [List.getD, List.getD, List.getElem?_append_right (by omega), e]
theorem Tx.sv_drop (M : List Tx.Str) (k i : Nat) : Tx.sv (M.drop k) i = Tx.sv M (k + i) := by
  unfold Tx.sv
  rw [List.getD, List.getD, List.getElem?_drop]
theorem Tx.sv_take (M : List Tx.Str) {k i : Nat} (h : i < k) : Tx.sv (M.take k) i = Tx.sv M i := by
  unfold Tx.sv
  rw [List.getD, List.getD, List.getElem?_take, if_pos h]
theorem Tx.Own.pre {base : Nat} {w : World} {v : Value} {M : List Tx.Str} (h : Tx.Own base w v M) (x : Tx.Str) : Bt.Buf 9 base w v M.length (Tx.sv (M ++ [x])) :=
  Bt.Buf.congr h fun i hi => by rw [Tx.sv_left M [x] hi]
theorem Tx.Own.post {base : Nat} {w : World} {v : Value} {M : List Tx.Str} {x : Tx.Str} (h : Bt.Buf 9 base w v (M.length + 1) (Tx.sv (M ++ [x]))) : Tx.Own base w v (M ++ [x]) := by
  unfold Tx.Own
  rw [List.length_append, List.length_singleton]
  exact h
theorem Tx.sv_snoc (M : List Tx.Str) (x : Tx.Str) : Value.string (Ty.S x) = Tx.sv (M ++ [x]) M.length := by
  have := Tx.sv_right M [x] 0
  rw [Nat.add_zero] at this
  rw [this]
  rfl
theorem Tx.Own.at {base : Nat} {w : World} {v : Value} {L : List Tx.Str} (h : Tx.Own base w v L) : Tx.At w.heap.size w v L := by
  have hs := Bt.Buf.sl h
  obtain ⟨a, c, rfl, h1⟩ := hs
  have hc : L.length ≤ c ∧ (a = none → c = 0) := by
    rcases h.2 with ⟨e, e0⟩ | ⟨g, cap, cur, e, _, _, hcap, _⟩
    · simp only [Value.slice.injEq] at e
      exact ⟨by omega, fun _ => by omega⟩
    · simp only [Value.slice.injEq] at e
      exact ⟨by omega, fun e2 => by rw [e2] at e; exact absurd e.1 (by simp)⟩
  refine ⟨a, c, rfl, hc.1, Nat.le_refl _, ?_⟩
  rcases h1 with h1 | h1
  · exact .inl ⟨List.eq_nil_of_length_eq_zero h1, hc.2⟩
  · exact .inr h1
def Tx.Src (w : World) (u : Value) (K : List Tx.Str) : Prop := (u = .slice none 0 0 ∧ K = []) ∨ ∃ ad c, u = .slice (some ad) K.length c ∧ ∀ i, i < K.length → w.cell? (ad.add i) = some (Tx.sv K i)
theorem Tx.addr_add (b o i : Nat) : (⟨b, o, none⟩ : Addr).add i = ⟨b, o + i, none⟩ := by unfold Addr.add; split <;> simp_all
theorem Tx.Own.form {base : Nat} {w : World} {v : Value} {L : List Tx.Str} (h : Tx.Own base w v L) : (v = .slice none 0 0 ∧ L = []) ∨ ∃ g c, v = .slice (some ⟨g, 0, none⟩) L.length c ∧ L.length ≤ c ∧ g < w.heap.size ∧ ∀ i, i < L.length → w.cell? ⟨g, i, none⟩ = some (Tx.sv L i) := by
  rcases h.2 with ⟨e, e0⟩ | ⟨g, cap, cur, e, _, hgg, hcap, _⟩
  · exact .inl ⟨e, List.eq_nil_of_length_eq_zero e0⟩
  · refine .inr ⟨g, cap, e, hcap, (Array.getElem?_eq_some_iff.1 hgg).1, fun i hi => ?_⟩
    have := h.cells (g := g) (by rw [e]; rfl) i (Tx.sv L i) (by simp [hi])
    rwa [Tx.addr_add, Nat.zero_add] at this
set_option maxRecDepth 100000 in
theorem Tx.append_more {base : Nat} {w0 : World} {v : Value} {M K : List Tx.Str} (hown : Tx.Own base w0 v M) (hb : base ≤ w0.heap.size) (hl : (M.length + K.length) * 16 ≤ 140737488355328) {u : Value} (hu : Tx.Src w0 u K) (ty : TypeId) :
    ∃ v' w', (Builtin.append_ #[113, 113] ty #[v, u]).run Tryz.prog w0 = .ok v' w' ∧ Tx.Own base w' v' (M ++ K) ∧ Ty.Grew w0 w' v v' := by
  obtain ⟨i0, hi, hz0, hz1, hz2⟩ := info_parts Tx.infoS
  rcases hu with ⟨rfl, rfl⟩ | ⟨ad, c, rfl, hK⟩
  · exact ⟨v, w0, run_append_owned_none (P := Tryz.prog) w0 base 113 ty 9 i0 1 Tryz.underlying113 hi v _ _ hown, by rw [List.append_nil]; exact hown, Ty.Grew.refl _ _⟩
  · obtain ⟨v', w', hr, h1, h2⟩ := Ty.append_tight (P := Tryz.prog) w0 base 113 ty 9 i0 _ 1 16 Tryz.underlying113 hi hz0 hz1 hz2 rfl (by decide) v M.length ((List.range M.length).map (Tx.sv M)) hown ad K.length c ((List.range K.length).map (Tx.sv K)) (by simp) (fun j u hj => by
      have hjl : j < K.length := by
        rcases Nat.lt_or_ge j K.length with h3 | h3
        · exact h3
        · rw [List.getElem?_eq_none (by simpa using h3)] at hj
          cases hj
      have e : u = Tx.sv K j := by
        rw [List.getElem?_map, List.getElem?_range hjl] at hj
        exact (Option.some.inj hj).symm
      rw [e]
      exact hK j hjl) (fun u hu => by
      obtain ⟨i, _, rfl⟩ := List.mem_map.1 hu
      rfl) (by unfold maxLen; omega) hl hb
    refine ⟨v', w', hr, ?_, h2⟩
    unfold Tx.Own Bt.Buf
    rw [List.length_append]
    have e : (List.range (M.length + K.length)).map (Tx.sv (M ++ K)) = (List.range M.length).map (Tx.sv M) ++ (List.range K.length).map (Tx.sv K) := by
      rw [List.range_add, List.map_append, List.map_map]
      congr 1
      · exact List.map_congr_left fun i hi => Tx.sv_left M K (List.mem_range.1 hi)
      · exact List.map_congr_left fun i _ => Tx.sv_right M K i
    rw [e]
    exact h1
theorem Tx.grew_below {wo w w' : World} {v v' : Value} {L : List Tx.Str} (hb : Below wo.heap.size wo w) (ho : Tx.Own wo.heap.size w v L) (g : Ty.Grew w w' v v') : Below wo.heap.size wo w' :=
  hb.trans (g.below hb.size (Bt.Buf.base_le ho))
theorem Tx.cell_kept {w w' : World} {v' : Value} (g : Ty.Grew w w' (.slice none 0 0) v') {a : Addr} {x : Value} (h : w.cell? a = some x) : w'.cell? a = some x := by
  have hb : Below w.heap.size w w' := g.below (Nat.le_refl _) (fun k hk => by cases hk)
  exact (hb.cell (World.block_lt_of_cell? w _ h)).trans h
theorem Tx.step_append_more {wo w0 : World} {v : Value} {M K : List Tx.Str} (hbW : Below wo.heap.size wo w0) (hown : Tx.Own wo.heap.size w0 v M) (hl : (M.length + K.length) * 16 ≤ 140737488355328)
    {ops : Array Oper} {o : Oper} {a : Act} {Kx : Act → World → Prop} {Q : Exit → Act → World → Prop} {E : Prop} (s x : Operand) (u : Value) (hgd : o.guard = none)
    (ho : o.op = .call { callee := .builtin .append, args := #[s, x], argTypes := #[113, 113] })
    (hs : a.eval s = v) (hx : a.eval x = u) (hu : Tx.Src w0 u K)
    (h : ∀ v' w', Tx.Own wo.heap.size w' v' (M ++ K) → Below wo.heap.size wo w' → Ty.Grew w0 w' v v' → Kx (a.put o.dst v') w') :
    if Region.wanted o (yielded ops a.tmps) = true then Oper.wp Tryz.prog o a w0 Kx Q else E := by
  have hw : Region.wanted o (yielded ops a.tmps) = true := by simp [Region.wanted, hgd]
  rw [if_pos hw]
  obtain ⟨v', w', hr, h2, h3⟩ := Tx.append_more hown hbW.size hl hu o.type
  unfold Oper.wp execOp
  simp only [ho, resolve, invoke, builtin, Sem.run_bind, Sem.run_pure, Result.andThen_ok, List.map_toArray, List.map_cons, List.map_nil, hs, hx, hr]
  exact h v' w' h2 (Tx.grew_below hbW hown h3) h3
theorem Tx.src_take {w W : World} {D : List Tx.Str} {b q : Nat} (hlt : b < w.heap.size) (hc : ∀ i, i < D.length → w.cell? ⟨b, i, none⟩ = some (Tx.sv D i)) (g : Below w.heap.size w W) (hq : q ≤ D.length) (c : Nat) : Tx.Src W (.slice (some ⟨b, 0, none⟩) q c) (D.take q) := by
  have hl : (D.take q).length = q := by rw [List.length_take]; omega
  refine .inr ⟨⟨b, 0, none⟩, c, by rw [hl], fun i hi => ?_⟩
  rw [hl] at hi
  rw [Tx.addr_add, Nat.zero_add, Tx.sv_take D hi]
  exact (g.cell (p := ⟨b, i, none⟩) hlt).trans (hc i (by omega))
theorem Tx.src_drop {w W : World} {D : List Tx.Str} {b q : Nat} (hlt : b < w.heap.size) (hc : ∀ i, i < D.length → w.cell? ⟨b, i, none⟩ = some (Tx.sv D i)) (g : Below w.heap.size w W) (hq : q ≤ D.length) (c : Nat) : Tx.Src W (.slice (some ⟨b, q, none⟩) (D.length - q) c) (D.drop q) := by
  have hl : (D.drop q).length = D.length - q := by rw [List.length_drop]
  refine .inr ⟨⟨b, q, none⟩, c, by rw [hl], fun i hi => ?_⟩
  rw [hl] at hi
  rw [Tx.addr_add, Tx.sv_drop]
  exact (g.cell (p := ⟨b, q + i, none⟩) hlt).trans (hc (q + i) (by omega))
theorem Tx.src_one {w : World} {b : Nat} {t : Tx.Str} (h : w.cell? ⟨b, 0, none⟩ = some (.string (Ty.S t))) (c : Nat) : Tx.Src w (.slice (some ⟨b, 0, none⟩) 1 c) [t] := by
  refine .inr ⟨⟨b, 0, none⟩, c, rfl, fun i hi => ?_⟩
  obtain rfl : i = 0 := by simpa using hi
  rw [Tx.addr_add]
  exact h
theorem Tx.Own.mono {B B' : Nat} {w : World} {v : Value} {L : List Tx.Str} (h : Tx.Own B w v L) (hB : B' ≤ B) : Tx.Own B' w v L := by
  refine ⟨h.1, ?_⟩
  rcases h.2 with hn | ⟨b, cap, cur, rfl, hbb, rest⟩
  · exact .inl hn
  · exact .inr ⟨b, cap, cur, rfl, by omega, rest⟩
theorem Tx.ins_at (t : Tx.Str) : ∀ (d : List Tx.Str) (k : Nat), t ∉ d → k ≤ d.length → (∀ i, i < k → Tx.lt (d.getD i []) t = true) → (k < d.length → Tx.lt (d.getD k []) t = false) → Tx.ins t d = d.take k ++ t :: d.drop k
  | [], k, _, hk, _, _ => by
    obtain rfl : k = 0 := by simpa using hk
    rfl
  | a :: d, 0, hm, _, _, h0 => by
    have h1 : a ≠ t := fun e => hm (by rw [e]; simp)
    have h2 : Tx.lt a t = false := h0 (by simp)
    unfold Tx.ins
    rw [if_neg h1, h2]
    rfl
  | a :: d, k + 1, hm, hk, hb, h0 => by
    have h1 : a ≠ t := fun e => hm (by rw [e]; simp)
    have h2 : Tx.lt a t = true := hb 0 (by omega)
    unfold Tx.ins
    rw [if_neg h1, if_pos h2, Tx.ins_at t d k (fun h => hm (by simp [h])) (by simpa using hk) (fun i hi => hb (i + 1) (by omega)) (fun h => h0 (by simpa using h))]
    rfl
theorem Tx.ins_in (t : Tx.Str) : ∀ (d : List Tx.Str) (p : Option Tx.Str), Tx.Asc p d → t ∈ d → Tx.ins t d = d
  | [], _, _, h => by cases h
  | a :: d, p, ha, h => by
    unfold Tx.ins
    by_cases h1 : a = t
    · rw [if_pos h1]
    · have hm : t ∈ d := by
        rcases List.mem_cons.1 h with e | e
        · exact absurd e.symm h1
        · exact e
      have h2 := Tx.asc_all d (some a) ha.2 a rfl t hm
      rw [if_neg h1, if_pos h2, Tx.ins_in t d (some a) ha.2 hm]
theorem Tx.dict_step (L : List Tx.Str) (k : Nat) (h : k < L.length) : Tx.dict (L.take (k + 1)) = Tx.ins (L.getD k []) (Tx.dict (L.take k)) := by
  unfold Tx.dict
  rw [List.take_succ_eq_append_getElem h, List.foldl_append, List.getD, List.getElem?_eq_getElem h]
  rfl
set_option maxHeartbeats 2000000 in
set_option maxRecDepth 100000 in
theorem Tx.rdict_c (v : Value) (L : List Tx.Str) (w : World) (hv : Tx.At w.heap.size w v L) (hn : L.length ≤ 65536) (h64 : ∀ t ∈ L, t.length ≤ 64) :
    Calls Tryz.prog 131 #[v] w fun e w' => ∃ u, e = .returned u ∧ Tx.Own w.heap.size w' u (Tx.dict L) ∧ Below w.heap.size w w' := by
  obtain ⟨a, c, rfl, _, _, h⟩ := hv
  have HH := Lib.hid h
  obtain ⟨n, hnn⟩ : ∃ n, n = L.length := ⟨_, rfl⟩
  rw [← hnn] at hn ⊢
  have HN := Lib.hid hnn
  have H64 := Lib.hid h64
  clear h hnn h64
  go_enter Tryz.func131, Tryz.ntmps131
  go_wp2
  go_loopw [3, 4] (fun u i wr => ∃ k : Nat, k ≤ n ∧ i = .int .i64 k ∧ Tx.Own w.heap.size wr u (Tx.dict (L.take k)) ∧ Below w.heap.size w wr) (fun _ i _ => n - (intOf i).toNat)
  case atStart => exact ⟨0, by omega, rfl, Tx.Own.nil _ _, Below.refl _ _⟩
  case round =>
    obtain ⟨k, hk, rfl, hO, hb⟩ := hrel
    have HB := Lib.hid hb
    have HO := Lib.hid hO
    clear hO
    by_cases hl : k < n
    · rcases HH.out with h | ⟨b, o, rfl, hlt, h⟩
      · exact absurd hl (by rw [HN.out, h.1]; simp)
      · have hc := (hb.cell (p := ⟨b, o + k, none⟩) hlt).trans (h k (by rw [← HN.out]; exact hl))
        unfold Tx.sv at hc
        have dk : (k : Int) < (n : Int) := by omega
        have dk0 : (0 : Int) ≤ (k : Int) := by omega
        have dk2 : (k : Int) < 140737488355328 := by omega
        have HNN := Lib.hid hn
        have HS := Lib.hid (Tx.dict_step L k (by rw [← HN.out]; exact hl))
        have HT : Hid ((L.getD k []).length ≤ 64) := Lib.hid (H64.out _ (by rw [List.getD, List.getElem?_eq_getElem (by rw [← HN.out]; exact hl)]; exact List.getElem_mem _))
        have HA := Lib.hid (Tx.dict_asc (L.take k))
        have HD64 : Hid (∀ x ∈ Tx.dict (L.take k), x.length ≤ 64) := Lib.hid fun x hx => H64.out x (List.mem_of_mem_take ((Tx.dict_mem _ x).1 hx))
        have hDl : (Tx.dict (L.take k)).length ≤ k := Nat.le_trans (Tx.dict_len _) (List.length_take_le _ _)
        obtain ⟨t, ht⟩ : ∃ t, t = L.getD k [] := ⟨_, rfl⟩
        obtain ⟨D, hD⟩ : ∃ D, D = Tx.dict (L.take k) := ⟨_, rfl⟩
        rw [← ht] at hc HS HT
        rw [← hD] at HO HS HA hDl HD64
        have hat := HO.out.at
        have ca := Tx.rat_c u3 D t wr hat (by omega)
        have HAT := Lib.hid hat
        clear h hb hn ht hD hat
        by_cases hm : t ∈ D
        · have hp : Tx.posI D t = ((Tx.pos D t : Nat) : Int) := by unfold Tx.posI; rw [if_pos hm]
          rw [hp] at ca
          generalize Tx.pos D t = q at ca hp
          have hq : (0 : Int) ≤ (q : Int) := by omega
          have HS2 : Hid (Tx.dict (L.take (k + 1)) = D) := Lib.hid (by rw [HS.out]; exact Tx.ins_in t D none HA.out hm)
          generalize Ty.S t = ts at hc ca
          clear hm hp
          go_wp2_with fail
          refine ca.mono ?_
          rintro e w1 ⟨rfl, g1⟩
          go_wp2
          go_roundw
          case rel => exact ⟨k + 1, by omega, by simp, by rw [HS2.out]; exact Bt.Buf.kept HO.out g1, HB.out.trans (g1.mono HB.out.size)⟩
          case measure => simp [intOf]; omega
        · have hp : Tx.posI D t = -1 := by unfold Tx.posI; rw [if_neg hm]
          rw [hp] at ca
          have HM := Lib.hid hm
          obtain ⟨ts, hts⟩ : ∃ ts, ts = Ty.S t := ⟨_, rfl⟩
          rw [← hts] at hc ca
          have HTS := Lib.hid hts
          clear hm hp hts
          have hform := HO.out.form
          have HCL := Lib.hid hform
          rcases hform with ⟨rfl, hD0⟩ | ⟨b2, c2, rfl, hcap, hlt2, hcl⟩
          · subst hD0
            have HIN := Lib.hid (Tx.ins_at t [] 0 HM.out (by simp) (fun i hi => by omega) fun h => by simp at h)
            go_wp2_with fail
            refine ca.mono ?_
            rintro e w1 ⟨rfl, g1⟩
            have G1 := Lib.hid g1
            clear g1 ca
            generalize wr = wo at *
            go_wp2_with fail
            go_loopw [5] (fun j wi => j = .int .i64 0 ∧ Below wo.heap.size wo wi) (fun _ _ => 0)
            case atStart => exact ⟨rfl, G1.out⟩
            case round =>
              obtain ⟨rfl, hbi⟩ := hrel
              have HBI := Lib.hid hbi
              clear hbi
              go_wp2_with fail
              go_quiet (fail)
              go_wp2_with fail
              generalize hwq : wr.drewN _ = wq
              have HB2 : Hid (Below wo.heap.size wo wq) := Lib.hid (by rw [← hwq]; exact HBI.out.trans ((Bt.drewN_below wr _).mono HBI.out.size))
              clear hwq
              have HC0 := Lib.hid hc
              have hcz := HB2.out.cell (p := ⟨b, o + k, none⟩) (World.block_lt_of_cell? wo _ hc)
              rw [hc] at hcz
              have HSA : Hid (∀ W, Below wo.heap.size wo W → Tx.Src W (.slice none 0 0) []) := Lib.hid fun W g => .inl ⟨rfl, rfl⟩
              clear hc
              have HZ : Hid (∀ W, Below wo.heap.size wo W → W.cell? ⟨b, o + k, none⟩ = some (.string ts)) := Lib.hid fun W g => (g.cell (p := ⟨b, o + k, none⟩) (World.block_lt_of_cell? wo _ HC0.out)).trans HC0.out
              have HONE : Hid (∀ W B, W.cell? ⟨B, 0, none⟩ = some (.string ts) → Tx.Src W (.slice (some ⟨B, 0, none⟩) 1 1) [t]) := Lib.hid fun W B h => Tx.src_one (by rw [← HTS.out]; exact h) 1
              have HDQ2 : Hid ([] ++ [] ++ [t] ++ [] = List.take 0 [] ++ t :: List.drop 0 []) := Lib.hid rfl
              have HD0 : Hid (Below wo.heap.size wo wq.drew) := Lib.hid HB2.out.drew
              have HNM : Hid (([] : List Tx.Str).length ≤ 65536) := Lib.hid (by simp)
              go_wp2_with fail
              go_region_held3 (fun wx => wx.cell? ⟨b, o + k, none⟩ = some (.string ts))
                (first
                  | exact HZ.out _ HD0.out
                  | exact HZ.out _ (HD0.out.alloc HD0.out.size _)
                  | exact HZ.out _ b4
                  | exact HZ.out _ b3
                  | exact HZ.out _ b1
                  | exact HZ.out _ (b1.alloc b1.size _))
                (first
                  | (refine Tx.step_append_more (M := []) (K := []) HD0.out (Tx.Own.nil _ _) (by have := HNM.out; simp only [List.length_nil]; omega) _ _ _ (by rfl) (by rfl) (by rfl) (by rfl) (HSA.out _ HD0.out) ?_; intro v1 w1 o1 b1 g1)
                  | (refine Tx.step_append_more (M := []) (K := []) (HD0.out.alloc HD0.out.size _) (Tx.Own.nil _ _) (by have := HNM.out; simp only [List.length_nil]; omega) _ _ _ (by rfl) (by rfl) (by rfl) (by rfl) (HSA.out _ (HD0.out.alloc HD0.out.size _)) ?_; intro v1 w1 o1 b1 g1)
                  | (refine Tx.step_append_more (M := [] ++ []) (K := [t]) (b1.alloc b1.size _) (World.ownsRow.alloc o1 _) (by have := HNM.out; simp only [List.nil_append, List.length_singleton]; omega) _ _ _ (by rfl) (by rfl) (by rfl) (by rfl) (HONE.out _ _ (Kn.cell_new _ _ _ 0 _ rfl)) ?_; intro v3 w3 o3 b3 g3)
                  | (refine Tx.step_append_more (M := [] ++ []) (K := [t]) b1 o1 (by have := HNM.out; simp only [List.nil_append, List.length_singleton]; omega) _ _ _ (by rfl) (by rfl) (by rfl) (by rfl) (HONE.out _ _ (Tx.cell_kept g1 (Kn.cell_new _ _ _ 0 _ rfl))) ?_; intro v3 w3 o3 b3 g3)
                  | (refine Tx.step_append_more (M := [] ++ [] ++ [t]) (K := []) b3 o3 (by have := HNM.out; simp only [List.nil_append, List.length_singleton]; omega) _ _ _ (by rfl) (by rfl) (by rfl) (by rfl) (HSA.out _ b3) ?_; intro v4 w4 o4 b4 g4))
              all_goals
                have HB4 := Lib.hid (HB.out.trans (b4.mono HB.out.size))
                have HO4 := Lib.hid (Tx.Own.mono o4 HB.out.size)
                clear o1 o3 o4 g1 g3 g4 b1 b3 b4
                go_wp2
                go_roundw
                case rel => exact ⟨k + 1, by omega, by simp, by rw [HS.out, HIN.out]; exact HDQ2.out ▸ HO4.out, HB4.out⟩
                case measure => simp [intOf]; omega
          have HCLS := Lib.hid hcl
          clear hcl
          go_wp2_with fail
          refine ca.mono ?_
          rintro e w1 ⟨rfl, g1⟩
          have G1 := Lib.hid g1
          clear g1 ca
          generalize wr = wo at *
          go_wp2_with fail
          go_loopw [5] (fun j wi => ∃ q : Nat, q ≤ D.length ∧ j = .int .i64 q ∧ (∀ i, i < q → Tx.lt (D.getD i []) t = true) ∧ Below wo.heap.size wo wi) (fun j _ => D.length - (intOf j).toNat)
          case atStart => exact ⟨0, by omega, rfl, (fun i hi => by omega), G1.out⟩
          case round =>
            obtain ⟨q, hq, rfl, hlts, hbi⟩ := hrel
            have HLT := Lib.hid hlts
            have HBI := Lib.hid hbi
            clear hlts
            have dq0 : (0 : Int) ≤ (q : Int) := by omega
            have dq2 : (q : Int) < 140737488355328 := by omega
            by_cases hqd : q < D.length
            · have hc2 := (hbi.cell (p := ⟨b2, q, none⟩) hlt2).trans (HCLS.out q hqd)
              have hc3 := hbi.cell (p := ⟨b, o + k, none⟩) (World.block_lt_of_cell? wo _ hc)
              rw [hc] at hc3
              unfold Tx.sv at hc2
              have dq : (q : Int) < (D.length : Int) := by omega
              have HDQ : Hid ((D.getD q []).length ≤ 140737488351232) := Lib.hid (by
                have := HD64.out (D.getD q []) (by rw [List.getD, List.getElem?_eq_getElem hqd]; exact List.getElem_mem _)
                omega)
              have CA : Hid (∀ p : Regrown, Calls Tryz.prog 142 #[.string (Ty.S (D.getD q [])), .string ts] (Sort.grow (redrawn wr p.d) p.os) fun e w'' => e = .returned (.bool (Tx.lt (D.getD q []) t)) ∧ ∃ p : Regrown, w'' = Sort.grow (redrawn wr p.d) p.os) := Lib.hid fun p => by
                rw [HTS.out]
                exact Calls.regrown_of (Tx.rahead_c _ _ HDQ.out (by have := HT.out; omega) _)
              have E0 := fun d os => cell_regrown hc2 d os
              have E1 := fun d os => cell_regrown hc3 d os
              generalize Ty.S (D.getD q []) = ds at CA E0 hc2
              have HQ := Lib.hid hqd
              cases hx : Tx.lt (D.getD q []) t
              · rw [hx] at CA
                have HX := Lib.hid hx
                clear hx hbi
                go_wp2_with fail
                refine wp_region_quiet_below (by kernel_rfl) (by kernel_rfl) ?_
                repeat (go_big_quiet_step (first | with_reducible exact CA.out _))
                refine wpQuiet_nil ?_
                intro wq hw'
                have HB2 := Lib.hid (HBI.out.trans ((Ig.below_reg hw').mono HBI.out.size))
                have HIN := Lib.hid (Tx.ins_at t D q HM.out (by omega) HLT.out fun _ => HX.out)
                have HC0 := Lib.hid hc
                have hcz := HB2.out.cell (p := ⟨b, o + k, none⟩) (World.block_lt_of_cell? wo _ hc)
                rw [hc] at hcz
                have HSA : Hid (∀ W, Below wo.heap.size wo W → Tx.Src W (.slice (some ⟨b2, 0, none⟩) q c2) (D.take q)) := Lib.hid fun W g => Tx.src_take hlt2 HCLS.out g (by omega) c2
                obtain ⟨oz, hoz, HSC⟩ : ∃ oz, ((c2 = q ∧ oz = 0) ∨ (¬ c2 = q ∧ oz = q)) ∧ Hid (∀ W, Below wo.heap.size wo W → ∀ m c, m = D.length - q → Tx.Src W (.slice (some ⟨b2, oz, none⟩) m c) (D.drop q)) := by
                  by_cases hcq : c2 = q
                  · refine ⟨0, .inl ⟨hcq, rfl⟩, Lib.hid fun W g m c hm => .inr ⟨⟨b2, 0, none⟩, c, by rw [List.length_drop, hm], fun i hi => ?_⟩⟩
                    rw [List.length_drop] at hi
                    omega
                  · exact ⟨q, .inr ⟨hcq, rfl⟩, Lib.hid fun W g m c hm => by rw [hm]; exact Tx.src_drop hlt2 HCLS.out g (by omega) c⟩
                have dq4 : (q : Int) ≤ (c2 : Int) := by omega
                have dq5 : (q : Int) ≤ (D.length : Int) := by omega
                have dq6 : (D.length : Int) ≤ (c2 : Int) := by omega
                clear hw' CA E0 E1 hc2 hc3 hc
                have HZ : Hid (∀ W, Below wo.heap.size wo W → W.cell? ⟨b, o + k, none⟩ = some (.string ts)) := Lib.hid fun W g => (g.cell (p := ⟨b, o + k, none⟩) (World.block_lt_of_cell? wo _ HC0.out)).trans HC0.out
                have HONE : Hid (∀ W B, W.cell? ⟨B, 0, none⟩ = some (.string ts) → Tx.Src W (.slice (some ⟨B, 0, none⟩) 1 1) [t]) := Lib.hid fun W B h => Tx.src_one (by rw [← HTS.out]; exact h) 1
                have HDQ2 : Hid ([] ++ D.take q ++ [t] ++ D.drop q = D.take q ++ t :: D.drop q) := Lib.hid (by simp)
                have HD0 : Hid (Below wo.heap.size wo wq.drew) := Lib.hid HB2.out.drew
                have HNM : Hid (D.length ≤ 65536 ∧ (D.take q).length ≤ 65536 ∧ (D.drop q).length ≤ 65536) := Lib.hid ⟨by have := HNN.out; omega, by rw [List.length_take]; have := HNN.out; omega, by rw [List.length_drop]; have := HNN.out; omega⟩
                generalize D.take q = K1 at HSA HNM HDQ2 HIN
                generalize D.drop q = K3 at HSC HNM HDQ2 HIN
                rcases hoz with ⟨rfl, rfl⟩ | ⟨hcq, rfl⟩
                all_goals
                  go_wp2_with fail
                  go_region_held3 (fun wx => wx.cell? ⟨b, o + k, none⟩ = some (.string ts))
                    (first
                      | exact HZ.out _ HD0.out
                      | exact HZ.out _ (HD0.out.alloc HD0.out.size _)
                      | exact HZ.out _ b4
                      | exact HZ.out _ b3
                      | exact HZ.out _ b1
                      | exact HZ.out _ (b1.alloc b1.size _))
                    (first
                      | (refine Tx.step_append_more (M := []) (K := K1) HD0.out (Tx.Own.nil _ _) (by have := HNM.out; simp only [List.length_nil]; omega) _ _ _ (by rfl) (by rfl) (by rfl) (by rfl) (HSA.out _ HD0.out) ?_; intro v1 w1 o1 b1 g1)
                      | (refine Tx.step_append_more (M := []) (K := K1) (HD0.out.alloc HD0.out.size _) (Tx.Own.nil _ _) (by have := HNM.out; simp only [List.length_nil]; omega) _ _ _ (by rfl) (by rfl) (by rfl) (by rfl) (HSA.out _ (HD0.out.alloc HD0.out.size _)) ?_; intro v1 w1 o1 b1 g1)
                      | (refine Tx.step_append_more (M := [] ++ K1) (K := [t]) (b1.alloc b1.size _) (World.ownsRow.alloc o1 _) (by have := HNM.out; simp only [List.nil_append, List.length_singleton]; omega) _ _ _ (by rfl) (by rfl) (by rfl) (by rfl) (HONE.out _ _ (Kn.cell_new _ _ _ 0 _ rfl)) ?_; intro v3 w3 o3 b3 g3)
                      | (refine Tx.step_append_more (M := [] ++ K1) (K := [t]) b1 o1 (by have := HNM.out; simp only [List.nil_append, List.length_singleton]; omega) _ _ _ (by rfl) (by rfl) (by rfl) (by rfl) (HONE.out _ _ (Tx.cell_kept g1 (Kn.cell_new _ _ _ 0 _ rfl))) ?_; intro v3 w3 o3 b3 g3)
                      | (refine Tx.step_append_more (M := [] ++ K1 ++ [t]) (K := K3) b3 o3 (by have := HNM.out; simp only [List.nil_append, List.length_append, List.length_singleton]; omega) _ _ _ (by rfl) (by rfl) (by rfl) (by rfl) (HSC.out _ b3 _ _ (by first | rfl | omega | simp)) ?_; intro v4 w4 o4 b4 g4))
                  all_goals
                    have HB4 := Lib.hid (HB.out.trans (b4.mono HB.out.size))
                    have HO4 := Lib.hid (Tx.Own.mono o4 HB.out.size)
                    clear o1 o3 o4 g1 g3 g4 b1 b3 b4
                    go_wp2
                    go_roundw
                    case rel => exact ⟨k + 1, by omega, by simp, by rw [HS.out, HIN.out]; exact HDQ2.out ▸ HO4.out, HB4.out⟩
                    case measure => simp [intOf]; omega
              · rw [hx] at CA
                have HX := Lib.hid hx
                clear hx hbi
                go_wp2_with fail
                refine wp_region_quiet_below (by kernel_rfl) (by kernel_rfl) ?_
                repeat (go_big_quiet_step (first | with_reducible exact CA.out _))
                refine wpQuiet_nil ?_
                intro wq hw'
                have HB2 := Lib.hid (HBI.out.trans ((Ig.below_reg hw').mono HBI.out.size))
                clear hw'
                go_wp2
                go_roundw
                case rel => exact ⟨q + 1, by omega, by simp, (fun i hi => by
                  by_cases e : i = q
                  · rw [e]; exact HX.out
                  · exact HLT.out i (by omega)), HB2.out⟩
                case measure => simp [intOf]; omega
            · have dq : ¬ (q : Int) < (D.length : Int) := by omega
              have HIN := Lib.hid (Tx.ins_at t D q HM.out hq HLT.out fun h => absurd h hqd)
              clear hbi
              go_wp2_with fail
              go_quiet (fail)
              go_wp2_with fail
              generalize hwq : wr.drewN _ = wq
              have HB2 : Hid (Below wo.heap.size wo wq) := Lib.hid (by rw [← hwq]; exact HBI.out.trans ((Bt.drewN_below wr _).mono HBI.out.size))
              clear hwq
              have HC0 := Lib.hid hc
              have hcz := HB2.out.cell (p := ⟨b, o + k, none⟩) (World.block_lt_of_cell? wo _ hc)
              rw [hc] at hcz
              have HSA : Hid (∀ W, Below wo.heap.size wo W → Tx.Src W (.slice (some ⟨b2, 0, none⟩) q c2) (D.take q)) := Lib.hid fun W g => Tx.src_take hlt2 HCLS.out g (by omega) c2
              obtain ⟨oz, hoz, HSC⟩ : ∃ oz, ((c2 = q ∧ oz = 0) ∨ (¬ c2 = q ∧ oz = q)) ∧ Hid (∀ W, Below wo.heap.size wo W → ∀ m c, m = D.length - q → Tx.Src W (.slice (some ⟨b2, oz, none⟩) m c) (D.drop q)) := by
                by_cases hcq : c2 = q
                · refine ⟨0, .inl ⟨hcq, rfl⟩, Lib.hid fun W g m c hm => .inr ⟨⟨b2, 0, none⟩, c, by rw [List.length_drop, hm], fun i hi => ?_⟩⟩
                  rw [List.length_drop] at hi
                  omega
                · exact ⟨q, .inr ⟨hcq, rfl⟩, Lib.hid fun W g m c hm => by rw [hm]; exact Tx.src_drop hlt2 HCLS.out g (by omega) c⟩
              have dq4 : (q : Int) ≤ (c2 : Int) := by omega
              have dq5 : (q : Int) ≤ (D.length : Int) := by omega
              have dq6 : (D.length : Int) ≤ (c2 : Int) := by omega
              clear hc
              have HZ : Hid (∀ W, Below wo.heap.size wo W → W.cell? ⟨b, o + k, none⟩ = some (.string ts)) := Lib.hid fun W g => (g.cell (p := ⟨b, o + k, none⟩) (World.block_lt_of_cell? wo _ HC0.out)).trans HC0.out
              have HONE : Hid (∀ W B, W.cell? ⟨B, 0, none⟩ = some (.string ts) → Tx.Src W (.slice (some ⟨B, 0, none⟩) 1 1) [t]) := Lib.hid fun W B h => Tx.src_one (by rw [← HTS.out]; exact h) 1
              have HDQ2 : Hid ([] ++ D.take q ++ [t] ++ D.drop q = D.take q ++ t :: D.drop q) := Lib.hid (by simp)
              have HD0 : Hid (Below wo.heap.size wo wq.drew) := Lib.hid HB2.out.drew
              have HNM : Hid (D.length ≤ 65536 ∧ (D.take q).length ≤ 65536 ∧ (D.drop q).length ≤ 65536) := Lib.hid ⟨by have := HNN.out; omega, by rw [List.length_take]; have := HNN.out; omega, by rw [List.length_drop]; have := HNN.out; omega⟩
              generalize D.take q = K1 at HSA HNM HDQ2 HIN
              generalize D.drop q = K3 at HSC HNM HDQ2 HIN
              rcases hoz with ⟨rfl, rfl⟩ | ⟨hcq, rfl⟩
              all_goals
                go_wp2_with fail
                go_region_held3 (fun wx => wx.cell? ⟨b, o + k, none⟩ = some (.string ts))
                  (first
                    | exact HZ.out _ HD0.out
                    | exact HZ.out _ (HD0.out.alloc HD0.out.size _)
                    | exact HZ.out _ b4
                    | exact HZ.out _ b3
                    | exact HZ.out _ b1
                    | exact HZ.out _ (b1.alloc b1.size _))
                  (first
                    | (refine Tx.step_append_more (M := []) (K := K1) HD0.out (Tx.Own.nil _ _) (by have := HNM.out; simp only [List.length_nil]; omega) _ _ _ (by rfl) (by rfl) (by rfl) (by rfl) (HSA.out _ HD0.out) ?_; intro v1 w1 o1 b1 g1)
                    | (refine Tx.step_append_more (M := []) (K := K1) (HD0.out.alloc HD0.out.size _) (Tx.Own.nil _ _) (by have := HNM.out; simp only [List.length_nil]; omega) _ _ _ (by rfl) (by rfl) (by rfl) (by rfl) (HSA.out _ (HD0.out.alloc HD0.out.size _)) ?_; intro v1 w1 o1 b1 g1)
                    | (refine Tx.step_append_more (M := [] ++ K1) (K := [t]) (b1.alloc b1.size _) (World.ownsRow.alloc o1 _) (by have := HNM.out; simp only [List.nil_append, List.length_singleton]; omega) _ _ _ (by rfl) (by rfl) (by rfl) (by rfl) (HONE.out _ _ (Kn.cell_new _ _ _ 0 _ rfl)) ?_; intro v3 w3 o3 b3 g3)
                    | (refine Tx.step_append_more (M := [] ++ K1) (K := [t]) b1 o1 (by have := HNM.out; simp only [List.nil_append, List.length_singleton]; omega) _ _ _ (by rfl) (by rfl) (by rfl) (by rfl) (HONE.out _ _ (Tx.cell_kept g1 (Kn.cell_new _ _ _ 0 _ rfl))) ?_; intro v3 w3 o3 b3 g3)
                    | (refine Tx.step_append_more (M := [] ++ K1 ++ [t]) (K := K3) b3 o3 (by have := HNM.out; simp only [List.nil_append, List.length_append, List.length_singleton]; omega) _ _ _ (by rfl) (by rfl) (by rfl) (by rfl) (HSC.out _ b3 _ _ (by first | rfl | omega | simp)) ?_; intro v4 w4 o4 b4 g4))
                all_goals
                  have HB4 := Lib.hid (HB.out.trans (b4.mono HB.out.size))
                  have HO4 := Lib.hid (Tx.Own.mono o4 HB.out.size)
                  clear o1 o3 o4 g1 g3 g4 b1 b3 b4
                  go_wp2
                  go_roundw
                  case rel => exact ⟨k + 1, by omega, by simp, by rw [HS.out, HIN.out]; exact HDQ2.out ▸ HO4.out, HB4.out⟩
                  case measure => simp [intOf]; omega
    · obtain rfl : k = n := by omega
      have dk : ¬ (k : Int) < (k : Int) := by omega
      have HF : Hid (Tx.dict (L.take k) = Tx.dict L) := Lib.hid (by rw [HN.out, List.take_length])
      clear hb
      go_wp2
      go_ret
      exact ⟨_, rfl, by rw [← HF.out]; exact HO.out, HB.out⟩
end Go.Proofs.YtfbjmehkipcmbaaGreatDoor

namespace Go.Proofs.YtfbjmehkipcmbaaGreatDoor
open Go.RowKit
open Ty (encU num)
theorem Tx.buf_one {base : Nat} {w : World} (k : Nat) (hk : k < 256) (hb : base ≤ w.heap.size) : Ty.Buf base (w.alloc (.cells #[.int .u8 (k : Int)] 5)) (.slice (some ⟨w.heap.size, 0, none⟩) 1 1) [UInt8.ofNat k] := by
  refine ⟨by simp, .inr ⟨w.heap.size, 1, _, rfl, hb, heap_alloc_new w _, Nat.le_refl _, by unfold maxLen; omega, by simp, ?_⟩⟩
  have := Ty.toNat_ofNat8 k hk
  simp [Ty.B, this]
theorem Tx.one_str (q : Nat) (hq : q < 256) (wz : World) : (convert 45 9 (.slice (some ⟨wz.heap.size, 0, none⟩) 1 1)).run Tryz.prog (wz.alloc (.cells #[.int .u8 (q : Int)] 5)) = .ok (.string (Ty.S [UInt8.ofNat q])) (wz.alloc (.cells #[.int .u8 (q : Int)] 5)) :=
  (Tx.buf_one (base := wz.heap.size) q hq (Nat.le_refl _)).str
theorem Tx.one_str2 (q : Nat) (hq : q < 256) (wz wy : World) (g : Below (wz.alloc (.cells #[.int .u8 (q : Int)] 5)).heap.size (wz.alloc (.cells #[.int .u8 (q : Int)] 5)) wy) : (convert 45 9 (.slice (some ⟨wz.heap.size, 0, none⟩) 1 1)).run Tryz.prog wy = .ok (.string (Ty.S [UInt8.ofNat q])) wy :=
  ((Tx.buf_one (base := wz.heap.size) q hq (Nat.le_refl _)).later g).str
theorem Tx.one_str3 (q : Nat) (hq : q < 256) (wz wy : World) (g : Below (wz.alloc (.cells #[.int .u8 (q : Int)] 5)).drew.heap.size (wz.alloc (.cells #[.int .u8 (q : Int)] 5)).drew wy) : (convert 45 9 (.slice (some ⟨wz.heap.size, 0, none⟩) 1 1)).run Tryz.prog wy = .ok (.string (Ty.S [UInt8.ofNat q])) wy :=
  Tx.one_str2 q hq wz wy ((Below.refl _ _).drew.trans g)
theorem Tx.one_str5 (q : Nat) (hq : q < 256) (wz : World) : (convert 45 9 (.slice (some ⟨wz.heap.size, 0, none⟩) 1 1)).run Tryz.prog (wz.alloc (.cells #[.int .u8 (q : Int)] 5)).drew = .ok (.string (Ty.S [UInt8.ofNat q])) (wz.alloc (.cells #[.int .u8 (q : Int)] 5)).drew :=
  Tx.one_str2 q hq wz _ (Below.refl _ _).drew
theorem Tx.one_str4 (q : Nat) (hq : q < 256) (wz wy : World) (g : Below (wz.drew.alloc (.cells #[.int .u8 (q : Int)] 5)).heap.size (wz.drew.alloc (.cells #[.int .u8 (q : Int)] 5)) wy) : (convert 45 9 (.slice (some ⟨wz.heap.size, 0, none⟩) 1 1)).run Tryz.prog wy = .ok (.string (Ty.S [UInt8.ofNat q])) wy :=
  Tx.one_str2 q hq wz.drew wy g
theorem Tx.S_add (a b : List UInt8) : Ty.S a ++ Ty.S b = Ty.S (a ++ b) := ByteArray.mk_append_mk a b
theorem Tx.len_encT {t : Tx.Str} (h : t.length ≤ 64) : (Tx.encT t).length ≤ 73 := by
  have := Ty.encU_len9 t.length
  unfold Tx.encT
  rw [List.length_append]
  omega
theorem Tx.len_flat : ∀ (L : List Tx.Str), (∀ t ∈ L, t.length ≤ 64) → (L.flatMap Tx.encT).length ≤ 73 * L.length
  | [], _ => by simp
  | t :: L, h => by
    have h1 := Tx.len_encT (h t (by simp))
    have h2 := Tx.len_flat L fun x hx => h x (by simp [hx])
    rw [List.flatMap_cons, List.length_append, List.length_cons]
    omega
theorem Tx.flat_next {L : List Tx.Str} {j : Nat} (h : j < L.length) : (L.take (j + 1)).flatMap Tx.encT = (L.take j).flatMap Tx.encT ++ Tx.encT (L.getD j []) := by
  rw [List.take_succ_eq_append_getElem h, List.flatMap_append, List.getD, List.getElem?_eq_getElem h]
  simp
theorem Tx.rtext_x (t : Tx.Str) (h : t.length ≤ 64) (w : World) : Calls Tryz.prog 30 #[.string (Ty.S t)] w fun e w' => e = .returned (.string (Ty.S (Tx.encT t))) ∧ Below w.heap.size w w' :=
  Ty.rtext_c (Ty.S t) (show t.length ≤ _ by omega) w
set_option maxHeartbeats 1000000 in
set_option maxRecDepth 100000 in
theorem Tx.rwith_good (u : Value) (L : List Tx.Str) (k : Nat) (hk : k ≤ 1) (w : World) (hL : Tx.At w.heap.size w u L) (h64 : ∀ t ∈ L, t.length ≤ 64) (hl : L.length ≤ 65536) :
    Calls Tryz.prog 99 #[u, .int .i64 k] w fun e w' => e = .returned (.tuple #[.string (Ty.S (Tx.enc k L)), .int .i64 0]) ∧ Below w.heap.size w w' := by
  have HE : Hid (Tx.enc k L = (UInt8.ofNat k :: encU L.length) ++ Tx.body k L) := Lib.hid (by unfold Tx.enc; simp)
  have HL := Lib.hid hL
  have HI := Lib.hid h64
  have hn2 : ¬ (65536 : Int) < (L.length : Int) := by omega
  have hn6 : (L.length : Int) ≤ 65536 := by omega
  have hn0 : (0 : Int) ≤ (L.length : Int) := by omega
  obtain ⟨a, c, rfl, hc, _, h⟩ := hL
  have HC := Lib.hid h
  have hk0 : (0 : Int) ≤ (k : Int) := by omega
  have hk3 : (k : Int) ≤ 1 := by omega
  obtain ⟨A, hA⟩ : ∃ A, A = Ty.S (encU L.length) := ⟨_, rfl⟩
  have hA9 : A.size ≤ 9 := by rw [hA]; exact Ty.encU_len9 _
  obtain ⟨B, hB⟩ : ∃ B, B = Ty.S [UInt8.ofNat k] := ⟨_, rfl⟩
  have hB9 : B.size ≤ 1 := by rw [hB]; exact Nat.le_refl _
  have n1 : ¬ 9223372036854775807 < B.size + A.size := by omega
  have hwn : IntKind.u64.wrap (L.length : Int) = (L.length : Int) := by rw [IntKind.wrap_u64]; omega
  have CU : Hid (∀ wz, Calls Tryz.prog 26 #[.int .u64 (L.length : Int)] wz fun e w' => e = .returned (.string A) ∧ Below wz.heap.size wz w') := Lib.hid fun wz => by rw [hA]; exact Ty.ruint_nat L.length wz
  have CV : Hid (∀ wz, Calls Tryz.prog 26 #[.int .u64 (IntKind.u64.wrap (L.length : Int))] wz fun e w' => e = .returned (.string A) ∧ Below wz.heap.size wz w') := Lib.hid fun wz => by rw [hwn]; exact CU.out wz
  have one1 := Tx.one_str k (by omega)
  have ONE2 := Lib.hid (Tx.one_str3 k (by omega))
  have ONE4 := Lib.hid (Tx.one_str4 k (by omega))
  have one5 := Tx.one_str5 k (by omega)
  rw [← hB] at one1 ONE2 ONE4 one5
  have ONE1 := Lib.hid one1
  have ONE5 := Lib.hid one5
  have HD : Hid (B ++ A = Ty.S (UInt8.ofNat k :: encU L.length)) := Lib.hid (by rw [hA, hB, Tx.S_add]; rfl)
  have h9 := Ty.encU_len9 L.length
  obtain ⟨D, hD⟩ : ∃ D, D = UInt8.ofNat k :: encU L.length := ⟨_, rfl⟩
  have hDl : D.length ≤ 10 := by rw [hD, List.length_cons]; omega
  rw [HE.out, ← hD]
  rw [← hD] at HD
  clear h h64 one1 one5 hwn hA hB hD h9 HE
  go_enter Tryz.func99, Tryz.ntmps99
  have hks : (((k : Int) != 0) = false ∧ ((k : Int) == 1) = false ∧ ((k : Int) == 0) = true ∧ Hid (k = 0)) ∨ (((k : Int) != 0) = true ∧ ((k : Int) != 1) = false ∧ ((k : Int) == 1) = true ∧ ((k : Int) == 0) = false ∧ Hid (k = 1)) := by
    rcases (by omega : k = 0 ∨ k = 1) with rfl | rfl
    · exact .inl ⟨rfl, rfl, rfl, Lib.hid rfl⟩
    · exact .inr ⟨rfl, rfl, rfl, rfl, Lib.hid rfl⟩
  rcases hks with ⟨k1, k2, k3, HK⟩ | ⟨k1, k4, k2, k3, HK⟩
  · go_wp2_with fail
    go_loopw [6] (fun i wr => ∃ j : Nat, j ≤ L.length ∧ i = .int .i64 j ∧ w = wr) (fun i _ => L.length - (intOf i).toNat)
    case atStart => exact ⟨0, by omega, rfl, rfl⟩
    case round =>
      obtain ⟨j, hj, rfl, rfl⟩ := hrel
      by_cases hjl : j < L.length
      · rcases HC.out with h | ⟨b, o, rfl, hlt, h⟩
        · exact absurd hjl (by rw [h.1]; simp)
        have hc1 := h j hjl
        unfold Tx.sv at hc1
        have hji : (j : Int) < (L.length : Int) := by omega
        have hj0 : (0 : Int) ≤ (j : Int) := by omega
        have hsz : ¬ (64 : Int) < ((Ty.S (L.getD j [])).size : Int) := by
          have := HI.out (L.getD j []) (by rw [List.getD, List.getElem?_eq_getElem hjl]; exact List.getElem_mem _)
          rw [Ty.size_S]
          omega
        generalize Ty.S (L.getD j []) = s at hc1 hsz
        clear h
        go_wp2
        go_roundw
        case rel => exact ⟨j + 1, by omega, by simp, by simp⟩
        case measure => simp [intOf]; omega
      · obtain rfl : j = L.length := by omega
        have hji : ¬ (L.length : Int) < (L.length : Int) := by omega
        go_wp2_with fail
        go_cut [7] (fun s6 wx => s6 = .string (Ty.S D) ∧ Below w.heap.size w wx)
        case first =>
          have hw8 : IntKind.u8.wrap (k : Int) = (k : Int) := by rw [IntKind.wrap_u8]; omega
          have one1 := ONE1.out
          have one5 := ONE5.out
          go_region_with (first
            | (go_at_call 26; (with_reducible refine (CU.out _).mono ?_); rintro e wz ⟨rfl, gz⟩; have hcv := ONE2.out _ _ gz)
            | (go_at_call 26; (with_reducible refine (CU.out _).mono ?_); rintro e wz ⟨rfl, gz⟩; have hcv := ONE4.out _ _ gz)
            | (go_at_call 26; (with_reducible refine (CU.out _).mono ?_); rintro e wz ⟨rfl, gz⟩)
            | (go_at_call 26; (with_reducible refine (CV.out _).mono ?_); rintro e wz ⟨rfl, gz⟩; have hcv := ONE2.out _ _ gz)
            | (go_at_call 26; (with_reducible refine (CV.out _).mono ?_); rintro e wz ⟨rfl, gz⟩; have hcv := ONE4.out _ _ gz)
            | (go_at_call 26; (with_reducible refine (CV.out _).mono ?_); rintro e wz ⟨rfl, gz⟩))
          all_goals
            try clear hcv
            clear one1 one5 hw8
            first
              | have hbe : Below w.heap.size w wz := ((Below.refl _ w).drew.trans gz)
              | have hbe : Below w.heap.size w wz := (((Below.refl _ w).alloc (Nat.le_refl _) _).drew.trans (gz.mono (by simp)))
              | have hbe : Below w.heap.size w wz := (((Below.refl _ w).drew.alloc (Nat.le_refl _) _).trans (gz.mono (by simp)))
            go_wp2_with fail
            go_meet
            first
              | exact ⟨by rw [← HD.out], hbe⟩
              | exact ⟨by rw [← HD.out], hbe.alloc hbe.size _⟩
        case rest =>
          obtain ⟨rfl, hb⟩ := hcut
          have HB := Lib.hid hb
          have hat := HL.out.below hb
          have hbs := hb.size
          have HAT := Lib.hid hat
          clear hb hat
          go_wp2_with fail
          have HBD : Hid (Tx.body k L = L.flatMap Tx.encT) := Lib.hid (by unfold Tx.body; rw [if_pos HK.out])
          go_loopw [7, 9] (fun s i wr => ∃ j : Nat, j ≤ L.length ∧ i = .int .i64 j ∧ s = .string (Ty.S (D ++ (L.take j).flatMap Tx.encT)) ∧ Below w.heap.size w wr) (fun _ i _ => L.length - (intOf i).toNat)
          case atStart => exact ⟨0, by omega, rfl, by simp, HB.out⟩
          case round =>
            obtain ⟨j, hj, rfl, rfl, hb2⟩ := hrel
            have HB2 := Lib.hid hb2
            have hbs2 := hb2.size
            clear hb2
            by_cases hjl : j < L.length
            · rcases HC.out with h | ⟨b, o, rfl, hlt, h⟩
              · exact absurd hjl (by rw [h.1]; simp)
              have hc1 := (HB2.out.cell (p := ⟨b, o + j, none⟩) hlt).trans (h j hjl)
              unfold Tx.sv at hc1
              have hji : (j : Int) < (L.length : Int) := by omega
              have hj0 : (0 : Int) ≤ (j : Int) := by omega
              have hI := HI.out (L.getD j []) (by rw [List.getD, List.getElem?_eq_getElem hjl]; exact List.getElem_mem _)
              have HN : Hid ((L.take (j + 1)).flatMap Tx.encT = (L.take j).flatMap Tx.encT ++ Tx.encT (L.getD j [])) := Lib.hid (Tx.flat_next hjl)
              have hln := Tx.len_flat (L.take j) (fun x hx => HI.out x (List.mem_of_mem_take hx))
              have hlt2 : (L.take j).length ≤ j := List.length_take_le _ _
              have cT := Tx.rtext_x (L.getD j []) hI wr
              obtain ⟨T, hT⟩ : ∃ T, T = Ty.S (D ++ (L.take j).flatMap Tx.encT) := ⟨_, rfl⟩
              have hT9 : T.size ≤ 4784138 := by rw [hT, Ty.size_S, List.length_append]; omega
              obtain ⟨Z, hZ⟩ : ∃ Z, Z = Ty.S (Tx.encT (L.getD j [])) := ⟨_, rfl⟩
              have hZ9 : Z.size ≤ 73 := by rw [hZ]; exact Tx.len_encT hI
              have HF : Hid (T ++ Z = Ty.S (D ++ (L.take (j + 1)).flatMap Tx.encT)) := Lib.hid (by
                rw [hT, hZ, Tx.S_add, HN.out]
                simp)
              rw [← hT]
              rw [← hZ] at cT
              generalize Ty.S (L.getD j []) = x at hc1 cT
              clear h hln hlt2 hT hZ hI
              go_wp2_with fail
              refine cT.mono ?_
              rintro e w3 ⟨rfl, g3⟩
              have HB3 := Lib.hid (HB2.out.trans (g3.mono hbs2))
              clear cT g3
              go_wp2
              go_roundw
              case rel => exact ⟨j + 1, by omega, by simp, by rw [← HF.out], HB3.out⟩
              case measure => simp [intOf]; omega
            · obtain rfl : j = L.length := by omega
              have hji : ¬ (L.length : Int) < (L.length : Int) := by omega
              go_wp2
              go_ret2
              exact ⟨by rw [HBD.out]; rfl, HB2.out⟩
  · go_wp2_with fail
    go_loopw [6] (fun i wr => ∃ j : Nat, j ≤ L.length ∧ i = .int .i64 j ∧ w = wr) (fun i _ => L.length - (intOf i).toNat)
    case atStart => exact ⟨0, by omega, rfl, rfl⟩
    case round =>
      obtain ⟨j, hj, rfl, rfl⟩ := hrel
      by_cases hjl : j < L.length
      · rcases HC.out with h | ⟨b, o, rfl, hlt, h⟩
        · exact absurd hjl (by rw [h.1]; simp)
        have hc1 := h j hjl
        unfold Tx.sv at hc1
        have hji : (j : Int) < (L.length : Int) := by omega
        have hj0 : (0 : Int) ≤ (j : Int) := by omega
        have hsz : ¬ (64 : Int) < ((Ty.S (L.getD j [])).size : Int) := by
          have := HI.out (L.getD j []) (by rw [List.getD, List.getElem?_eq_getElem hjl]; exact List.getElem_mem _)
          rw [Ty.size_S]
          omega
        generalize Ty.S (L.getD j []) = s at hc1 hsz
        clear h
        go_wp2
        go_roundw
        case rel => exact ⟨j + 1, by omega, by simp, by simp⟩
        case measure => simp [intOf]; omega
      · obtain rfl : j = L.length := by omega
        have hji : ¬ (L.length : Int) < (L.length : Int) := by omega
        go_wp2_with fail
        go_cut [7] (fun s6 wx => s6 = .string (Ty.S D) ∧ Below w.heap.size w wx)
        case first =>
          have hw8 : IntKind.u8.wrap (k : Int) = (k : Int) := by rw [IntKind.wrap_u8]; omega
          have one1 := ONE1.out
          have one5 := ONE5.out
          go_region_with (first
            | (go_at_call 26; (with_reducible refine (CU.out _).mono ?_); rintro e wz ⟨rfl, gz⟩; have hcv := ONE2.out _ _ gz)
            | (go_at_call 26; (with_reducible refine (CU.out _).mono ?_); rintro e wz ⟨rfl, gz⟩; have hcv := ONE4.out _ _ gz)
            | (go_at_call 26; (with_reducible refine (CU.out _).mono ?_); rintro e wz ⟨rfl, gz⟩)
            | (go_at_call 26; (with_reducible refine (CV.out _).mono ?_); rintro e wz ⟨rfl, gz⟩; have hcv := ONE2.out _ _ gz)
            | (go_at_call 26; (with_reducible refine (CV.out _).mono ?_); rintro e wz ⟨rfl, gz⟩; have hcv := ONE4.out _ _ gz)
            | (go_at_call 26; (with_reducible refine (CV.out _).mono ?_); rintro e wz ⟨rfl, gz⟩))
          all_goals
            try clear hcv
            clear one1 one5 hw8
            first
              | have hbe : Below w.heap.size w wz := ((Below.refl _ w).drew.trans gz)
              | have hbe : Below w.heap.size w wz := (((Below.refl _ w).alloc (Nat.le_refl _) _).drew.trans (gz.mono (by simp)))
              | have hbe : Below w.heap.size w wz := (((Below.refl _ w).drew.alloc (Nat.le_refl _) _).trans (gz.mono (by simp)))
            go_wp2_with fail
            go_meet
            first
              | exact ⟨by rw [← HD.out], hbe⟩
              | exact ⟨by rw [← HD.out], hbe.alloc hbe.size _⟩
        case rest =>
          obtain ⟨rfl, hb⟩ := hcut
          have HB := Lib.hid hb
          have hat := HL.out.below hb
          have hbs := hb.size
          have HAT := Lib.hid hat
          clear hb hat
          have cD := Tx.rdict_c _ L wc (HAT.out.mono hbs (Nat.le_refl _)) hl HI.out
          have HBD : Hid (Tx.body k L = encU (Tx.dict L).length ++ ((Tx.dict L).flatMap Tx.encT ++ Tx.encX (Tx.dict L) L)) := Lib.hid (by unfold Tx.body; rw [if_neg (by have := HK.out; omega)])
          have HM : Hid (∀ t, t ∈ Tx.dict L ↔ t ∈ L) := Lib.hid (Tx.dict_mem L)
          have hdl := Tx.dict_len L
          obtain ⟨Dd, hDd⟩ : ∃ Dd, Dd = Tx.dict L := ⟨_, rfl⟩
          rw [← hDd] at cD HBD HM hdl
          have HI2 : Hid (∀ t ∈ Dd, t.length ≤ 64) := Lib.hid fun t ht => HI.out t ((HM.out t).1 ht)
          clear hDd
          go_wp2_with fail
          refine cD.mono ?_
          rintro e w1 ⟨vd, rfl, hO, g1⟩
          have HAT2 := Lib.hid hO.at
          obtain ⟨a2, c2, rfl, hc2, _, h2⟩ := hO.at
          have HC2 := Lib.hid h2
          have HB1 := Lib.hid (HB.out.trans (g1.mono hbs))
          have hbs1 := HB1.out.size
          clear hO g1 h2 cD
          have hN0 : (0 : Int) ≤ (Dd.length : Int) := by omega
          have hN6 : (Dd.length : Int) ≤ 65536 := by omega
          have cU := Ty.ruint_nat Dd.length w1
          unfold Ty.Str at cU
          have h9 := Ty.encU_len9 Dd.length
          obtain ⟨S0, hS0⟩ : ∃ S0, S0 = Ty.S D := ⟨_, rfl⟩
          have hS9 : S0.size ≤ 10 := by rw [hS0]; exact hDl
          obtain ⟨Z0, hZ0⟩ : ∃ Z0, Z0 = Ty.S (encU Dd.length) := ⟨_, rfl⟩
          have hZ09 : Z0.size ≤ 9 := by rw [hZ0]; exact h9
          obtain ⟨D1, hD1⟩ : ∃ D1, D1 = D ++ encU Dd.length := ⟨_, rfl⟩
          have hD1l : D1.length ≤ 19 := by rw [hD1, List.length_append]; omega
          have HF0 : Hid (S0 ++ Z0 = Ty.S D1) := Lib.hid (by rw [hS0, hZ0, hD1, Tx.S_add])
          have HD1 := Lib.hid hD1
          rw [← hZ0] at cU
          rw [← hS0]
          clear hS0 hZ0 h9 hD1
          go_wp2_with fail
          refine cU.mono ?_
          rintro e w2 ⟨rfl, g2⟩
          have HB2 := Lib.hid (HB1.out.trans (g2.mono hbs1))
          have HG2 := Lib.hid g2
          clear cU g2
          go_wp2_with fail
          rw [HF0.out]
          go_loopw [7, 9] (fun s i wr => ∃ j : Nat, j ≤ Dd.length ∧ i = .int .i64 j ∧ s = .string (Ty.S (D1 ++ (Dd.take j).flatMap Tx.encT)) ∧ Below w1.heap.size w1 wr) (fun _ i _ => Dd.length - (intOf i).toNat)
          case atStart => exact ⟨0, by omega, rfl, by simp, HG2.out⟩
          case round =>
            obtain ⟨j, hj, rfl, rfl, hb2⟩ := hrel
            have HB2 := Lib.hid hb2
            have hbs2 := hb2.size
            clear hb2
            by_cases hjl : j < Dd.length
            · rcases HC2.out with h | ⟨b, o, rfl, hlt, h⟩
              · exact absurd hjl (by rw [h.1]; simp)
              have hc1 := (HB2.out.cell (p := ⟨b, o + j, none⟩) hlt).trans (h j hjl)
              unfold Tx.sv at hc1
              have hji : (j : Int) < (Dd.length : Int) := by omega
              have hj0 : (0 : Int) ≤ (j : Int) := by omega
              have hI := HI2.out (Dd.getD j []) (by rw [List.getD, List.getElem?_eq_getElem hjl]; exact List.getElem_mem _)
              have HN : Hid ((Dd.take (j + 1)).flatMap Tx.encT = (Dd.take j).flatMap Tx.encT ++ Tx.encT (Dd.getD j [])) := Lib.hid (Tx.flat_next hjl)
              have hln := Tx.len_flat (Dd.take j) (fun x hx => HI2.out x (List.mem_of_mem_take hx))
              have hlt2 : (Dd.take j).length ≤ j := List.length_take_le _ _
              have cT := Tx.rtext_x (Dd.getD j []) hI wr
              obtain ⟨T, hT⟩ : ∃ T, T = Ty.S (D1 ++ (Dd.take j).flatMap Tx.encT) := ⟨_, rfl⟩
              have hT9 : T.size ≤ 4784147 := by rw [hT, Ty.size_S, List.length_append]; omega
              obtain ⟨Z, hZ⟩ : ∃ Z, Z = Ty.S (Tx.encT (Dd.getD j [])) := ⟨_, rfl⟩
              have hZ9 : Z.size ≤ 73 := by rw [hZ]; exact Tx.len_encT hI
              have HF : Hid (T ++ Z = Ty.S (D1 ++ (Dd.take (j + 1)).flatMap Tx.encT)) := Lib.hid (by
                rw [hT, hZ, Tx.S_add, HN.out]
                simp)
              rw [← hT]
              rw [← hZ] at cT
              generalize Ty.S (Dd.getD j []) = x at hc1 cT
              clear h hln hlt2 hT hZ hI
              go_wp2_with fail
              refine cT.mono ?_
              rintro e w3 ⟨rfl, g3⟩
              have HB3 := Lib.hid (HB2.out.trans (g3.mono hbs2))
              clear cT g3
              go_wp2
              go_roundw
              case rel => exact ⟨j + 1, by omega, by simp, by rw [← HF.out], HB3.out⟩
              case measure => simp [intOf]; omega
            · obtain rfl : j = Dd.length := by omega
              have hji : ¬ (Dd.length : Int) < (Dd.length : Int) := by omega
              have hwb := HB2.out
              have HBW : Hid (Below w.heap.size w wr) := Lib.hid (HB1.out.trans (hwb.mono hbs1))
              have hbsW := HBW.out.size
              have HATW := Lib.hid (HAT2.out.below hwb)
              clear hwb
              go_wp2_with fail
              generalize hDA : D1 ++ Dd.flatMap Tx.encT = DA
              have HDA := Lib.hid hDA
              have hDAl : DA.length ≤ 4784147 := by
                have := Tx.len_flat Dd HI2.out
                rw [← hDA, List.length_append]
                omega
              clear hDA
              generalize wr = wp at *
              go_loopw [10, 11] (fun v i wr => ∃ j : Nat, j ≤ L.length ∧ i = .int .i64 j ∧ Bt.Buf 47 wp.heap.size wr v j (Bt.nv (Tx.ix Dd L)) ∧ Below wp.heap.size wp wr ∧ wp.heap.size ≤ wr.heap.size) (fun _ i _ => L.length - (intOf i).toNat)
              case atStart => exact ⟨0, by omega, rfl, Bt.Buf.nil _ _ _ _, Below.refl _ _, Nat.le_refl _⟩
              case round =>
                obtain ⟨j, hj, rfl, hBf, hb3, hs3⟩ := hrel
                have HBF := Lib.hid hBf
                have HB3 := Lib.hid hb3
                clear hBf
                by_cases hjl : j < L.length
                · rcases HC.out with h | ⟨b, o, rfl, hlt, h⟩
                  · exact absurd hjl (by rw [h.1]; simp)
                  have hc1 := ((HBW.out.trans (hb3.mono hbsW)).cell (p := ⟨b, o + j, none⟩) hlt).trans (h j hjl)
                  unfold Tx.sv at hc1
                  have hji : (j : Int) < (L.length : Int) := by omega
                  have hj0 : (0 : Int) ≤ (j : Int) := by omega
                  have hmem : L.getD j [] ∈ Dd := (HM.out _).2 (by rw [List.getD, List.getElem?_eq_getElem hjl]; exact List.getElem_mem _)
                  have hp : Tx.posI Dd (L.getD j []) = ((Tx.ix Dd L j : Nat) : Int) := by unfold Tx.posI Tx.ix; rw [if_pos hmem]
                  have hpl : Tx.ix Dd L j < Dd.length := Tx.pos_lt hmem
                  have cA := Tx.rat_c _ Dd (L.getD j []) wr ((HATW.out.below (hb3.mono (HB2.out.size))).mono (by have := HB2.out.size; omega) (Nat.le_refl _)) (by omega)
                  rw [hp] at cA
                  have HNV : Hid (Value.int .u64 ((Tx.ix Dd L j : Nat) : Int) = Bt.nv (Tx.ix Dd L) j) := Lib.hid rfl
                  generalize Tx.ix Dd L j = y at cA hpl HNV
                  have hy0 : (0 : Int) ≤ (y : Int) := by omega
                  have hy6 : (y : Int) < 65536 := by omega
                  generalize Ty.S (L.getD j []) = x at hc1 cA
                  clear h hp hmem hpl hb3
                  go_wp2_with fail
                  refine cA.mono ?_
                  rintro e w3 ⟨rfl, g3⟩
                  have hO3 := Bt.Buf.kept HBF.out g3
                  have HB4 := Lib.hid (HB3.out.trans (g3.mono HB3.out.size))
                  have hs4 := HB4.out.size
                  clear cA g3
                  go_wp2_with (at_builtin; refine Bt.wpList_append_one 47 159 (.int .u64 0) 8 Tryz.underlying159 Bt.infoU rfl hO3 (by omega) (by omega) (by omega) (.tmp 78) (.tmp 86) _ rfl rfl rfl rfl rfl ?_; intro v5 w5 h5 g5)
                  have H5 := Lib.hid (h5 HNV.out)
                  have HB5 := Lib.hid (HB4.out.trans (g5.below hs4 (fun k hk => by have := Bt.Buf.base_le hO3 k hk; omega)))
                  clear h5 g5 hO3
                  go_roundw
                  case rel => exact ⟨j + 1, by omega, by simp, H5.out, HB5.out, HB5.out.size⟩
                  case measure => simp [intOf]; omega
                · obtain rfl : j = L.length := by omega
                  have hji : ¬ (L.length : Int) < (L.length : Int) := by omega
                  have hXb : ∀ i, Tx.ix Dd L i < 2 ^ 64 := fun i => by
                    have : Tx.ix Dd L i ≤ Dd.length := List.idxOf_le_length
                    omega
                  have hq : Bt.wid L.length (Tx.ix Dd L) ≤ 64 := Tx.wid_ix Dd L (fun t ht => (HM.out t).2 ht) (by omega)
                  have hPV : Bt.packV L.length (Tx.ix Dd L) ((Bt.wid L.length (Tx.ix Dd L) : Nat) : Int) = .tuple #[.string (Bt.bytes (Bt.need (L.length * Bt.wid L.length (Tx.ix Dd L))) (Bt.pk L.length (Tx.ix Dd L) (Bt.wid L.length (Tx.ix Dd L)))), .int .i64 0] := by
                    unfold Bt.packV
                    rw [if_pos (by omega), if_neg (by simp)]
                    rfl
                  have cw := Bt.rwidth_c _ L.length (Tx.ix Dd L) wr HBF.out.sl hXb (by omega)
                  have cp := Bt.rpack_c _ L.length (Tx.ix Dd L) ((Bt.wid L.length (Tx.ix Dd L) : Nat) : Int) wr HBF.out.sl hXb (by omega)
                  rw [hPV] at cp
                  have HX : Hid (Tx.encX Dd L = UInt8.ofNat (Bt.wid L.length (Tx.ix Dd L)) :: (Bt.bytes (Bt.need (L.length * Bt.wid L.length (Tx.ix Dd L))) (Bt.pk L.length (Tx.ix Dd L) (Bt.wid L.length (Tx.ix Dd L)))).data.toList) := Lib.hid rfl
                  have hsz := Bt.size_bytes (Bt.need (L.length * Bt.wid L.length (Tx.ix Dd L))) (Bt.pk L.length (Tx.ix Dd L) (Bt.wid L.length (Tx.ix Dd L)))
                  have hnd : Bt.need (L.length * Bt.wid L.length (Tx.ix Dd L)) ≤ 524288 := by
                    have := Bt.mul_le L.length (Bt.wid L.length (Tx.ix Dd L)) hq
                    unfold Bt.need; omega
                  generalize Bt.bytes (Bt.need (L.length * Bt.wid L.length (Tx.ix Dd L))) (Bt.pk L.length (Tx.ix Dd L) (Bt.wid L.length (Tx.ix Dd L))) = S at HX cp hsz
                  have hSs : S.size ≤ 524288 := by rw [hsz]; exact hnd
                  clear hsz hnd hPV hXb
                  generalize Bt.wid L.length (Tx.ix Dd L) = q at HX cp cw hq
                  obtain ⟨B1, hB1⟩ : ∃ B1, B1 = Ty.S [UInt8.ofNat q] := ⟨_, rfl⟩
                  have hB19 : B1.size ≤ 1 := by rw [hB1]; exact Nat.le_refl _
                  have two1 := Tx.one_str q (by omega)
                  have two5 := Tx.one_str5 q (by omega)
                  rw [← hB1] at two1 two5
                  have HF9 : Hid (Ty.S DA ++ B1 ++ S = Ty.S (D ++ Tx.body k L)) := Lib.hid (by
                    conv => lhs; rw [← Ty.S_data S]
                    rw [hB1, Tx.S_add, Tx.S_add, HBD.out, HX.out, ← HDA.out, HD1.out]
                    simp)
                  obtain ⟨S9, hS9⟩ : ∃ S9, S9 = Ty.S DA := ⟨_, rfl⟩
                  have hS99 : S9.size ≤ 4784147 := by rw [hS9, Ty.size_S]; exact hDAl
                  have n2 : ¬ 9223372036854775807 < S9.size + B1.size := by omega
                  have n3 : ¬ 9223372036854775807 < S9.size + B1.size + S.size := by omega
                  rw [← hS9] at HF9
                  rw [← hS9]
                  have HBZ := Lib.hid (HBW.out.trans (HB3.out.mono hbsW))
                  clear hS9 hB1 hb3
                  go_wp2_with fail
                  refine cw.mono ?_
                  rintro e w4 ⟨rfl, rfl⟩
                  clear cw
                  go_wp2_with fail
                  refine cp.mono ?_
                  rintro e w5 ⟨rfl, g5⟩
                  have HB5 := Lib.hid (HBZ.out.trans (g5.mono HBZ.out.size))
                  have hw8 : IntKind.u8.wrap (q : Int) = (q : Int) := by rw [IntKind.wrap_u8]; omega
                  clear cp g5
                  go_wp2_with fail
                  go_ret2
                  exact ⟨by rw [← HF9.out]; rfl, HB5.out.alloc HB5.out.size _⟩
end Go.Proofs.YtfbjmehkipcmbaaGreatDoor
