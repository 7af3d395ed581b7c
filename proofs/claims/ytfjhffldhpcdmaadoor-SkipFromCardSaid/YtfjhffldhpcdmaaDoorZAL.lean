/-
  The document's list of deeds: Put.
  A region that draws its order and ends in a store into a cell that it reads: the condition that is held need not hold behind that store. No program.
-/
import Derived.Test.YtfjhffldhpcdmaaDoorZAF
import Derived.Deep.RegionHeld3
import Derived.Deep.RegionLaw
import Derived.Deep.RegionLawGrows
import Derived.OrdersHeld
namespace Go.Proofs.YtfjhffldhpcdmaaDoor
open Go.RowKit
theorem Sk.infoD : (Tryd.prog.info? 37).map (fun i => (i.zero, i.size, i.bytes)) = some (some (.agg #[.bool false, .slice none 0 0]), 2, 32) := by kernel_rfl
theorem Sk.enc_one (x : Sk.E) (h : ∃ a n c, x.rv = .slice a n c) : ∀ u ∈ x.enc, u.oneCell' = true := fun u hu => by
  obtain ⟨a, n, c, h⟩ := h
  simp only [Sk.E.enc, List.mem_cons, List.not_mem_nil, or_false] at hu
  rcases hu with rfl | rfl
  · rfl
  · rw [h]; rfl
theorem Sk.step_deed {base : Nat} {w0 : World} {v : Value} {M : List Sk.E} (K : List Sk.E) (hone : ∀ x ∈ K, ∃ a n c, x.rv = .slice a n c) (hb : base ≤ w0.heap.size) (hown : Dk.Own 37 2 Sk.E.enc base w0 v M) (hl : M.length + K.length ≤ 4194304) {u : Value} (hu : Dk.Src Sk.E.enc w0 u K) (ty : TypeId) :
    ∃ v' w', (Builtin.append_ #[23, 23] ty #[v, u]).run Tryd.prog w0 = .ok v' w' ∧ Dk.Own 37 2 Sk.E.enc base w' v' (M ++ K) ∧ Ty.Grew w0 w' v v' := by
  obtain ⟨i0, hi, hz0, hz1, hz2⟩ := info_parts Sk.infoD
  rcases hu with ⟨rfl, rfl⟩ | ⟨ad, c, rfl, hK⟩
  · exact ⟨v, w0, run_append_owned_none (P := Tryd.prog) w0 base 23 ty 37 i0 2 Tryd.underlying23 hi v _ _ hown, by rw [List.append_nil]; exact hown, Ty.Grew.refl _ _⟩
  · obtain ⟨v', w', hr, h1, h2⟩ := Ty.append_tight (P := Tryd.prog) w0 base 23 ty 37 i0 _ 2 32 Tryd.underlying23 hi hz0 hz1 hz2 rfl (by decide) v M.length (M.flatMap Sk.E.enc) hown ad K.length c (K.flatMap Sk.E.enc) (Dk.flat_len Sk.enc_len K) hK (fun y hy => by
      obtain ⟨x, hxm, hx⟩ := List.mem_flatMap.1 hy
      exact Sk.enc_one x (hone x hxm) y hx) (by unfold maxLen; omega) (by omega) hb
    refine ⟨v', w', hr, ?_, h2⟩
    unfold Dk.Own
    rw [List.length_append, List.flatMap_append]
    exact h1
theorem Sk.step_app {wo w0 : World} {v : Value} {M : List Sk.E} (K : List Sk.E) (hone : ∀ x ∈ K, ∃ a n c, x.rv = .slice a n c) (hbW : Below wo.heap.size wo w0) (hown : Dk.Own 37 2 Sk.E.enc wo.heap.size w0 v M) (hl : M.length + K.length ≤ 4194304)
    {ops : Array Oper} {o : Oper} {a : Act} {Kx : Act → World → Prop} {Q : Exit → Act → World → Prop} {E : Prop} (s x : Operand) (u : Value) (hgd : o.guard = none)
    (ho : o.op = .call { callee := .builtin .append, args := #[s, x], argTypes := #[23, 23] })
    (hs : a.eval s = v) (hx : a.eval x = u) (hu : Dk.Src Sk.E.enc w0 u K)
    (h : ∀ v' w', Dk.Own 37 2 Sk.E.enc wo.heap.size w' v' (M ++ K) → Below wo.heap.size wo w' → Ty.Grew w0 w' v v' → Kx (a.put o.dst v') w') :
    if Region.wanted o (yielded ops a.tmps) = true then Oper.wp Tryd.prog o a w0 Kx Q else E := by
  have hw : Region.wanted o (yielded ops a.tmps) = true := by simp [Region.wanted, hgd]
  rw [if_pos hw]
  obtain ⟨v', w', hr, h2, h3⟩ := Sk.step_deed K hone hbW.size hown hl hu o.type
  unfold Oper.wp execOp
  simp only [ho, resolve, invoke, builtin, Sem.run_bind, Sem.run_pure, Result.andThen_ok, List.map_toArray, List.map_cons, List.map_nil, hs, hx, hr]
  exact h v' w' h2 (Dk.own_below hbW hown h3) h3
end Go.Proofs.YtfjhffldhpcdmaaDoor

namespace Go.Proofs.YtfjhffldhpcdmaaDoor
open Go Go.RowKit
section
variable {P : Program} {ops : Array Oper} {Q : Exit → Act → World → Prop} {md : Region.Mode} {S : World → Prop} {z : Nat}
/-- Whatever order is picked from here on, and S holds behind every operation but number z. -/
def Sk.anyT (P : Program) (md : Region.Mode) (ops : Array Oper) (Q : Exit → Act → World → Prop) (S : World → Prop) (z : Nat) : Nat → Array Bool → Act → World → Prop
  | 0, listed, a, w => Region.ready md ops listed = [] ∧ Q .normal a w
  | fuel + 1, listed, a, w =>
    (Region.ready md ops listed = [] → Q .normal a w) ∧
    ∀ i ∈ Region.ready md ops listed, wpOp P ops Q i (fun a' w' => (i ≠ z → S w') ∧ Sk.anyT P md ops Q S z fuel (listed.setIfInBounds i true) a' w') a w
theorem Sk.anyT_any : ∀ (fuel : Nat) (listed : Array Bool) (a : Act) (w : World), Sk.anyT P md ops Q S z fuel listed a w → wpAny P md ops Q fuel listed a w
  | 0, _, _, _, h => h
  | fuel + 1, _, _, _, h => ⟨h.1, fun i hi => wpOp_mono (fun a' w' h' => Sk.anyT_any fuel _ a' w' h'.2) (h.2 i hi)⟩
theorem Sk.anyT_first {i : Nat} {oi : Oper} {v : Value} (hi : ops[i]? = some oi) (hsel : ∀ (j : Nat) (o : Oper) cs b, ops[j]? = some o → o.op ≠ .select cs b)
    (hQ : ∀ c a w, Q (.panic c) (a.put oi.dst v) w → Q (.panic c) a w) (hz : ∀ oz, ops[z]? = some oz → ∃ e ∈ oz.after, Region.binds md e = true ∧ e.on = i) :
    ∀ (fuel : Nat) (listed : Array Bool) (a : Act) (w : World),
      (∀ j oj, ops[j]? = some oj → j ≠ i → listed.getD j true = false → (∀ e ∈ oj.after, Region.binds md e = true → e.on ≠ i) → oi.apart ops oj = true) →
      i ∈ Region.ready md ops listed → YieldsIf P ops S oi v a → S w →
      Sk.anyT P md ops Q S z fuel (listed.setIfInBounds i true) (a.put oi.dst v) w → Sk.anyT P md ops Q S z (fuel + 1) listed a w := by
  intro fuel
  induction fuel with
  | zero =>
    intro listed a w _ hr hy hS H
    refine ⟨fun h => (by rw [h] at hr; cases hr), fun j hj => ?_⟩
    by_cases hji : j = i
    · subst hji; exact hy.wpOp hi hS ⟨fun _ => hS, H⟩
    · have := ready_mono hj hji
      rw [H.1] at this
      cases this
  | succ fuel ih =>
    intro listed a w hfree hr hy hS H
    refine ⟨fun h => (by rw [h] at hr; cases hr), fun j hj => ?_⟩
    by_cases hji : j = i
    · subst hji; exact hy.wpOp hi hS ⟨fun _ => hS, H⟩
    · have h1 := H.2 j (ready_mono hj hji)
      obtain ⟨hjun, oj, hoj, hall⟩ := mem_ready.1 hj
      have hnot : ∀ e ∈ oj.after, Region.binds md e = true → e.on ≠ i := fun e he hb heq => by
        have h1 := hall e he hb
        have h0 := (mem_ready.1 hr).1
        rw [heq] at h1
        rcases Nat.lt_or_ge i listed.size with h' | h'
        · simp [h'] at h0 h1; rw [h0] at h1; cases h1
        · simp [Array.getElem?_eq_none h'] at h1
      have hjz : j ≠ z := fun e => by
        subst e
        obtain ⟨e, he, hb, hon⟩ := hz oj hoj
        exact hnot e he hb hon
      have h2 := wpOp_putIf hoj (hfree j oj hoj hji hjun hnot) (fun cs b => hsel i oi cs b hi) (fun cs b => hsel j oj cs b hoj) hQ hy h1
      have hfree' : ∀ k ok, ops[k]? = some ok → k ≠ i → (listed.setIfInBounds j true).getD k true = false →
          (∀ e ∈ ok.after, Region.binds md e = true → e.on ≠ i) → oi.apart ops ok = true := fun k ok hk hki hun hno => by
        refine hfree k ok hk hki ?_ hno
        by_cases hjk : j = k
        · subst hjk; exact hjun
        · rw [getD_set_ne true hjk] at hun; exact hun
      refine wpOp_mono (fun a' w' h3 => ⟨h3.2.1, ih (listed.setIfInBounds j true) a' w' hfree' (ready_mono hr (Ne.symm hji)) h3.1 (h3.2.1 hjz) ?_⟩) h2
      rw [Array.setIfInBounds_comm _ _ hji]
      exact h3.2.2
/-- Take number i first. -/
theorem Sk.anyT_take {i : Nat} {oi : Oper} {v : Value} {fuel : Nat} {listed : Array Bool} {a : Act} {w : World} (hi : ops[i]? = some oi)
    (hs : Region.noSelect ops = true) (hf : Region.free md ops listed i = true) (hr : (Region.ready md ops listed).contains i = true)
    (hz : (match ops[z]? with | some oz => oz.after.any fun e => Region.binds md e && e.on == i | none => true) = true)
    (hQ : ∀ c a w, Q (.panic c) (a.put oi.dst v) w → Q (.panic c) a w) (hy : YieldsIf P ops S oi v a) (hS : S w)
    (h : Sk.anyT P md ops Q S z fuel (listed.setIfInBounds i true) (a.put oi.dst v) w) : Sk.anyT P md ops Q S z (fuel + 1) listed a w :=
  Sk.anyT_first hi (Region.noSelect_spec hs) hQ (fun oz ho => by
    rw [ho] at hz
    simp only [Array.any_eq_true] at hz
    obtain ⟨k, hk, he⟩ := hz
    simp only [Bool.and_eq_true, beq_iff_eq] at he
    exact ⟨oz.after[k], Array.getElem_mem hk, he.1, he.2⟩) fuel listed a w (Region.free_spec hi hf) (by simpa using hr) hy hS h
theorem Sk.anyT_first2 {i : Nat} {oi : Oper} {v : Value} (hi : ops[i]? = some oi) (hsel : ∀ (j : Nat) (o : Oper) cs b, ops[j]? = some o → o.op ≠ .select cs b)
    (hQ : ∀ c a w, Q (.panic c) (a.put oi.dst v) w → Q (.panic c) a w) {y : Nat} (hz : ∀ oz, ops[z]? = some oz → ∃ e ∈ oz.after, Region.binds md e = true ∧ e.on = y) (hyi : ∀ oy, ops[y]? = some oy → ∃ e ∈ oy.after, Region.binds md e = true ∧ e.on = i) :
    ∀ (fuel : Nat) (listed : Array Bool) (a : Act) (w : World),
      (∀ j oj, ops[j]? = some oj → j ≠ i → listed.getD j true = false → (∀ e ∈ oj.after, Region.binds md e = true → e.on ≠ i) → oi.apart ops oj = true) →
      i ∈ Region.ready md ops listed → listed.getD y true = false → YieldsIf P ops S oi v a → S w →
      Sk.anyT P md ops Q S z fuel (listed.setIfInBounds i true) (a.put oi.dst v) w → Sk.anyT P md ops Q S z (fuel + 1) listed a w := by
  intro fuel
  induction fuel with
  | zero =>
    intro listed a w _ hr _ hy hS H
    refine ⟨fun h => (by rw [h] at hr; cases hr), fun j hj => ?_⟩
    by_cases hji : j = i
    · subst hji; exact hy.wpOp hi hS ⟨fun _ => hS, H⟩
    · have := ready_mono hj hji
      rw [H.1] at this
      cases this
  | succ fuel ih =>
    intro listed a w hfree hr hyl hy hS H
    refine ⟨fun h => (by rw [h] at hr; cases hr), fun j hj => ?_⟩
    by_cases hji : j = i
    · subst hji; exact hy.wpOp hi hS ⟨fun _ => hS, H⟩
    · have h1 := H.2 j (ready_mono hj hji)
      obtain ⟨hjun, oj, hoj, hall⟩ := mem_ready.1 hj
      have hnot : ∀ e ∈ oj.after, Region.binds md e = true → e.on ≠ i := fun e he hb heq => by
        have h1 := hall e he hb
        have h0 := (mem_ready.1 hr).1
        rw [heq] at h1
        rcases Nat.lt_or_ge i listed.size with h' | h'
        · simp [h'] at h0 h1; rw [h0] at h1; cases h1
        · simp [Array.getElem?_eq_none h'] at h1
      have hjy : j ≠ y := fun e => by
        subst e
        obtain ⟨e, he, hb, hon⟩ := hyi oj hoj
        exact hnot e he hb hon
      have hjz : j ≠ z := fun e => by
        subst e
        obtain ⟨e, he, hb, hon⟩ := hz oj hoj
        have h1 := hall e he hb
        have h0 := hyl
        rw [hon] at h1
        rcases Nat.lt_or_ge y listed.size with h' | h'
        · simp [h'] at h0 h1; rw [h0] at h1; cases h1
        · simp [Array.getElem?_eq_none h'] at h1
      have h2 := wpOp_putIf hoj (hfree j oj hoj hji hjun hnot) (fun cs b => hsel i oi cs b hi) (fun cs b => hsel j oj cs b hoj) hQ hy h1
      have hfree' : ∀ k ok, ops[k]? = some ok → k ≠ i → (listed.setIfInBounds j true).getD k true = false →
          (∀ e ∈ ok.after, Region.binds md e = true → e.on ≠ i) → oi.apart ops ok = true := fun k ok hk hki hun hno => by
        refine hfree k ok hk hki ?_ hno
        by_cases hjk : j = k
        · subst hjk; exact hjun
        · rw [getD_set_ne true hjk] at hun; exact hun
      refine wpOp_mono (fun a' w' h3 => ⟨h3.2.1, ih (listed.setIfInBounds j true) a' w' hfree' (ready_mono hr (Ne.symm hji)) (by rw [getD_set_ne true hjy]; exact hyl) h3.1 (h3.2.1 hjz) ?_⟩) h2
      rw [Array.setIfInBounds_comm _ _ hji]
      exact h3.2.2
/-- Take number i first: the last waits for y, and y for i. -/
theorem Sk.anyT_take2 {i : Nat} (y : Nat) {oi : Oper} {v : Value} {fuel : Nat} {listed : Array Bool} {a : Act} {w : World} (hi : ops[i]? = some oi)
    (hs : Region.noSelect ops = true) (hf : Region.free md ops listed i = true) (hr : (Region.ready md ops listed).contains i = true)
    (hz : (match ops[z]? with | some oz => oz.after.any fun e => Region.binds md e && e.on == y | none => true) = true) (hyi : (match ops[y]? with | some oz => oz.after.any fun e => Region.binds md e && e.on == i | none => true) = true) (hyl : listed.getD y true = false)
    (hQ : ∀ c a w, Q (.panic c) (a.put oi.dst v) w → Q (.panic c) a w) (hy : YieldsIf P ops S oi v a) (hS : S w)
    (h : Sk.anyT P md ops Q S z fuel (listed.setIfInBounds i true) (a.put oi.dst v) w) : Sk.anyT P md ops Q S z (fuel + 1) listed a w :=
  Sk.anyT_first2 hi (Region.noSelect_spec hs) hQ (y := y) (fun oz ho => by
    rw [ho] at hz
    simp only [Array.any_eq_true] at hz
    obtain ⟨k, hk, he⟩ := hz
    simp only [Bool.and_eq_true, beq_iff_eq] at he
    exact ⟨oz.after[k], Array.getElem_mem hk, he.1, he.2⟩) (fun oz ho => by
    rw [ho] at hyi
    simp only [Array.any_eq_true] at hyi
    obtain ⟨k, hk, he⟩ := hyi
    simp only [Bool.and_eq_true, beq_iff_eq] at he
    exact ⟨oz.after[k], Array.getElem_mem hk, he.1, he.2⟩) fuel listed a w (Region.free_spec hi hf) (by simpa using hr) hyl hy hS h
/-- The beginning. -/
theorem Sk.anyT_region {id : Nat} {a : Act} {w : World} (z : Nat) (hm : P.follows .mixedOrders = true) (hS : S w.drew)
    (h : S w.drew → Sk.anyT P .any ops Q S z ops.size (Array.replicate ops.size false) a w.drew) : (Code.region id ops true).wp P Q a w :=
  wp_region_any hm (Sk.anyT_any _ _ _ _ (h hS))
theorem Sk.anyT_done {listed : Array Bool} {a : Act} {w : World} (hr : Region.ready md ops listed = []) (h : Q .normal a w) : ∀ fuel, Sk.anyT P md ops Q S z fuel listed a w
  | 0 => ⟨hr, h⟩
  | _ + 1 => ⟨fun _ => h, by rw [hr]; simp⟩
/-- One operation alone may come up; it is not the last. -/
theorem Sk.anyT_one {i : Nat} {o : Oper} {fuel : Nat} {listed : Array Bool} {a : Act} {w : World} (hr : Region.ready md ops listed = [i]) (ho : ops[i]? = some o) (hiz : i ≠ z)
    (h : ∀ K' : Act → World → Prop, Shut (∀ a w, S w → (S w → Sk.anyT P md ops Q S z fuel (listed.setIfInBounds i true) a w) → K' a w) → if Region.wanted o (yielded ops a.tmps) = true then Oper.wp P o a w K' Q else K' (a.put o.dst undef) w) : Sk.anyT P md ops Q S z (fuel + 1) listed a w := by
  refine ⟨fun e => (by rw [hr] at e; cases e), fun j hj => ?_⟩
  rw [hr, List.mem_singleton] at hj
  subst hj
  exact wpOp_step ho (fun K' hK => h K' (fun a w hS hW => hK a w ⟨fun _ => hS, hW hS⟩))
/-- Two may come up. -/
theorem Sk.anyT_two {i k : Nat} {o u : Oper} {fuel : Nat} {listed : Array Bool} {a : Act} {w : World} (hr : Region.ready md ops listed = [i, k]) (ho : ops[i]? = some o) (hu : ops[k]? = some u) (hiz : i ≠ z) (hkz : k ≠ z)
    (h : ∀ K' : Act → World → Prop, Shut (∀ a w, S w → (S w → Sk.anyT P md ops Q S z fuel (listed.setIfInBounds i true) a w) → K' a w) → if Region.wanted o (yielded ops a.tmps) = true then Oper.wp P o a w K' Q else K' (a.put o.dst undef) w)
    (g : ∀ K' : Act → World → Prop, Shut (∀ a w, S w → (S w → Sk.anyT P md ops Q S z fuel (listed.setIfInBounds k true) a w) → K' a w) → if Region.wanted u (yielded ops a.tmps) = true then Oper.wp P u a w K' Q else K' (a.put u.dst undef) w) : Sk.anyT P md ops Q S z (fuel + 1) listed a w := by
  refine ⟨fun e => (by rw [hr] at e; cases e), fun j hj => ?_⟩
  rw [hr] at hj
  rcases List.mem_cons.1 hj with rfl | hj
  · exact wpOp_step ho (fun K' hK => h K' (fun a w hS hW => hK a w ⟨fun _ => hS, hW hS⟩))
  · rw [List.mem_singleton] at hj
    subst hj
    exact wpOp_step hu (fun K' hK => g K' (fun a w hS hW => hK a w ⟨fun _ => hS, hW hS⟩))
/-- The last one. -/
theorem Sk.anyT_last {o : Oper} {fuel : Nat} {listed : Array Bool} {a : Act} {w : World} (hr : Region.ready md ops listed = [z]) (ho : ops[z]? = some o)
    (h : ∀ K' : Act → World → Prop, Shut (∀ a w, Sk.anyT P md ops Q S z fuel (listed.setIfInBounds z true) a w → K' a w) → if Region.wanted o (yielded ops a.tmps) = true then Oper.wp P o a w K' Q else K' (a.put o.dst undef) w) : Sk.anyT P md ops Q S z (fuel + 1) listed a w := by
  refine ⟨fun e => (by rw [hr] at e; cases e), fun j hj => ?_⟩
  rw [hr, List.mem_singleton] at hj
  subst hj
  exact wpOp_step ho (fun K' hK => h K' (fun a w hW => hK a w ⟨fun e => absurd rfl e, hW⟩))
end
end Go.Proofs.YtfjhffldhpcdmaaDoor
