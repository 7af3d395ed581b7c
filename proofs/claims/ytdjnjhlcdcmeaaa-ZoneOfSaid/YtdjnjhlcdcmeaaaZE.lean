/-
  Slices of values put together: an append of many; slices.Grow of none; slices.Concat of two.
-/
import Derived.Test.YtdjnjhlcdcmeaaaKV
import Derived.Test.YtdjnjhlcdcmeaaaZ5
import Derived.Lib.AppendZeros
import Derived.Lib.SliceRun
import Derived.Laws.AppendOwnNone
namespace Go.Proofs.Ytdjnjhlcdcmeaaa
open Go.RowKit
/-- A slice of values that can be read and appended. -/
structure Zn.Vs (w : World) (v : Value) (l : List Kn.V) : Prop where
  vals : Kn.Vals w v l
  nil : ∀ n c, v = .slice none n c → c = 0
theorem Zn.Vs.later {w w' : World} {v : Value} {l : List Kn.V} (h : Zn.Vs w v l) (g : Below w.heap.size w w') : Zn.Vs w' v l := ⟨h.vals.later g, h.nil⟩
theorem Zn.vals_cells {w : World} {b o : Nat} {K : List Kn.V} (h : ∀ i x, K[i]? = some x → Kn.At w b (o + i * 3) x) : ∀ j u, (Cl.cells K)[j]? = some u → w.cell? ((⟨b, o, none⟩ : Addr).add j) = some u := by
  intro j u hj
  have hl : j < K.length * 3 := by
    rw [← Cl.cells_len K]
    exact (List.getElem?_eq_some_iff.1 hj).1
  have hi : j / 3 < K.length := by omega
  have hx := List.getElem?_eq_getElem hi
  generalize K[j / 3] = x at hx
  obtain ⟨h0, h1, h2⟩ := Cl.cells_get K (j / 3) x hx
  obtain ⟨a0, a1, a2⟩ := h (j / 3) x hx
  have ha : (⟨b, o, none⟩ : Addr).add j = ⟨b, o + j, none⟩ := by unfold Addr.add; split <;> simp_all
  rw [ha]
  have hr : j = j / 3 * 3 ∨ j = j / 3 * 3 + 1 ∨ j = j / 3 * 3 + 2 := by omega
  rcases hr with hr | hr | hr
  · rw [← hr, hj] at h0
    rw [← hr] at a0
    rw [a0, ← h0]
  · rw [← hr, hj] at h1
    rw [Nat.add_assoc, ← hr] at a1
    rw [a1, ← h1]
  · rw [← hr, hj] at h2
    rw [Nat.add_assoc, ← hr] at a2
    rw [a2, ← h2]
theorem Zn.cells_one (K : List Kn.V) : ∀ u ∈ Cl.cells K, u.oneCell' = true := by
  intro u hu
  obtain ⟨x, _, hx⟩ := List.mem_flatMap.1 hu
  simp only [List.mem_cons, List.not_mem_nil, or_false] at hx
  rcases hx with rfl | rfl | rfl <;> rfl
/-- AN APPEND OF MANY VALUES. -/
theorem Zn.append_vals {base : Nat} {w0 : World} {v : Value} {M K : List Kn.V} (hown : Cl.Own base w0 v M) (hb : base ≤ w0.heap.size) (hl : (M.length + K.length) * 32 ≤ 140737488355328) {u : Value} (hu : Zn.Vs w0 u K) (ty : TypeId) :
    ∃ v' w', (Builtin.append_ #[28, 28] ty #[v, u]).run Try.prog w0 = .ok v' w' ∧ Cl.Own base w' v' (M ++ K) ∧ Ty.Grew w0 w' v v' := by
  obtain ⟨i0, hi, hz0, hz1, hz2⟩ := info_parts Cl.infoV
  obtain ⟨⟨a, c, rfl, hk⟩, hn⟩ := hu
  have hmain : ∀ ad, a = some ad → (∀ j y, (Cl.cells K)[j]? = some y → w0.cell? (ad.add j) = some y) → ∃ v' w', (Builtin.append_ #[28, 28] ty #[v, .slice a K.length c]).run Try.prog w0 = .ok v' w' ∧ Cl.Own base w' v' (M ++ K) ∧ Ty.Grew w0 w' v v' := by
    rintro ad rfl hc
    obtain ⟨v', w', hr, h1, h2⟩ := Ty.append_tight (P := Try.prog) w0 base 28 ty 23 i0 _ 3 32 Try.underlying28 hi hz0 hz1 hz2 rfl (by decide) v M.length (Cl.cells M) hown ad K.length c (Cl.cells K) (Cl.cells_len K) hc (Zn.cells_one K) (by unfold maxLen; omega) hl hb
    refine ⟨v', w', hr, ?_, h2⟩
    unfold Cl.Own
    have e : Cl.cells (M ++ K) = Cl.cells M ++ Cl.cells K := by unfold Cl.cells; rw [List.flatMap_append]
    rw [List.length_append, e]
    exact h1
  rcases hk with rfl | ⟨b, o, rfl, _, _, hc⟩
  · cases a with
    | none =>
      obtain rfl := hn _ _ rfl
      refine ⟨v, w0, run_append_owned_none (P := Try.prog) w0 base 28 ty 23 i0 3 Try.underlying28 hi v _ _ hown, by rw [List.append_nil]; exact hown, Ty.Grew.refl _ _⟩
    | some ad => exact hmain ad rfl fun j y hj => by cases hj
  · exact hmain _ rfl (Zn.vals_cells hc)
/-- .. the walk's law. -/
theorem Zn.wpList_append {base : Nat} {w0 : World} {v : Value} {M : List Kn.V} (K : List Kn.V) (hown : Cl.Own base w0 v M) (hb : base ≤ w0.heap.size) (hl : (M.length + K.length) * 32 ≤ 140737488355328) {u : Value} (hu : Zn.Vs w0 u K)
    {ops : Array Oper} {rest : List Oper} {o : Oper} {a : Act} {Q : Exit → Act → World → Prop} (hgd : o.guard = none) (s x : Operand)
    (ho : o.op = .call { callee := .builtin .append, args := #[s, x], argTypes := #[28, 28] })
    (hs : a.eval s = v) (hx : a.eval x = u)
    (h : ∀ v' w', Cl.Own base w' v' (M ++ K) → Ty.Grew w0 w' v v' → wpList Try.prog ops Q rest (a.put o.dst v') w') :
    wpList Try.prog ops Q (o :: rest) a w0 := by
  obtain ⟨v', w', hr, h1, h2⟩ := Zn.append_vals hown hb hl hu o.type
  exact Lib.wpList_append_run w0 hgd s x _ _ ho v u hs hx v' w' hr (h v' w' h1 h2)
theorem Zn.size_zero (n : Nat) : (Builtin.zeroCells (Value.agg #[.bool false, .int .i64 0, .string ⟨#[]⟩]).cells n).size = n * 3 := by
  unfold Builtin.zeroCells
  simp [Value.cells]
set_option maxHeartbeats 2000000 in
set_option maxRecDepth 100000 in
/-- Room for n values, of no slice. -/
theorem Zn.grow_c (n : Nat) (hn : n * 32 ≤ 140737488355328) (w : World) : Calls Try.prog 29 #[.slice none 0 0, .int .i64 n] w fun e w' => ∃ v, e = .returned v ∧ Cl.Own w.heap.size w' v [] ∧ Below w.heap.size w w' := by
  obtain ⟨i0, hi, hz0, hz1, hz2⟩ := info_parts Cl.infoV
  have h1 : ¬ ((n : Int) < 0) := by omega
  by_cases h0 : n = 0
  · subst h0
    go_enter Try.func29, Try.ntmps29
    go_wp2
    go_ret
    exact ⟨_, rfl, Cl.Own.nil _ _, Below.refl _ _⟩
  · have h2 : (n : Int) > 0 := by omega
    have hr : ∀ ty, (Builtin.append_ #[28, 3] ty #[.slice none 0 0, .int .i64 n]).run Try.prog w = _ := fun ty =>
      Lib.run_append_nil_zeros (P := Try.prog) w 28 3 ty 23 i0 _ .i64 .i64 Try.underlying28 Try.underlying3 hi hz0 n (by omega) (by rw [hz1]; decide) (by omega) (by rw [hz2]; omega)
    have hG := grownCap_ge w n 0 23
    have hGm := grownCap_le_maxLen w n 0 23 (by unfold maxLen; omega)
    generalize grownCap w n 0 23 = G at hr hG hGm
    have hG0 : (0 : Int) ≤ (G : Int) := by omega
    have hO : Cl.Own w.heap.size (w.drew.alloc (.cells (Builtin.zeroCells (Value.agg #[.bool false, .int .i64 0, .string ⟨#[]⟩]).cells n ++ Builtin.zeroCells (Value.agg #[.bool false, .int .i64 0, .string ⟨#[]⟩]).cells (G - n)) 23)) (.slice (some ⟨w.heap.size, 0, none⟩) 0 G) [] := by
      refine ⟨rfl, .inr ⟨w.heap.size, G, _, rfl, Nat.le_refl _, heap_alloc_new w.drew _, Nat.zero_le _, hGm, ?_, rfl⟩⟩
      rw [Array.size_append, Zn.size_zero, Zn.size_zero]
      omega
    have HO := Lib.hid hO
    have HB : Hid (Below w.heap.size w (w.drew.alloc (.cells (Builtin.zeroCells (Value.agg #[.bool false, .int .i64 0, .string ⟨#[]⟩]).cells n ++ Builtin.zeroCells (Value.agg #[.bool false, .int .i64 0, .string ⟨#[]⟩]).cells (G - n)) 23))) := Lib.hid ((Kn.drewN_below w 1).alloc (Nat.le_refl _) _)
    generalize w.drew.alloc _ = w9 at hr HO HB
    have HR : Hid (∀ ty, _) := Lib.hid hr
    clear hr hO h0
    go_enter Try.func29, Try.ntmps29
    go_wp2_with (at_builtin; refine Lib.wpList_append_run _ rfl _ _ _ _ rfl _ _ rfl rfl _ _ (HR.out _) ?_)
    all_goals
      go_ret
      exact ⟨_, rfl, HO.out, HB.out⟩
/-- A slice of two slices. -/
structure Zn.Two (w : World) (q : Nat) (u1 u2 : Value) : Prop where
  c0 : w.cell? ⟨q, 0, none⟩ = some u1
  c1 : w.cell? ⟨q, 1, none⟩ = some u2
theorem Zn.Two.lt {w : World} {q : Nat} {u1 u2 : Value} (h : Zn.Two w q u1 u2) : q < w.heap.size := World.block_lt_of_cell? w _ h.c0
theorem Zn.Two.later {w w' : World} {q : Nat} {u1 u2 : Value} (h : Zn.Two w q u1 u2) (g : Below w.heap.size w w') : Zn.Two w' q u1 u2 :=
  ⟨(g.cell (p := ⟨q, 0, none⟩) h.lt).trans h.c0, (g.cell (p := ⟨q, 1, none⟩) h.lt).trans h.c1⟩
set_option maxHeartbeats 4000000 in
set_option maxRecDepth 100000 in
/-- Two slices of values put together. -/
theorem Zn.concat_c (q : Nat) (u1 u2 : Value) (K1 K2 : List Kn.V) (hl : (K1.length + K2.length) * 32 ≤ 140737488355328) (w : World) (h1 : Zn.Vs w u1 K1) (h2 : Zn.Vs w u2 K2) (hq : Zn.Two w q u1 u2) :
    Calls Try.prog 22 #[.slice (some ⟨q, 0, none⟩) 2 2] w fun e w' => ∃ v, e = .returned v ∧ Kn.Vals w' v (K1 ++ K2) ∧ Below w.heap.size w w' := by
  have H1 := Lib.hid h1
  have H2 := Lib.hid h2
  have HQ := Lib.hid hq
  have HL := Lib.hid hl
  have CG := Lib.hid Zn.grow_c
  obtain ⟨⟨a1, c1, e1, _⟩, _⟩ := h1
  obtain ⟨⟨a2, c2, e2, _⟩, _⟩ := h2
  obtain ⟨q0, q1⟩ := hq
  subst e1 e2
  have hw1 : IntKind.i64.wrap (K1.length : Int) = (K1.length : Int) := by rw [IntKind.wrap_i64]; omega
  have hw2 : IntKind.i64.wrap ((K1.length : Int) + (K2.length : Int)) = ((K1.length + K2.length : Nat) : Int) := by rw [IntKind.wrap_i64]; omega
  have p1 : ¬ ((K1.length : Int) < 0) := by omega
  have p2 : ¬ (((K1.length + K2.length : Nat) : Int) < 0) := by omega
  generalize hs : K1.length + K2.length = n at hw2 p2 hl
  have HN := Lib.hid hs
  have cG := CG.out n hl w
  clear hs hl CG
  go_enter Try.func22, Try.ntmps22
  go_wp2_with fail
  refine wp_loop_rounds 3 ?_; rw [rounds_succ]
  go_wp2
  rw [rounds_succ]
  go_wp2
  rw [rounds_succ]
  go_wp2_with fail
  with_reducible refine cG.mono ?_
  rintro e w1 ⟨v, rfl, hO, hg⟩
  have HO := Lib.hid hO
  have HG := Lib.hid hg
  have V1 := Lib.hid (H1.out.later hg)
  have V2 := Lib.hid (H2.out.later hg)
  have HQ1 := Lib.hid (HQ.out.later hg)
  obtain ⟨q0', q1'⟩ := HQ.out.later hg
  clear hO hg q0 q1 cG
  go_wp2_with fail
  refine wp_loop_rounds 3 ?_; rw [rounds_succ]
  go_wp2_with (at_builtin; refine Zn.wpList_append K1 HO.out HG.out.size (by have := HL.out; simp only [List.length_nil]; omega) V1.out rfl _ _ rfl rfl rfl ?_)
  rintro v2 w2 hO2 hg2
  have hb2 := Cl.own_below HG.out HO.out hg2
  have HO2 := Lib.hid hO2
  have HG2 := Lib.hid hb2
  have V22 := Lib.hid (H2.out.later hb2)
  obtain ⟨q0'', q1''⟩ := HQ.out.later hb2
  clear hO2 hg2 hb2 q0' q1'
  go_wp2_with fail
  rw [rounds_succ]
  go_wp2_with (at_builtin; refine Zn.wpList_append K2 HO2.out HG2.out.size HL.out V22.out rfl _ _ rfl rfl rfl ?_)
  rintro v3 w3 hO3 hg3
  have HO3 := Lib.hid hO3
  have HG3 := Lib.hid (Cl.own_below HG2.out HO2.out hg3)
  clear hO3 hg3 q0'' q1''
  go_wp2_with fail
  rw [rounds_succ]
  go_wp2
  go_ret
  exact ⟨_, rfl, HO3.out.vals, HG3.out⟩
end Go.Proofs.Ytdjnjhlcdcmeaaa
