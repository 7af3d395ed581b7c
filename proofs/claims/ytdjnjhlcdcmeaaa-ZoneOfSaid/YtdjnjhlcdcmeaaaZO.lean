/-
  Arguments of the laws of zone opened: a condition by value, a slice of values; what their texts weigh.
-/
import Derived.Test.YtdjnjhlcdcmeaaaZE
import Derived.Test.YtdjnjhlcdcmeaaaKO
namespace Go.Proofs.Ytdjnjhlcdcmeaaa
open Go.RowKit Go.ChangeShapes Go.WideShapes Go.ChangeAt Go.Deep
section
variable {H : Type} {enc : TypeId × Value → H} {W : World}
theorem Zn.wa {P : Program} {e : TypeId} {d : DataW H} {n : Nat} : ∀ {l : List (DataW H)}, d ∈ l → n ∈ d.weights P e → n ∈ DataW.weightsAll P e l
  | x :: l, hd, hn => by
    rw [DataW.weightsAll, List.mem_append]
    rcases List.mem_cons.1 hd with rfl | hd
    · exact .inl hn
    · exact .inr (Zn.wa hd hn)
theorem Zn.fits {ts : List TypeId} {ds : List (DataW H)} (h : (DataW.weightsEach Try.prog ts ds).all (· ≤ reachBytes) = true) {j : Nat} {t : TypeId} {d : DataW H} (ht : ts[j]? = some t) (hd : ds[j]? = some d) : ∀ n ∈ d.weights Try.prog t, n ≤ reachBytes :=
  fun n hn => of_decide_eq_true (List.all_eq_true.1 h n (DataW.weights_mem_each ht hd _ hn))
theorem Zn.bulk_len (l : List (DataW H)) : l.length ≤ Rows.uptoBulkAll l := by
  induction l with
  | nil => simp [Rows.uptoBulkAll]
  | cons x l ih =>
    have h1 : 1 ≤ Rows.uptoBulk x := by
      cases x with
      | lit l => cases l <;> simp [Rows.uptoBulk]
      | nil => simp [Rows.uptoBulk]
      | ptr d => simp [Rows.uptoBulk]
      | slice elems spare => simp [Rows.uptoBulk]
      | agg parts => simp [Rows.uptoBulk]
      | iface t d => simp [Rows.uptoBulk]
      | map entries => simp [Rows.uptoBulk]
      | held h => simp [Rows.uptoBulk]
    simp only [Rows.uptoBulkAll, List.length_cons]
    omega
set_option maxRecDepth 100000 in
/-- A slice of values, handed over. -/
theorem Zn.open_vals {ts : List TypeId} {ds : List (DataW H)} (hsz : (DataW.weightsEach Try.prog ts ds).all (· ≤ reachBytes) = true) {j : Nat} {v : Value} {d : DataW H} {ps : List MemPlace} {r : Reach} {b0 : Nat}
    (ht : ts[j]? = some 28) (hd : ds[j]? = some d) (hv : Value.okWide Try.prog W r b0 28 v) (h : DataW.Trod enc Try.prog W 0 (fun _ => true) true 28 v d ps) :
    ∃ l : List Kn.V, Zn.Vs W v l ∧ (∀ x ∈ l, Kn.Z x) ∧ l.length ≤ Rows.uptoBulk d := by
  obtain ⟨a0, len0, cap0, rfl⟩ := okWide_slice Try.underlying28 hv
  obtain ⟨fuel, hf⟩ := h
  have hs := Zn.fits hsz ht hd
  have hC : Try.prog.cellsOf 23 = 3 := by kernel_rfl
  rcases open_slice Try.underlying28 hf with ⟨hcs, hx⟩ | ⟨a, len, cap, m, n, D, Pl, hcs, _, hl, hm, hmm, hx, hi⟩
  · have hv : Value.slice a0 len0 cap0 = .slice none 0 0 := by simpa [Value.cells] using hcs
    rw [hv]
    exact ⟨[], ⟨⟨none, 0, rfl, .inl rfl⟩, (fun n c h => by cases h; rfl)⟩, (fun x hx => by cases hx), Nat.zero_le _⟩
  · have hv : Value.slice a0 len0 cap0 = .slice (some a) len cap := by simpa [Value.cells] using hcs
    rw [hv]
    simp only [if_true] at hmm
    by_cases hz : len = 0
    · subst hz
      exact ⟨[], ⟨⟨some a, cap, rfl, .inl rfl⟩, (fun n c h => by cases h)⟩, (fun x hx => by cases hx), Nat.zero_le _⟩
    · have hz1 : d = .slice ((List.range len).map D) ((List.range (m - len)).map fun j => D (len + j)) := congrArg Prod.fst hx
      rw [hz1] at hs
      simp only [DataW.weights, Try.underlying28, List.mem_cons, List.mem_append] at hs
      have hstr : ∀ i, i < len → ∀ q, q ∈ (D i).weights Try.prog 23 → q ≤ reachBytes := fun i hil q hq =>
        hs q (.inr (.inl (Zn.wa (List.mem_map.2 ⟨i, List.mem_range.2 hil, rfl⟩) hq)))
      rw [hC] at hi
      have hone : ∀ i, i < len → ∃ x : Kn.V, (W.cell? (a.add (i * 3)) = some (.bool x.null) ∧ W.cell? (a.add (i * 3 + 1)) = some (.int .i64 x.n) ∧ W.cell? (a.add (i * 3 + 2)) = some (.string x.s)) ∧ Kn.Z x := fun i hil => by
        obtain ⟨cs', hc, ht⟩ := hi i (by omega)
        obtain ⟨x, rfl, hd⟩ := Kn.open_cells ht
        obtain ⟨_, _, hat⟩ := World.cells?_some hc
        have a0 := hat 0 (by omega)
        have a1 := hat 1 (by omega)
        have a2 := hat 2 (by omega)
        rw [add_add] at a0 a1 a2
        refine ⟨x, ⟨a0, a1, a2⟩, ?_⟩
        have h1 := hstr i hil x.s.size (by
          rw [show D i = Kn.rd x from hd]
          unfold Kn.rd
          simp only [DataW.weights, Try.underlying23]
          show x.s.size ∈ DataW.weightsEach Try.prog [4, 2, 9] [.lit (.bool x.null), .lit (.int .i64 x.n), .lit (.string x.s.data.toList)]
          simp [DataW.weightsEach, DataW.weights])
        unfold reachBytes at h1
        unfold Kn.Z
        omega
      obtain ⟨b, off, spot⟩ := a
      have hspot : spot = none := by
        obtain ⟨x, ⟨h0, _⟩, _⟩ := hone 0 (by omega)
        simpa [Addr.add] using World.cell?_spot h0
      subst hspot
      have hlt : b < W.heap.size := by
        obtain ⟨x, ⟨h0, _⟩, _⟩ := hone 0 (by omega)
        have := World.block_lt_of_cell? W _ h0
        simpa [Addr.add] using this
      have hch : ∃ f : Nat → Kn.V, ∀ i, i < len → Kn.At W b (off + i * 3) (f i) ∧ Kn.Z (f i) := by
        have hone' : ∀ i, i < len → ∃ x : Kn.V, Kn.At W b (off + i * 3) x ∧ Kn.Z x := fun i hil => by
          obtain ⟨x, ⟨h0, h1, h2⟩, h3⟩ := hone i hil
          rw [add_plain] at h0 h1 h2
          rw [← Nat.add_assoc] at h1 h2
          exact ⟨x, ⟨h0, h1, h2⟩, h3⟩
        refine ⟨fun i => if hil : i < len then (hone' i hil).choose else ⟨false, 0, ⟨#[]⟩⟩, fun i hil => ?_⟩
        have hs := (hone' i hil).choose_spec
        simp only [dif_pos hil]
        exact hs
      obtain ⟨f, hf'⟩ := hch
      have hlen : ((List.range len).map f).length = len := by simp
      refine ⟨(List.range len).map f, ⟨⟨some ⟨b, off, none⟩, cap, by rw [hlen], .inr ⟨b, off, rfl, hlt, by rw [hlen]; unfold maxLen at hm; omega, fun i x hix => ?_⟩⟩, (fun n c h => by cases h)⟩, fun x hx => ?_, ?_⟩
      · rw [List.getElem?_map, Option.map_eq_some_iff] at hix
        obtain ⟨i', hi', rfl⟩ := hix
        obtain ⟨hil, rfl⟩ := List.getElem?_eq_some_iff.1 hi'
        rw [List.getElem_range]
        rw [List.length_range] at hil
        exact (hf' i hil).1
      · obtain ⟨i, hi, rfl⟩ := List.mem_map.1 hx
        exact (hf' i (List.mem_range.1 hi)).2
      · rw [hlen, hz1]
        have := Zn.bulk_len ((List.range len).map D)
        rw [List.length_map, List.length_range] at this
        simp only [Rows.uptoBulk]
        omega
/-- A condition, handed over. -/
theorem Zn.open_ask {v : Value} {d : DataW H} {ps : List MemPlace} {r : Reach} {b0 : Nat} (hv : Value.okWide Try.prog W r b0 25 v) (h : DataW.Trod enc Try.prog W 0 (fun _ => true) true 25 v d ps) :
    ∃ x : Zn.As, v = x.val ∧ d = .agg [.lit (.int .i64 x.op), .lit (.int .i64 x.col), Kn.rd x.v] := by
  obtain ⟨cs0, rfl, hcsz⟩ := okWide_struct Try.underlying25 hv
  obtain ⟨fuel, hf⟩ := h
  have hf : DataW.trod enc Try.prog W 0 (fun _ => true) true fuel 25 cs0.toList = some (d, ps) := hf
  generalize hcs : cs0.toList = cs at hf
  obtain ⟨xs, f', _, hx, hcl, hxl, hg⟩ := DataW.trod_struct Try.underlying25 hf
  have hC : Try.prog.cellsOf 25 = 5 := by kernel_rfl
  have i3 : Try.prog.cellsOf 3 = 1 := by kernel_rfl
  have iv : Try.prog.cellsOf 23 = 3 := by kernel_rfl
  rw [hC] at hcl
  match cs, hcl, xs, hxl with
  | [c0, c1, c2, c3, c4], _, [y0, y1, y2], _ =>
    have g0 : DataW.trod enc Try.prog W 0 (fun _ => true) true f' 3 ((List.drop 0 [c0, c1, c2, c3, c4]).take (Try.prog.cellsOf 3)) = some y0 := hg 0 _ rfl
    have g1 : DataW.trod enc Try.prog W 0 (fun _ => true) true f' 3 ((List.drop 1 [c0, c1, c2, c3, c4]).take (Try.prog.cellsOf 3)) = some y1 := hg 1 _ rfl
    have g2 : DataW.trod enc Try.prog W 0 (fun _ => true) true f' 23 ((List.drop 2 [c0, c1, c2, c3, c4]).take (Try.prog.cellsOf 23)) = some y2 := hg 2 _ rfl
    rw [i3] at g0 g1
    rw [iv] at g2
    obtain ⟨k, e0, r0, _⟩ := DataW.trod_int Try.underlying3 (show DataW.trod enc Try.prog W 0 (fun _ => true) true f' 3 [c0] = some y0 from g0)
    obtain ⟨k1, e1, r1, _⟩ := DataW.trod_int Try.underlying3 (show DataW.trod enc Try.prog W 0 (fun _ => true) true f' 3 [c1] = some y1 from g1)
    obtain ⟨lo, e2, r2⟩ := Kn.open_cells (show DataW.trod enc Try.prog W 0 (fun _ => true) true f' 23 [c2, c3, c4] = some y2 from g2)
    simp only [List.cons.injEq, and_true] at e0 e1 e2
    obtain ⟨rfl, rfl, rfl⟩ := e2
    subst e0 e1 r0 r1
    refine ⟨⟨k, k1, lo⟩, ?_, ?_⟩
    · unfold Zn.As.val
      rw [← Array.toArray_toList (xs := cs0), hcs]
    · simp only [Prod.mk.injEq] at hx
      rw [hx.1]
      simp only [List.map_cons, List.map_nil, r2]
theorem Zn.z_ask {ts : List TypeId} {ds : List (DataW H)} (h : (DataW.weightsEach Try.prog ts ds).all (· ≤ reachBytes) = true) {j : Nat} {x : Zn.As} (ht : ts[j]? = some 25) (hd : ds[j]? = some (.agg [.lit (.int .i64 x.op), .lit (.int .i64 x.col), Kn.rd x.v])) : Kn.Z x.v := by
  have := Zn.fits h ht hd x.v.s.size (by
    unfold Kn.rd
    simp only [DataW.weights, Try.underlying25]
    show x.v.s.size ∈ DataW.weightsEach Try.prog [3, 3, 23] [.lit (.int .i64 x.op), .lit (.int .i64 x.col), .agg [.lit (.bool x.v.null), .lit (.int .i64 x.v.n), .lit (.string x.v.s.data.toList)]]
    have e : ∀ y : Kn.V, DataW.weights Try.prog 23 (DataW.agg (H := H) [.lit (.bool y.null), .lit (.int .i64 y.n), .lit (.string y.s.data.toList)]) = [y.s.size] := fun y => by
      simp only [DataW.weights, Try.underlying23]
      show DataW.weightsEach Try.prog [4, 2, 9] [.lit (.bool y.null), .lit (.int .i64 y.n), .lit (.string y.s.data.toList)] = _
      simp [DataW.weightsEach, DataW.weights]
    simp only [DataW.weightsEach, e]
    simp [DataW.weights])
  unfold reachBytes at this
  unfold Kn.Z
  omega
end
end Go.Proofs.Ytdjnjhlcdcmeaaa
