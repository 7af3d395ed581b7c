/-
  Arguments opened: a slice of bytes; a slice of things. How much they hold.
-/
import Derived.Test.YthfcpdifkgjjhaaDoorIn
import Derived.Test.YthfcpdifkgjjhaaDoorL8
import Derived.OpenShut
namespace Go.Proofs.YthfcpdifkgjjhaaDoor
open Go.RowKit Go.ChangeShapes Go.WideShapes Go.ChangeAt Go.Deep
section
variable {H : Type} {enc : TypeId × Value → H} {W : World}
theorem Ty.bulk_len (l : List (DataW H)) : l.length ≤ Rows.uptoBulkAll l := by
  induction l with
  | nil => simp [Rows.uptoBulkAll]
  | cons x r ih =>
    have h1 : 1 ≤ Rows.uptoBulk x := by
      cases x with
      | lit l => cases l <;> simp [Rows.uptoBulk]
      | nil => simp [Rows.uptoBulk]
      | ptr d => simp [Rows.uptoBulk]
      | slice elems spare => simp [Rows.uptoBulk]
      | agg parts => simp [Rows.uptoBulk]
      | iface t d => simp [Rows.uptoBulk]
      | map entries => simp [Rows.uptoBulk]
      | held h => simp [Rows.uptoBulk]
    simp only [Rows.uptoBulkAll, List.length_cons]
    omega
/-- A slice of bytes: what it holds. -/
theorem Ty.open_inb {a0 : Option Addr} {len cap : Nat} {d : DataW H} {ps : List MemPlace} (h : DataW.Trod enc Tryd.prog W 0 (fun _ => true) true 22 (.slice a0 len cap) d ps) :
    ∃ bs, Ty.InB W (.slice a0 len cap) bs ∧ bs.length ≤ Rows.uptoBulk d := by
  obtain ⟨fuel, hf⟩ := h
  rcases open_ints Tryd.underlying22 Tryd.underlying5 (by kernel_rfl) hf with ⟨hcs, hx⟩ | ⟨a, len', cap', zs, hcs, _, hl, hm, hz, hx, hcell, hwz⟩
  · have hv : Value.slice a0 len cap = .slice none 0 0 := by simpa [Value.cells] using hcs
    exact ⟨[], .inl ⟨hv, rfl⟩, by simp⟩
  · have hv : Value.slice a0 len cap = .slice (some a) len' cap' := by simpa [Value.cells] using hcs
    simp only [if_true] at hz
    have hl2 : ((zs.take len').map fun n => UInt8.ofNat n.toNat).length = len' := by rw [List.length_map, List.length_take]; omega
    refine ⟨(zs.take len').map fun n => UInt8.ofNat n.toNat, .inr ⟨a, cap', by rw [hl2, hv], fun j u hu => ?_⟩, ?_⟩
    · rw [List.map_map, List.getElem?_map, Option.map_eq_some_iff] at hu
      obtain ⟨n, hn, rfl⟩ := hu
      have hj : j < len' := by
        have := (List.getElem?_eq_some_iff.1 hn).1
        rw [List.length_take] at this
        omega
      rw [List.getElem?_take, if_pos hj] at hn
      have hg : zs.getD j 0 = n := by rw [List.getD, hn]; rfl
      rw [hcell j (by omega), hg]
      have hb := bounds_u8 (hwz n (List.mem_of_getElem? hn))
      simp only [Function.comp, Ty.B]
      rw [Ty.toNat_ofNat8 _ (by omega)]
      congr 2
      omega
    · simp only [Prod.mk.injEq] at hx
      rw [hl2, hx.1]
      have := Ty.bulk_len (lits (H := H) .u8 (zs.take len'))
      simp only [lits, List.length_map, List.length_take] at this
      simp only [Rows.uptoBulk, lits]
      omega
/-- The thing whose cells begin at a place. -/
def Ty.thAt (W : World) (b o : Nat) : Ty.Thing :=
  ⟨match W.cell? ⟨b, o, none⟩ with | some (.int _ k) => k | _ => 0, match W.cell? ⟨b, o + 1, none⟩ with | some (.int _ k) => k | _ => 0, match W.cell? ⟨b, o + 2, none⟩ with | some (.string s) => s.data.toList | _ => []⟩
theorem Ty.tb_len (t : Ty.Thing) : (Ty.tb t).length ≤ 9 + t.s.length := by
  unfold Ty.tb
  repeat' split
  · have := Ty.encU_len9 (IntKind.u64.wrap t.n).toNat; omega
  · have := Ty.encU_len9 (Ty.zig t.n).toNat; omega
  · have := Ty.encU_len9 t.s.length; rw [List.length_append]; omega
  · simp; omega
/-- One thing: its cells, its reading. -/
theorem Ty.open_th {fuel : Nat} {cs : List Value} {d : DataW H} {ps : List MemPlace} (h : DataW.trod enc Tryd.prog W 0 (fun _ => true) true fuel 40 cs = some (d, ps)) :
    ∃ (k n : Int) (s : ByteArray), cs = [.int .i64 k, .int .i64 n, .string s] ∧ Rows.uptoBulk d = s.size + 4 ∧ Ty.I64 n := by
  obtain ⟨xs, f', _, hx, hcl, hxl, hg⟩ := DataW.trod_struct Tryd.underlying40 h
  have hC : Tryd.prog.cellsOf 40 = 3 := by kernel_rfl
  have i3 : Tryd.prog.cellsOf 3 = 1 := by kernel_rfl
  have i2 : Tryd.prog.cellsOf 2 = 1 := by kernel_rfl
  have i9 : Tryd.prog.cellsOf 9 = 1 := by kernel_rfl
  rw [hC] at hcl
  match cs, hcl, xs, hxl with
  | [c0, c1, c2], _, [y0, y1, y2], _ =>
    have g0 : DataW.trod enc Tryd.prog W 0 (fun _ => true) true f' 3 ((List.drop 0 [c0, c1, c2]).take (Tryd.prog.cellsOf 3)) = some y0 := hg 0 _ rfl
    have g1 : DataW.trod enc Tryd.prog W 0 (fun _ => true) true f' 2 ((List.drop 1 [c0, c1, c2]).take (Tryd.prog.cellsOf 2)) = some y1 := hg 1 _ rfl
    have g2 : DataW.trod enc Tryd.prog W 0 (fun _ => true) true f' 9 ((List.drop 2 [c0, c1, c2]).take (Tryd.prog.cellsOf 9)) = some y2 := hg 2 _ rfl
    rw [i3] at g0
    rw [i2] at g1
    rw [i9] at g2
    obtain ⟨k, e0, r0, _⟩ := DataW.trod_int Tryd.underlying3 (show DataW.trod enc Tryd.prog W 0 (fun _ => true) true f' 3 [c0] = some y0 from g0)
    obtain ⟨n, e1, r1, w1⟩ := DataW.trod_int Tryd.underlying2 (show DataW.trod enc Tryd.prog W 0 (fun _ => true) true f' 2 [c1] = some y1 from g1)
    obtain ⟨s, e2, r2, _⟩ := DataW.trod_string Tryd.underlying9 (show DataW.trod enc Tryd.prog W 0 (fun _ => true) true f' 9 [c2] = some y2 from g2)
    simp only [List.cons.injEq, and_true] at e0 e1 e2
    subst e0 e1 e2 r0 r1 r2
    simp only [Prod.mk.injEq] at hx
    refine ⟨k, n, s, rfl, ?_, bounds_i64 w1⟩
    rw [hx.1]
    have : s.data.toList.length = s.size := Ty.length_data s
    simp only [List.map_cons, List.map_nil, Rows.uptoBulk, Rows.uptoBulkAll]
    omega
/-- A slice of things: its row of cells, and how much they hold. -/
theorem Ty.open_ths {a0 : Option Addr} {len cap : Nat} {d : DataW H} {ps : List MemPlace} (h : DataW.Trod enc Tryd.prog W 0 (fun _ => true) true 32 (.slice a0 len cap) d ps) :
    len = 0 ∨ ∃ (b off : Nat) (L : List Ty.Thing), a0 = some ⟨b, off, none⟩ ∧ L.length = len ∧ b < W.heap.size ∧ (∀ i t, L[i]? = some t → W.cell? ⟨b, off + i * 3, none⟩ = some (.int .i64 t.k) ∧ W.cell? ⟨b, off + i * 3 + 1, none⟩ = some (.int .i64 t.n) ∧ W.cell? ⟨b, off + i * 3 + 2, none⟩ = some (.string (Ty.S t.s)) ∧ Ty.I64 t.n) ∧
      len ≤ Rows.uptoBulk d ∧ (∀ t ∈ L, t.s.length ≤ Rows.uptoBulk d) ∧ ∀ k, ((L.take k).flatMap Ty.tb).length ≤ 9 * Rows.uptoBulk d := by
  obtain ⟨fuel, hf⟩ := h
  have hC : Tryd.prog.cellsOf 40 = 3 := by kernel_rfl
  rcases open_slice Tryd.underlying32 hf with ⟨hcs, hx⟩ | ⟨a, len', cap', m, n, D, Pl, hcs, _, hl, hm, hmm, hx, hi⟩
  · left
    have hv : Value.slice a0 len cap = .slice none 0 0 := by simpa [Value.cells] using hcs
    simp only [Value.slice.injEq] at hv
    exact hv.2.1
  · have hv : Value.slice a0 len cap = .slice (some a) len' cap' := by simpa [Value.cells] using hcs
    simp only [Value.slice.injEq] at hv
    obtain ⟨rfl, rfl, rfl⟩ := hv
    simp only [if_true] at hmm
    by_cases hz : len = 0
    · exact .inl hz
    · right
      rw [hC] at hi
      have hone : ∀ i, i < len → ∃ (k n : Int) (s : ByteArray), W.cell? (a.add (i * 3)) = some (.int .i64 k) ∧ W.cell? (a.add (i * 3 + 1)) = some (.int .i64 n) ∧ W.cell? (a.add (i * 3 + 2)) = some (.string s) ∧ Rows.uptoBulk (D i) = s.size + 4 ∧ Ty.I64 n := fun i hil => by
        obtain ⟨cs', hc, ht⟩ := hi i (by omega)
        obtain ⟨k, n, s, rfl, hb, hn⟩ := Ty.open_th ht
        obtain ⟨_, _, hat⟩ := World.cells?_some hc
        have a0 := hat 0 (by omega)
        have a1 := hat 1 (by omega)
        have a2 := hat 2 (by omega)
        rw [add_add] at a0 a1 a2
        exact ⟨k, n, s, a0, a1, a2, hb, hn⟩
      obtain ⟨b, off, spot⟩ := a
      have hspot : spot = none := by
        obtain ⟨k, n, s, h0, _⟩ := hone 0 (by omega)
        simpa [Addr.add] using World.cell?_spot h0
      subst hspot
      have hlt : b < W.heap.size := by
        obtain ⟨k, n, s, h0, _⟩ := hone 0 (by omega)
        have := World.block_lt_of_cell? W _ h0
        simpa [Addr.add] using this
      have hth : ∀ i, i < len → W.cell? ⟨b, off + i * 3, none⟩ = some (.int .i64 (Ty.thAt W b (off + i * 3)).k) ∧ W.cell? ⟨b, off + i * 3 + 1, none⟩ = some (.int .i64 (Ty.thAt W b (off + i * 3)).n) ∧ W.cell? ⟨b, off + i * 3 + 2, none⟩ = some (.string (Ty.S (Ty.thAt W b (off + i * 3)).s)) ∧ Ty.I64 (Ty.thAt W b (off + i * 3)).n ∧ Rows.uptoBulk (D i) = (Ty.thAt W b (off + i * 3)).s.length + 4 := fun i hil => by
        obtain ⟨k, n, s, h0, h1, h2, hb, hn⟩ := hone i hil
        rw [add_plain] at h0 h1 h2
        rw [← Nat.add_assoc] at h1 h2
        have e : Ty.thAt W b (off + i * 3) = ⟨k, n, s.data.toList⟩ := by unfold Ty.thAt; rw [h0, h1, h2]
        rw [e]
        exact ⟨h0, h1, h2, hn, by rw [hb]; have := Ty.length_data s; show s.size + 4 = s.data.toList.length + 4; omega⟩
      have hD : Rows.uptoBulkAll ((List.range len).map D) ≤ Rows.uptoBulk d := by
        simp only [Prod.mk.injEq] at hx
        rw [hx.1]
        simp only [Rows.uptoBulk]
        omega
      have hsum : ∀ q, q ≤ len → (((List.range q).map fun i => Ty.thAt W b (off + i * 3)).flatMap Ty.tb).length ≤ 9 * Rows.uptoBulkAll ((List.range q).map D) ∧ Rows.uptoBulkAll ((List.range q).map D) ≤ Rows.uptoBulkAll ((List.range len).map D) := fun q hq => by
        constructor
        · induction q with
          | zero => simp
          | succ q ih =>
            have ih := ih (by omega)
            have hb := (hth q (by omega)).2.2.2.2
            have ht := Ty.tb_len (Ty.thAt W b (off + q * 3))
            have ha : ∀ (l r : List (DataW H)), Rows.uptoBulkAll (l ++ r) = Rows.uptoBulkAll l + Rows.uptoBulkAll r := fun l r => by
              induction l with
              | nil => simp [Rows.uptoBulkAll]
              | cons x l ih => simp only [List.cons_append, Rows.uptoBulkAll, ih]; omega
            rw [List.range_succ, List.map_append, List.map_append, List.flatMap_append, List.length_append, ha]
            simp only [List.map_cons, List.map_nil, List.flatMap_cons, List.flatMap_nil, List.append_nil, Rows.uptoBulkAll]
            omega
        · have ha : ∀ (l r : List (DataW H)), Rows.uptoBulkAll l ≤ Rows.uptoBulkAll (l ++ r) := fun l r => by
            induction l with
            | nil => simp [Rows.uptoBulkAll]
            | cons x l ih => simp only [List.cons_append, Rows.uptoBulkAll]; omega
          obtain ⟨c, rfl⟩ : ∃ c, len = q + c := ⟨len - q, by omega⟩
          rw [List.range_add, List.map_append]
          exact ha _ _
      refine ⟨b, off, (List.range len).map fun i => Ty.thAt W b (off + i * 3), rfl, by simp, hlt, fun i t ht => ?_, ?_, fun t ht => ?_, fun k => ?_⟩
      · rw [List.getElem?_map, Option.map_eq_some_iff] at ht
        obtain ⟨i', hi', rfl⟩ := ht
        obtain ⟨hil, rfl⟩ := List.getElem?_eq_some_iff.1 hi'
        rw [List.getElem_range]
        rw [List.length_range] at hil
        have := hth i hil
        exact ⟨this.1, this.2.1, this.2.2.1, this.2.2.2.1⟩
      · have := Ty.bulk_len ((List.range len).map D)
        simp only [List.length_map, List.length_range] at this
        omega
      · obtain ⟨i, hil, rfl⟩ := List.mem_map.1 ht
        rw [List.mem_range] at hil
        have h1 := (hth i hil).2.2.2.2
        have h2 : Rows.uptoBulk (D i) ≤ Rows.uptoBulkAll ((List.range len).map D) := by
          have hm : D i ∈ (List.range len).map D := List.mem_map.2 ⟨i, List.mem_range.2 hil, rfl⟩
          have hp : ∀ (l : List (DataW H)) (x : DataW H), x ∈ l → Rows.uptoBulk x ≤ Rows.uptoBulkAll l := fun l x hx => by
            induction l with
            | nil => cases hx
            | cons y l ih =>
              simp only [Rows.uptoBulkAll]
              rcases List.mem_cons.1 hx with rfl | hx
              · omega
              · have := ih hx; omega
          exact hp _ _ hm
        omega
      · rw [← List.map_take, List.take_range]
        have := hsum (min k len) (by omega)
        omega
end
end Go.Proofs.YthfcpdifkgjjhaaDoor
