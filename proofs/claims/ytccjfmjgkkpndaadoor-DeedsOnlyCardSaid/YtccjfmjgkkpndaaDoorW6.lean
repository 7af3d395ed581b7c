/-
  Contracts of package tally: the cursor's methods.
-/
import Derived.Test.YtccjfmjgkkpndaaDoorW5
namespace Go.Proofs.YtccjfmjgkkpndaaDoor
open Go.RowKit
/-- THE CURSOR in block b: the bytes that are left, the first error. -/
def Ty.Cur (b : Nat) (w : World) (l : List UInt8) (e : Nat) : Prop := w.heap[b]? = some (.cells #[.string (Ty.S l), .int .i64 (e : Int)] 77 (0, 0))
theorem Ty.Cur.cells {b : Nat} {w : World} {l : List UInt8} {e : Nat} (h : Ty.Cur b w l e) : w.cell? ⟨b, 0, none⟩ = some (.string (Ty.S l)) ∧ w.cell? ⟨b, 1, none⟩ = some (.int .i64 (e : Int)) ∧ w.frozen? ⟨b, 0, none⟩ = false ∧ w.frozen? ⟨b, 1, none⟩ = false := by
  unfold Ty.Cur at h
  refine ⟨?_, ?_, ?_, ?_⟩ <;> simp [World.cell?, World.frozen?, h]
theorem Ty.Cur.lt {b : Nat} {w : World} {l : List UInt8} {e : Nat} (h : Ty.Cur b w l e) : b < w.heap.size := lt_of_block h
theorem Ty.two_set0 {w : World} {b : Nat} {x y u : Value} {t : TypeId} (h : w.heap[b]? = some (.cells #[x, y] t (0, 0))) : (w.setCell ⟨b, 0, none⟩ u).heap[b]? = some (.cells #[u, y] t (0, 0)) := by
  have hlt := lt_of_block h
  have h' : w.heap[b] = .cells #[x, y] t (0, 0) := by simpa [Array.getElem?_eq_getElem hlt] using h
  show (w.heap.modify b _)[b]? = _
  rw [Array.getElem?_eq_getElem (by simpa using hlt), Array.getElem_modify_self, h']
  rfl
theorem Ty.two_set1 {w : World} {b : Nat} {x y u : Value} {t : TypeId} (h : w.heap[b]? = some (.cells #[x, y] t (0, 0))) : (w.setCell ⟨b, 1, none⟩ u).heap[b]? = some (.cells #[x, u] t (0, 0)) := by
  have hlt := lt_of_block h
  have h' : w.heap[b] = .cells #[x, y] t (0, 0) := by simpa [Array.getElem?_eq_getElem hlt] using h
  show (w.heap.modify b _)[b]? = _
  rw [Array.getElem?_eq_getElem (by simpa using hlt), Array.getElem_modify_self, h']
  rfl
theorem Ty.by_set (w : World) (b o : Nat) (u : Value) : w.grownBy (w.setCell ⟨b, o, none⟩ u) (some b) :=
  ⟨rfl, rfl, rfl, by simp [World.setCell], fun k _ hk => Below.heap_setCell _ _ _ _ (fun e => hk (by rw [e]))⟩
theorem Ty.by_refl (w : World) (r : Option Nat) : w.grownBy w r := ⟨rfl, rfl, rfl, Nat.le_refl _, fun _ _ _ => rfl⟩
theorem Ty.by_trans {a b c : World} {r : Option Nat} (h : a.grownBy b r) (k : b.grownBy c r) : a.grownBy c r :=
  ⟨k.os.trans h.os, k.tape.trans h.tape, k.output.trans h.output, Nat.le_trans h.size k.size, fun i hi hn => (k.block i (Nat.lt_of_lt_of_le hi h.size) hn).trans (h.block i hi hn)⟩
theorem Ty.Tabs.kept {w w' : World} (h : Ty.Tabs w) (hs : w.heap.size ≤ w'.heap.size) (hb : ∀ k, k < Ty.G → w'.heap[k]? = w.heap[k]?) : Ty.Tabs w' := by
  have hc : ∀ k o v, k < Ty.G → w.cell? ⟨k, o, none⟩ = some v → w'.cell? ⟨k, o, none⟩ = some v := fun k o v hk hv => (World.cell?_of_block (a := ⟨k, o, none⟩) (hb k hk)).trans hv
  exact ⟨hc _ _ _ (by decide) h.z0, hc _ _ _ (by decide) h.z1, hc _ _ _ (by decide) h.z2, hc _ _ _ (by decide) h.z3, hc _ _ _ (by decide) h.s0, hc _ _ _ (by decide) h.s1, hc _ _ _ (by decide) h.s2, hc _ _ _ (by decide) h.s3, Nat.le_trans h.two hs⟩
theorem Ty.Tabs.by {w w' : World} {r : Option Nat} (h : Ty.Tabs w) (hg : w.grownBy w' r) (hr : ∀ k, r = some k → Ty.G ≤ k) : Ty.Tabs w' :=
  h.kept hg.size fun k hk => hg.block k (by have := h.two; omega) (fun e => by have := hr k e.symm; omega)
/-- What a method of the cursor leaves: its result, the cursor's state; nothing else was written. -/
def Ty.Left (b : Nat) (w : World) (v : Value) (l : List UInt8) (e' : Nat) (e : Ending) (w' : World) : Prop := e = .returned v ∧ Ty.Cur b w' l e' ∧ w.grownBy w' (some b)

set_option maxHeartbeats 400000 in
theorem Ty.from_c (l : List UInt8) (w : World) :
    Calls Tryd.prog 26 #[.string (Ty.S l)] w fun e w' => e = .returned (.pointer (some ⟨w.heap.size, 0, none⟩)) ∧ w' = w.alloc (.cells #[.string (Ty.S l), .int .i64 0] 77 (0, 0)) := by
  go_enter Tryd.func26, Tryd.ntmps26
  go_wp2
  go_ret
  exact ⟨rfl, rfl⟩
set_option maxHeartbeats 400000 in
theorem Ty.err_c (b : Nat) (l : List UInt8) (er : Nat) (w : World) (h : Ty.Cur b w l er) :
    Calls Tryd.prog 57 #[.pointer (some ⟨b, 0, none⟩)] w fun e w' => e = .returned (.int .i64 (er : Int)) ∧ w' = w := by
  obtain ⟨c0, c1, _, _⟩ := h.cells
  go_enter Tryd.func57, Tryd.ntmps57
  go_wp2
  go_ret
  exact ⟨rfl, rfl⟩
set_option maxHeartbeats 400000 in
theorem Ty.err_nil (w : World) :
    Calls Tryd.prog 57 #[.pointer none] w fun e w' => e = .returned (.int .i64 1) ∧ w' = w := by
  go_enter Tryd.func57, Tryd.ntmps57
  go_wp2
  go_ret
  exact ⟨rfl, rfl⟩
set_option maxHeartbeats 400000 in
theorem Ty.left_c (b : Nat) (l : List UInt8) (er : Nat) (w : World) (h : Ty.Cur b w l er) :
    Calls Tryd.prog 58 #[.pointer (some ⟨b, 0, none⟩)] w fun e w' => e = .returned (.int .i64 (l.length : Int)) ∧ w' = w := by
  obtain ⟨c0, c1, _, _⟩ := h.cells
  go_enter Tryd.func58, Tryd.ntmps58
  go_wp2
  go_ret
  exact ⟨rfl, rfl⟩
set_option maxHeartbeats 400000 in
theorem Ty.left_nil (w : World) :
    Calls Tryd.prog 58 #[.pointer none] w fun e w' => e = .returned (.int .i64 0) ∧ w' = w := by
  go_enter Tryd.func58, Tryd.ntmps58
  go_wp2
  go_ret
  exact ⟨rfl, rfl⟩
set_option maxHeartbeats 400000 in
theorem Ty.advance_c (b : Nat) (l : List UInt8) (er sz e' : Nat) (w : World) (h : Ty.Cur b w l er) (hsz : sz ≤ l.length) (hl : l.length ≤ 9223372036854775807) :
    Calls Tryd.prog 64 #[.pointer (some ⟨b, 0, none⟩), .int .i64 (sz : Int), .int .i64 (e' : Int)] w (Ty.Left b w (.tuple #[]) (l.drop sz) e') := by
  obtain ⟨c0, c1, f0, f1⟩ := h.cells
  have hss : sz ≤ (Ty.S l).size := hsz
  have hsl : (Ty.S l).size ≤ 9223372036854775807 := hl
  go_enter Tryd.func64, Tryd.ntmps64
  go_wp2
  go_end0
  have e1 : (Ty.S l).extract sz (Ty.S l).size = Ty.S (l.drop sz) := by
    rw [Ty.extract_S, Ty.data_S, Ty.size_S, List.take_of_length_le (by simp)]
  rw [e1]
  exact ⟨rfl, Ty.two_set1 (Ty.two_set0 h), Ty.by_trans (Ty.by_set _ _ _ _) (Ty.by_set _ _ _ _)⟩
/-- What a reading method of the cursor leaves, and what it returns, as plain functions of its state. -/
def Ty.rdU (l : List UInt8) (e : Nat) : Nat × List UInt8 × Nat := if e ≠ 0 then (0, l, e) else ((Ty.num l).1, l.drop (Ty.num l).2.1, (Ty.num l).2.2)
def Ty.rdT (most : Int) (l : List UInt8) (e : Nat) : List UInt8 × List UInt8 × Nat := if e ≠ 0 then ([], l, e) else ((Ty.txt l most).1, l.drop (Ty.txt l most).2.1, (Ty.txt l most).2.2)
def Ty.rdB (l : List UInt8) (e : Nat) : Nat × List UInt8 × Nat := if e ≠ 0 then (0, l, e) else match l with
  | [] => (0, [], 2)
  | b :: r => (b.toNat, r, 0)
set_option maxHeartbeats 400000 in
theorem Ty.cuint_c (b : Nat) (l : List UInt8) (er : Nat) (w : World) (hw : Ty.Tabs w) (h : Ty.Cur b w l er) (hl : l.length ≤ 9223372036854775807) :
    Calls Tryd.prog 68 #[.pointer (some ⟨b, 0, none⟩)] w (Ty.Left b w (.int .u64 ((Ty.rdU l er).1 : Int)) (Ty.rdU l er).2.1 (Ty.rdU l er).2.2) := by
  obtain ⟨c0, c1, f0, f1⟩ := h.cells
  by_cases he : er = 0
  · subst he
    have hsz := Ty.num_size l
    have HR : Hid (Ty.rdU l 0 = ((Ty.num l).1, l.drop (Ty.num l).2.1, (Ty.num l).2.2)) := Lib.hid (by simp [Ty.rdU])
    rw [HR.out]
    go_enter Tryd.func68, Tryd.ntmps68
    go_wp2_with fail
    refine (Ty.err_c b l 0 _ h).mono ?_
    rintro e w' ⟨rfl, rfl⟩
    go_wp2_with fail
    refine (Ty.number_c (Ty.S l) _ hw hl).mono ?_
    rintro e w2 ⟨rfl, rfl⟩
    unfold Ty.numV
    rw [Ty.data_S]
    go_wp2_with fail
    refine (Ty.advance_c b l 0 _ _ _ h hsz hl).mono ?_
    rintro e w3 ⟨rfl, hc, hg⟩
    go_wp2
    go_ret
    exact ⟨rfl, hc, hg⟩
  · have hne : ((er : Int) != 0) = true := by rw [bne_iff_ne]; omega
    have HR : Hid (Ty.rdU l er = (0, l, er)) := Lib.hid (by simp [Ty.rdU, he])
    rw [HR.out]
    clear he
    go_enter Tryd.func68, Tryd.ntmps68
    go_wp2_with fail
    refine (Ty.err_c b l er _ h).mono ?_
    rintro e w' ⟨rfl, rfl⟩
    go_wp2
    go_ret
    exact ⟨rfl, h, Ty.by_refl _ _⟩
end Go.Proofs.YtccjfmjgkkpndaaDoor
