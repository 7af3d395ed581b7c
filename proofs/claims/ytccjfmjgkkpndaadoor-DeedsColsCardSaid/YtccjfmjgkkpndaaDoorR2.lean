/-
  Contracts of the document's answers for tally: the cursor.
-/
import Derived.Test.YtccjfmjgkkpndaaDoorR1
import Derived.Test.YtccjfmjgkkpndaaDoorL6
namespace Go.Proofs.YtccjfmjgkkpndaaDoor
open Go.RowKit
/-- THE REFERENCE'S CURSOR in block r: the bytes, where it stands, the first error. -/
def Ty.RC (r : Nat) (w : World) (s : ByteArray) (at_ er : Nat) : Prop := w.heap[r]? = some (.cells #[.string s, .int .i64 (at_ : Int), .int .i64 (er : Int)] 63 (0, 0))
theorem Ty.RC.cells {r : Nat} {w : World} {s : ByteArray} {a e : Nat} (h : Ty.RC r w s a e) : w.cell? ⟨r, 0, none⟩ = some (.string s) ∧ w.cell? ⟨r, 1, none⟩ = some (.int .i64 (a : Int)) ∧ w.cell? ⟨r, 2, none⟩ = some (.int .i64 (e : Int)) ∧ w.frozen? ⟨r, 1, none⟩ = false ∧ w.frozen? ⟨r, 2, none⟩ = false := by
  unfold Ty.RC at h
  refine ⟨?_, ?_, ?_, ?_, ?_⟩ <;> simp [World.cell?, World.frozen?, h]
theorem Ty.RC.lt {r : Nat} {w : World} {s : ByteArray} {a e : Nat} (h : Ty.RC r w s a e) : r < w.heap.size := lt_of_block h
theorem Ty.RC.below {r : Nat} {w w' : World} {s : ByteArray} {a e : Nat} (h : Ty.RC r w s a e) {B : Nat} (hb : Below B w w') (hr : r < B) : Ty.RC r w' s a e := by
  unfold Ty.RC at h ⊢
  rw [hb.block r hr]
  exact h
theorem Ty.RC.drewN {r : Nat} {w : World} {s : ByteArray} {a e : Nat} (h : Ty.RC r w s a e) (n : Nat) : Ty.RC r (w.drewN n) s a e := h
theorem Ty.rc_set2 {r : Nat} {w : World} {s : ByteArray} {a e e' : Nat} (h : Ty.RC r w s a e) : Ty.RC r (w.setCell ⟨r, 2, none⟩ (.int .i64 (e' : Int))) s a e' := by
  unfold Ty.RC at h ⊢
  have hlt := lt_of_block h
  have h' : w.heap[r] = .cells #[.string s, .int .i64 (a : Int), .int .i64 (e : Int)] 63 (0, 0) := by simpa [Array.getElem?_eq_getElem hlt] using h
  show (w.heap.modify r _)[r]? = _
  rw [Array.getElem?_eq_getElem (by simpa using hlt), Array.getElem_modify_self, h']
  rfl
theorem Ty.rc_set1 {r : Nat} {w : World} {s : ByteArray} {a a' e : Nat} (h : Ty.RC r w s a e) : Ty.RC r (w.setCell ⟨r, 1, none⟩ (.int .i64 (a' : Int))) s a' e := by
  unfold Ty.RC at h ⊢
  have hlt := lt_of_block h
  have h' : w.heap[r] = .cells #[.string s, .int .i64 (a : Int), .int .i64 (e : Int)] 63 (0, 0) := by simpa [Array.getElem?_eq_getElem hlt] using h
  show (w.heap.modify r _)[r]? = _
  rw [Array.getElem?_eq_getElem (by simpa using hlt), Array.getElem_modify_self, h']
  rfl
set_option maxHeartbeats 400000 in
theorem Ty.size_c (b : Nat) (f : Nat) (hf : b / 64 = f) (hb : b < 256) (w : World) :
    Calls Tryd.prog 69 #[.int .u8 (b : Int)] w fun e w' => e = .returned (.int .i64 (1 + Ty.after f : Nat)) ∧ w' = w := by
  have hc : ((b : Int) < 64 ∧ f = 0) ∨ (¬ (b : Int) < 64 ∧ (b : Int) < 128 ∧ f = 1) ∨ (¬ (b : Int) < 64 ∧ ¬ (b : Int) < 128 ∧ (b : Int) < 192 ∧ f = 2) ∨ (¬ (b : Int) < 64 ∧ ¬ (b : Int) < 128 ∧ ¬ (b : Int) < 192 ∧ f = 3) := by omega
  clear hf
  rcases hc with ⟨h1, rfl⟩ | ⟨h1, h2, rfl⟩ | ⟨h1, h2, h3, rfl⟩ | ⟨h1, h2, h3, rfl⟩
  all_goals
    go_enter Tryd.func69, Tryd.ntmps69
    go_wp2
    go_ret
    exact ⟨rfl, rfl⟩
set_option maxHeartbeats 400000 in
theorem Ty.rleft_c (r : Nat) (s : ByteArray) (a er : Nat) (ha : a ≤ s.size) (hs : s.size ≤ 140737488351232) (w : World) (h : Ty.RC r w s a er) :
    Calls Tryd.prog 48 #[.pointer (some ⟨r, 0, none⟩)] w fun e w' => e = .returned (.int .i64 ((s.size - a : Nat) : Int)) ∧ ∃ n, w' = w.drewN n := by
  obtain ⟨c0, c1, c2, _, _⟩ := h.cells
  go_enter Tryd.func48, Tryd.ntmps48
  go_wp2
  go_quiet (fail)
  go_wp2
  go_ret
  exact ⟨Ty.ret_i (by omega), _, rfl⟩
set_option maxHeartbeats 400000 in
theorem Ty.fail_c (r : Nat) (s : ByteArray) (a e' : Nat) (w : World) (h : Ty.RC r w s a 0) :
    Calls Tryd.prog 59 #[.pointer (some ⟨r, 0, none⟩), .int .i64 (e' : Int)] w fun e w' => e = .returned (.tuple #[]) ∧ Ty.RC r w' s a e' ∧ w.grownBy w' (some r) := by
  obtain ⟨c0, c1, c2, f1, f2⟩ := h.cells
  go_enter Tryd.func59, Tryd.ntmps59
  go_wp2
  go_end0
  exact ⟨rfl, Ty.rc_set2 h, Ty.by_set _ _ _ _⟩
end Go.Proofs.YtccjfmjgkkpndaaDoor
