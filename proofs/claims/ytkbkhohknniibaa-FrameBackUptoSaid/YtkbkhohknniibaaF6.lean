/-
  The document's answers for package frame: All.
-/
import Derived.Test.YtkbkhohknniibaaF5
namespace Go.Proofs.Ytkbkhohknniibaa
open Go.RowKit
/-- Frames to the end. -/
def Fr.all (l : List UInt8) : Nat × List Fr.Str := if (Fr.scan l).1 ≠ 0 then ((Fr.scan l).1, []) else if (Fr.scan l).2.2 < l.length then (2, []) else (0, (Fr.scan l).2.1)
/-- What All leaves. -/
def Fr.GotA (w : World) (r : Nat × List Fr.Str) (e : Ending) (w' : World) : Prop :=
  ∃ v, e = .returned (.tuple #[v, .int .i64 ((r.1 : Nat) : Int)]) ∧ Tx.At w'.heap.size w' v r.2 ∧ Below w.heap.size w w'
theorem Fr.GotA.bad {w w' : World} {r : Nat × List Fr.Str} {e : Nat} (hr : r = (e, [])) (g : Below w.heap.size w w') : Fr.GotA w r (.returned (.tuple #[.slice none 0 0, .int .i64 (e : Int)])) w' :=
  ⟨_, by rw [hr], by rw [hr]; exact Tx.At.nil _, g⟩
theorem Fr.GotA.good {w w' : World} {r : Nat × List Fr.Str} {v : Value} {L : List Fr.Str} (hr : r = (0, L)) (h : Tx.At w'.heap.size w' v L) (g : Below w.heap.size w w') : Fr.GotA w r (.returned (.tuple #[v, .int .i64 0])) w' :=
  ⟨_, by rw [hr]; rfl, by rw [hr]; exact h, g⟩
theorem Fr.scan_le (l : List UInt8) : (Fr.scan l).2.2 ≤ l.length := by
  rcases Fr.scan_err l with h | h
  · exact Fr.scan_end l.length l (Nat.le_refl _) h
  · rw [h]; exact Nat.zero_le _
set_option maxHeartbeats 2000000 in
set_option maxRecDepth 100000 in
/-- ALL, as the document has it. -/
theorem Fr.rall_c (s : ByteArray) (hs : s.size ≤ 70368744177664) (w : World) :
    Calls Try.prog 17 #[.string s] w (Fr.GotA w (Fr.all s.data.toList)) := by
  have cr := Fr.rscan_c s hs w
  have hle := Fr.scan_le s.data.toList
  rw [Ty.length_data] at hle
  have HA : Hid (Fr.all s.data.toList = if (Fr.scan s.data.toList).1 ≠ 0 then ((Fr.scan s.data.toList).1, []) else if (Fr.scan s.data.toList).2.2 < s.size then (2, []) else (0, (Fr.scan s.data.toList).2.1)) := Lib.hid (by rw [Fr.all, Ty.length_data])
  generalize Fr.all s.data.toList = R at HA ⊢
  generalize Fr.scan s.data.toList = q at cr hle HA
  obtain ⟨E, L, n⟩ := q
  simp only at hle HA
  unfold Fr.Got at cr
  simp only at cr
  go_enter Try.func17, Try.ntmps17
  go_wp2_with fail
  with_reducible refine cr.mono ?_
  rintro e w1 ⟨v, rfl, hV, g1⟩
  have HV := Lib.hid hV
  have HB1 := Lib.hid g1
  clear cr hV g1
  by_cases hE : E = 0
  · have hEi : (E : Int) = 0 := by omega
    by_cases hn : n < s.size
    · have hni : (n : Int) < (s.size : Int) := by omega
      have HR := Lib.hid (HA.out.trans ((if_neg (by simp [hE])).trans (if_pos hn)))
      clear hE hn HA
      go_wp2
      go_ret2
      exact Fr.GotA.bad HR.out HB1.out
    · have hni : ¬ (n : Int) < (s.size : Int) := by omega
      have HR := Lib.hid (HA.out.trans ((if_neg (by simp [hE])).trans (if_neg hn)))
      clear hE hn HA
      go_wp2
      go_ret2
      exact Fr.GotA.good HR.out HV.out HB1.out
  · have hEi : ¬ (E : Int) = 0 := by omega
    have HR := Lib.hid (HA.out.trans (if_pos hE))
    clear hE HA
    go_wp2
    go_ret2
    exact Fr.GotA.bad HR.out HB1.out
end Go.Proofs.Ytkbkhohknniibaa
