/-
  The walk of the law TallyOnly.
-/
import Derived.Test.YtkbkhohknniibaaL5
import Derived.Deep.DeepCutAuto
import Derived.Deep.QuietTactic
import Derived.BigQuiet
import Derived.WalkSmall
namespace Go.Proofs.Ytkbkhohknniibaa
open Go.RowKit
theorem Ty.rdU_of {l : List UInt8} {n sz e : Nat} (h : Ty.num l = (n, sz, e)) : Ty.rdU l 0 = (n, l.drop sz, e) := by unfold Ty.rdU; rw [if_neg (by omega), h]
theorem Ty.rdT_of {l t : List UInt8} {m : Int} {sz e : Nat} (h : Ty.txt l m = (t, sz, e)) : Ty.rdT m l 0 = (t, l.drop sz, e) := by unfold Ty.rdT; rw [if_neg (by omega), h]
theorem Ty.txt_only (l : List UInt8) (m : Int) (h : (Ty.txt l m).2.2 = 0) : Ty.encU (Ty.txt l m).1.length ++ (Ty.txt l m).1 = l.take (Ty.txt l m).2.1 := by
  unfold Ty.txt at h ⊢
  split at h
  · rename_i h1; exact absurd h h1
  · rename_i h1
    rw [if_neg h1]
    split at h
    · cases h
    · rename_i h2
      rw [if_neg h2]
      split at h
      · cases h
      · rename_i h3
        rw [if_neg h3]
        have e := Ty.encU_num l (by omega)
        have hl : ((l.drop (Ty.num l).2.1).take (Ty.num l).1).length = (Ty.num l).1 := by rw [List.length_take, List.length_drop]; omega
        show Ty.encU ((l.drop (Ty.num l).2.1).take (Ty.num l).1).length ++ _ = l.take ((Ty.num l).2.1 + (Ty.num l).1)
        rw [hl, e.1, List.take_add]
theorem Ty.txt_len (l : List UInt8) (m : Int) : (Ty.txt l m).1.length ≤ l.length := by
  unfold Ty.txt
  repeat' split
  all_goals simp
  all_goals omega
/-- The bytes that a reading went past, as the laws cut them out: their end is m. -/
theorem Ty.past (l x : List UInt8) (sz : Nat) (hz : sz ≤ l.length) (hs : l.length ≤ 140737488351232) (hx : x = l.take sz) : ∃ k m : Int, k = ((l.drop sz).length : Int) ∧ 0 ≤ k ∧ k ≤ ((Ty.S l).size : Int) ∧ IntKind.i64.wrap (((Ty.S l).size : Int) - k) = m ∧ 0 ≤ m ∧ m ≤ ((Ty.S l).size : Int) ∧ ((Ty.S x).toList == ((Ty.S l).extract 0 m.toNat).toList) = true := by
  refine ⟨_, (sz : Int), rfl, by omega, by rw [List.length_drop, Ty.size_S]; omega, ?_, by omega, by rw [Ty.size_S]; omega, ?_⟩
  · rw [IntWalk.i64_in _ (by rw [List.length_drop, Ty.size_S]; omega), List.length_drop, Ty.size_S]; omega
  · rw [Ty.extract0, Ty.S_beq, hx]; simp
end Go.Proofs.Ytkbkhohknniibaa
