/-
  The walk of the law TallyCuts.
-/
import Derived.Test.YtkbkhohknniibaaL4
import Derived.Test.YtkbkhohknniibaaM4
namespace Go.Proofs.Ytkbkhohknniibaa
open Go.RowKit
theorem Ty.cut_in (cut : Int) (m : Nat) (h : 0 < m) (hm : m ≤ 140737488355328) : 0 ≤ wrap64 ((IntKind.u64.wrap cut).tmod (m : Int)) ∧ wrap64 ((IntKind.u64.wrap cut).tmod (m : Int)) < (m : Int) := by
  have h0 : 0 ≤ IntKind.u64.wrap cut := by rw [IntKind.wrap_u64]; omega
  rw [Int.tmod_eq_emod_of_nonneg h0]
  have h1 := Int.emod_nonneg (IntKind.u64.wrap cut) (show (m : Int) ≠ 0 by omega)
  have h2 := Int.emod_lt_of_pos (IntKind.u64.wrap cut) (show (0 : Int) < m by omega)
  rw [IntWalk.wrap64_in _ (by omega)]
  exact ⟨h1, h2⟩
theorem Ty.extract0 (l : List UInt8) (k : Nat) : (Ty.S l).extract 0 k = Ty.S (l.take k) := by rw [Ty.extract_S, Ty.data_S]; simp
theorem Ty.txt_prefix (s : List UInt8) (hs : Ty.U64 s.length) (k : Nat) (hk : k < (Ty.encU s.length ++ s).length) : Ty.txt ((Ty.encU s.length ++ s).take k) (s.length : Int) = ([], 0, 2) := by
  rw [List.length_append] at hk
  by_cases h : k < (Ty.encU s.length).length
  · rw [List.take_append_of_le_length (by omega)]
    have e := Ty.num_prefix s.length hs k h
    rw [Ty.txt_bad (by rw [e]; decide), e]
  · rw [List.take_append]
    rw [List.take_of_length_le (by omega)]
    have e := Ty.num_encU s.length hs (s.take (k - (Ty.encU s.length).length))
    rw [Ty.txt_short (by rw [e]) (by rw [e]; simp) (by rw [e]; simp only [List.length_append, List.length_take]; omega)]
end Go.Proofs.Ytkbkhohknniibaa
