/-
  Contracts of package texts: the keys of a map of counts, sorted; a string copied. Over contracts of the shelf, laid at this program.
-/
import Derived.Test.YtkgmildbhelelaaDoorUA
import Derived.Test.YtkgmildbhelelaaDoorLay
namespace Go.Proofs.YtkgmildbhelelaaDoor
open Go.RowKit Go.Maps Go.Sort Go.Shelf
theorem Tx.keysOf_c (mb : Option Nat) (w : World) :
    Calls Tryd.prog 83 #[.map mb] w fun e w' => e = .returned (.func (.func 104) #[] #[.pointer (some ⟨w.heap.size, 0, none⟩)]) ∧ w' = w.alloc (.cells #[.map mb] 100) :=
  callsIn_wide.1 (AnyZ.keys_in Tryd.keysL Fence.wide 5 trivial rfl mb w)
theorem Tx.sorts (m : Nat) : AnyZ.SortsIn Tryd.prog Tryd.sortedL_ren Fence.wide m :=
  ⟨fun blk off cap ss w hH hblk hsz => callsIn_wide.2 (AnyM.slices_Sort_string Tryd.sortL blk off cap ss w hH hblk hsz), fun p cap w => callsIn_wide.2 (AnyM.slices_Sort_string_none Tryd.sortL p cap w)⟩
/-- Ascending lists are sorted as they are. -/
theorem Tx.dict_sorted (L : List Tx.Str) {ss : List Tx.Str} (h : (Tx.dict L).Perm ss) : ss.mergeSort (fun x y => decide (x ≤ y)) = Tx.dict L := by
  rw [mergeSort_of_perm h.symm]
  refine List.mergeSort_of_pairwise (List.pairwise_iff_getElem.2 fun i j hi hj hij => ?_)
  have h1 := Tx.asc_at (Tx.dict L) none (Tx.dict_asc L) i j hij hj
  rw [List.getD, List.getElem?_eq_getElem hi, List.getD, List.getElem?_eq_getElem hj] at h1
  have h2 : Op.bytesLess (Tx.dict L)[i] (Tx.dict L)[j] = true := h1
  rw [bytesLess_eq, decide_eq_true_eq] at h2
  exact decide_eq_true (List.le_of_lt h2)
theorem Tx.enc_sv (L : List Tx.Str) : L.map encStr = (List.range L.length).map (Tx.sv L) := by
  refine List.ext_getElem (by simp) fun i h1 h2 => ?_
  have hi : i < L.length := by simpa using h1
  rw [List.getElem_map, List.getElem_map, List.getElem_range]
  unfold Tx.sv
  rw [List.getD, List.getElem?_eq_getElem hi]
  rfl
set_option maxHeartbeats 1000000 in
/-- The dictionary, out of the map's keys ('w': the world ahead of the call of Keys). -/
theorem Tx.sorted_c {b n : Nat} {L : List Tx.Str} {w : World} (hc : Tx.Counts b n w L) (hn : L.length ≤ 65536) :
    Calls Tryd.prog 82 #[.func (.func 104) #[] #[.pointer (some ⟨w.heap.size, 0, none⟩)]] (w.alloc (.cells #[.map (some b)] 100)) fun e w' => ∃ v, e = .returned v ∧ Tx.Own w.heap.size w' v (Tx.dict L) ∧ Below w.heap.size w w' := by
  obtain ⟨D, hown, hp, hs⟩ := hc.keys
  have hbl := hown.lt
  have hdl := Tx.dict_len L
  have hseq : SeqGives Fence.wide 2 Tryd.prog 104 #[.pointer (some ⟨w.heap.size, 0, none⟩)] encStr (fun ss => ss.Perm (strKeys D)) (Maps.size D) (w.alloc (.cells #[.map (some b)] 100)) :=
    AnyZ.keys_gives (ρ := Tryd.keysL_ren) { Tryd.keysL with } Fence.wide _ trivial rfl (by omega) w.heap.size b n D _ (by simp) (by simp) (hown.alloc _)
  have hc := callsIn_wide.1 (AnyZ.sorted_in Tryd.sortedL Fence.wide 5 trivial trivial trivial trivial rfl (by omega) (Tx.sorts _) (enters_of Tryd.func103 (by kernel_rfl) rfl) 104 #[.pointer (some ⟨w.heap.size, 0, none⟩)] trivial (enters_of Tryd.func104 (by kernel_rfl) rfl) _ _ (by rw [hs]; unfold maxLen; omega) (by rw [hs]; omega) _ hseq)
  refine hc.mono ?_
  rintro e w' ⟨v, ss, rfl, hS, hrow, hnil, hb⟩
  have hd := Tx.dict_sorted L (hp.trans hS.symm)
  have hlen : ss.length = (Tx.dict L).length := (hp.trans hS.symm).length_eq.symm
  refine ⟨v, rfl, ?_, ?_⟩
  · have e1 : (ss.mergeSort (fun x y => decide (x ≤ y))).map encStr = (List.range (Tx.dict L).length).map (Tx.sv (Tx.dict L)) := by rw [hd, Tx.enc_sv]
    have h2 := hrow
    rw [e1, hlen] at h2
    exact Tx.Own.mono (B := (w.alloc (.cells #[.map (some b)] 100)).heap.size) h2 (by simp)
  · exact ((Below.refl _ w).alloc (Nat.le_refl _) _).trans (hb.mono (by simp))
/-- A string copied. -/
theorem Tx.clone_c (s : ByteArray) (w : World) (hs : s.size ≤ 140737488355328) : Calls Tryd.prog 111 #[.string s] w fun e w' => e = .returned (.string s) ∧ Below w.heap.size w w' := by
  have cc := Any.stringslite_Clone Tryd.cloneL s w (by omega)
  go_enter Tryd.func111, Tryd.ntmps111
  go_wp2_with fail
  refine Calls.mono cc ?_
  rintro e w1 ⟨rfl, hb⟩
  go_wp2
  go_ret
  exact ⟨rfl, hb⟩
end Go.Proofs.YtkgmildbhelelaaDoor
