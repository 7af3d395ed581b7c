/-
  The document's answers for package texts: strings in hand; which string is ahead, where a string stands, the same lists.
-/
import Derived.Test.YtkbkhohknniibaaK3
import Derived.Test.YtkbkhohknniibaaR4
import Derived.Test.YtkbkhohknniibaaB8
import Derived.Test.YtkbkhohknniibaaT1
namespace Go.Proofs.Ytkbkhohknniibaa
open Go.RowKit
/-- A string of a list as a cell. -/
def Tx.sv (L : List Tx.Str) (i : Nat) : Value := .string (Ty.S (L.getD i []))
/-- The strings L lie one behind the other below block B. -/
structure Tx.At (B : Nat) (w : World) (v : Value) (L : List Tx.Str) : Prop where
  is : ∃ a c, v = .slice a L.length c ∧ L.length ≤ c ∧ B ≤ w.heap.size ∧ ((L = [] ∧ (a = none → c = 0)) ∨ ∃ b o, a = some ⟨b, o, none⟩ ∧ b < B ∧ ∀ i, i < L.length → w.cell? ⟨b, o + i, none⟩ = some (Tx.sv L i))
theorem Tx.At.below {B : Nat} {w w' : World} {v : Value} {L : List Tx.Str} (h : Tx.At B w v L) (g : Below B w w') : Tx.At B w' v L := by
  obtain ⟨a, c, rfl, hc, hB, h⟩ := h
  refine ⟨a, c, rfl, hc, Nat.le_trans hB g.size, ?_⟩
  rcases h with h | ⟨b, o, rfl, hlt, h⟩
  · exact .inl h
  · exact .inr ⟨b, o, rfl, hlt, fun i hi => (g.cell (p := ⟨b, o + i, none⟩) hlt).trans (h i hi)⟩
theorem Tx.At.mono {B B' : Nat} {w : World} {v : Value} {L : List Tx.Str} (h : Tx.At B w v L) (h1 : B ≤ B') (h2 : B' ≤ w.heap.size) : Tx.At B' w v L := by
  obtain ⟨a, c, rfl, hc, hB, h⟩ := h
  refine ⟨a, c, rfl, hc, h2, ?_⟩
  rcases h with h | ⟨b, o, rfl, hlt, h⟩
  · exact .inl h
  · exact .inr ⟨b, o, rfl, by omega, h⟩
theorem Tx.At.nil (w : World) : Tx.At w.heap.size w (.slice none 0 0) [] := ⟨_, _, rfl, Nat.le_refl _, Nat.le_refl _, .inl ⟨rfl, fun _ => rfl⟩⟩
theorem Tx.S_size (t : Tx.Str) : (Ty.S t).size = t.length := rfl
theorem Tx.S_toList (t : Tx.Str) : (Ty.S t).toList = t := by
  rw [ByteArray.toList_eq]
  rfl
theorem Tx.S_inj {a b : Tx.Str} (h : Ty.S a = Ty.S b) : a = b := by
  have := congrArg ByteArray.toList h
  rwa [Tx.S_toList, Tx.S_toList] at this
theorem Tx.S_yes (a : Tx.Str) : ((Ty.S a).toList == (Ty.S a).toList) = true := by rw [beq_iff_eq]
theorem Tx.S_no {a b : Tx.Str} (h : a ≠ b) : ((Ty.S a).toList == (Ty.S b).toList) = false := by
  rw [beq_eq_false_iff_ne, Tx.S_toList, Tx.S_toList]
  exact h
theorem Tx.cmp_lt (a b : Tx.Str) : decide (Kn.cmp ⟨false, 0, Ty.S a⟩ ⟨false, 0, Ty.S b⟩ < 0) = Tx.lt a b := by
  rw [Kn.ahead_is]
  simp only [Bool.false_eq_true, if_false, bne_self_eq_false]
  rw [Tx.S_toList, Tx.S_toList]
  rfl
/-- Where a string stands; -1: nowhere. -/
def Tx.posI (L : List Tx.Str) (t : Tx.Str) : Int := if t ∈ L then ((Tx.pos L t : Nat) : Int) else -1
theorem Tx.pos_le : ∀ (L : List Tx.Str) (t : Tx.Str) (k : Nat) (hk : k < L.length), L[k] = t → Tx.pos L t ≤ k
  | [], _, k, hk, _ => by simp at hk
  | a :: L, t, 0, _, e => by
    obtain rfl : a = t := e
    simp [Tx.pos]
  | a :: L, t, k + 1, hk, e => by
    have ih := Tx.pos_le L t k (by simpa using hk) (by simpa using e)
    unfold Tx.pos at ih ⊢
    rw [List.idxOf_cons]
    cases (a == t)
    · simpa using ih
    · simp
theorem Tx.posI_here {L : List Tx.Str} {t : Tx.Str} {k : Nat} (hk : k < L.length) (h : ∀ j, j < k → L.getD j [] ≠ t) (e : L.getD k [] = t) : Tx.posI L t = (k : Int) := by
  have hg : L[k] = t := by rw [← e, List.getD, List.getElem?_eq_getElem hk]; rfl
  have hm : t ∈ L := hg ▸ List.getElem_mem hk
  unfold Tx.posI
  rw [if_pos hm]
  have h1 := Tx.pos_get hm
  have h2 := Tx.pos_lt hm
  have h3 : ¬ Tx.pos L t < k := fun hc => h _ hc (by rw [List.getD, h1]; rfl)
  have h4 := Tx.pos_le L t k hk hg
  omega
theorem Tx.posI_none {L : List Tx.Str} {t : Tx.Str} (h : ∀ j, j < L.length → L.getD j [] ≠ t) : Tx.posI L t = -1 := by
  unfold Tx.posI
  rw [if_neg]
  intro hm
  obtain ⟨j, hj, e⟩ := List.getElem_of_mem hm
  exact h j hj (by rw [List.getD, List.getElem?_eq_getElem hj]; exact e)
theorem Tx.drewN_below (w : World) (n : Nat) : Below w.heap.size w (w.drewN n) := Bt.drewN_below w n
set_option maxHeartbeats 1000000 in
theorem Tx.same_c (v u : Value) (L : List Tx.Str) (w : World) (hv : Tx.At w.heap.size w v L) (hu : Tx.At w.heap.size w u L) (hn : L.length ≤ 140737488355328) :
    Calls Try.prog 18 #[v, u] w fun e w' => e = .returned (.bool true) ∧ Below w.heap.size w w' := by
  obtain ⟨a, c, rfl, _, _, h⟩ := hv
  obtain ⟨a2, c2, rfl, _, _, h2⟩ := hu
  have HH := Lib.hid h
  have HH2 := Lib.hid h2
  obtain ⟨n, hnn⟩ : ∃ n, n = L.length := ⟨_, rfl⟩
  rw [← hnn] at hn ⊢
  have HN := Lib.hid hnn
  have hz : ((n : Int) != (n : Int)) = false := by simp
  clear h h2 hnn
  go_enter Try.func18, Try.ntmps18
  go_wp2
  go_loopw [5] (fun i wr => ∃ k : Nat, k ≤ n ∧ i = .int .i64 k ∧ Below w.heap.size w wr) (fun i _ => n - (intOf i).toNat)
  case atStart => exact ⟨0, by omega, rfl, Below.refl _ _⟩
  case round =>
    obtain ⟨k, hk, rfl, hb⟩ := hrel
    have HB := Lib.hid hb
    by_cases hl : k < n
    · rcases HH.out with h | ⟨b, o, rfl, hlt, h⟩
      · exact absurd hl (by rw [HN.out, h.1]; simp)
      · rcases HH2.out with h2 | ⟨b2, o2, rfl, hlt2, h2⟩
        · exact absurd hl (by rw [HN.out, h2.1]; simp)
        · have hc := (hb.cell (p := ⟨b, o + k, none⟩) hlt).trans (h k (by rw [← HN.out]; exact hl))
          have hc2 := (hb.cell (p := ⟨b2, o2 + k, none⟩) hlt2).trans (h2 k (by rw [← HN.out]; exact hl))
          unfold Tx.sv at hc hc2
          have hx := Tx.S_yes (L.getD k [])
          generalize Ty.S (L.getD k []) = x at hc hc2 hx
          have dk : (k : Int) < (n : Int) := by omega
          have dk0 : (0 : Int) ≤ (k : Int) := by omega
          have dk2 : (k : Int) < 140737488355328 := by omega
          have HNN := Lib.hid hn
          clear h h2 hn hb
          go_wp2_with fail
          go_quiet (fail)
          go_wp2
          go_roundw
          case rel => exact ⟨k + 1, by omega, by simp, HB.out.trans ((Bt.drewN_below _ _).mono HB.out.size)⟩
          case measure => simp [intOf]; omega
    · obtain rfl : k = n := by omega
      have dk : ¬ (k : Int) < (k : Int) := by omega
      clear hb
      go_wp2
      go_ret
      exact ⟨rfl, HB.out⟩
end Go.Proofs.Ytkbkhohknniibaa
