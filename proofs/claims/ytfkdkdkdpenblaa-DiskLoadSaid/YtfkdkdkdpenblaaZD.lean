/-
  The walk of the law TallyOrder.
  The walk of the law TallyCuts.
  The walk of the law TallyOnly.
  Contracts of the document's answers for tally: the cursor.
  Contracts of the document's answers for tally: what the cursor sees next.
  Contracts of the document's answers for tally: the cursor's methods.
-/
import Derived.Test.YtfkdkdkdpenblaaZC
import Derived.Deep.DeepCutAuto
import Derived.Deep.QuietTactic
import Derived.BigQuiet
import Derived.WalkSmall
namespace Go.Proofs.Ytfkdkdkdpenblaa
open Go.RowKit
theorem Ty.S_beq (a b : List UInt8) : ((Ty.S a).toList == (Ty.S b).toList) = (a == b) := by rw [ByteArray.toList_eq, ByteArray.toList_eq]; rfl
theorem Ty.S_less (a b : List UInt8) : Op.bytesLess (Ty.S a).toList (Ty.S b).toList = Op.bytesLess a b := by rw [ByteArray.toList_eq, ByteArray.toList_eq]; rfl
/-- What the last test of the law comes to, way by way. -/
theorem Ty.order_ways (x y : Int) (hx : 0 ≤ x) (hy : 0 ≤ y) (ux : Ty.U64 x.toNat) (uy : Ty.U64 y.toNat) :
    (x = y) ∨ ((x == y) = false ∧ ((Ty.S (Ty.encU x.toNat)).toList == (Ty.S (Ty.encU y.toNat)).toList) = false ∧ y ≤ x) ∨
    ((x == y) = false ∧ ((Ty.S (Ty.encU x.toNat)).toList == (Ty.S (Ty.encU y.toNat)).toList) = false ∧ ¬ y ≤ x ∧ ((Ty.S (Ty.encU x.toNat)).size : Int) < ((Ty.S (Ty.encU y.toNat)).size : Int)) ∨
    ((x == y) = false ∧ ((Ty.S (Ty.encU x.toNat)).toList == (Ty.S (Ty.encU y.toNat)).toList) = false ∧ ¬ y ≤ x ∧ ¬ ((Ty.S (Ty.encU x.toNat)).size : Int) < ((Ty.S (Ty.encU y.toNat)).size : Int) ∧ (((Ty.S (Ty.encU x.toNat)).size : Int) == ((Ty.S (Ty.encU y.toNat)).size : Int)) = true ∧ Op.bytesLess (Ty.S (Ty.encU x.toNat)).toList (Ty.S (Ty.encU y.toNat)).toList = true) := by
  simp only [Ty.size_S, Ty.S_less, Ty.S_beq]
  rcases Int.lt_trichotomy x y with h | h | h
  · right; right
    have ho := Ty.encU_order x.toNat y.toNat ux uy (by omega)
    have e1 : (x == y) = false := by rw [beq_eq_false_iff_ne]; omega
    have e2 : (Ty.encU x.toNat == Ty.encU y.toNat) = false := by rw [beq_eq_false_iff_ne]; exact ho.1
    rcases ho.2 with h1 | ⟨h1, h2⟩
    · left; exact ⟨e1, e2, by omega, by omega⟩
    · right; exact ⟨e1, e2, by omega, by omega, by rw [beq_iff_eq]; omega, h2⟩
  · exact .inl h
  · right; left
    have ho := Ty.encU_order y.toNat x.toNat uy ux (by omega)
    exact ⟨by rw [beq_eq_false_iff_ne]; omega, by rw [beq_eq_false_iff_ne]; exact fun e => ho.1 e.symm, by omega⟩
end Go.Proofs.Ytfkdkdkdpenblaa

namespace Go.Proofs.Ytfkdkdkdpenblaa
open Go.RowKit
theorem Ty.cut_in (cut : Int) (m : Nat) (h : 0 < m) (hm : m ≤ 140737488355328) : 0 ≤ wrap64 ((IntKind.u64.wrap cut).tmod (m : Int)) ∧ wrap64 ((IntKind.u64.wrap cut).tmod (m : Int)) < (m : Int) := by
  have h0 : 0 ≤ IntKind.u64.wrap cut := by rw [IntKind.wrap_u64]; omega
  rw [Int.tmod_eq_emod_of_nonneg h0]
  have h1 := Int.emod_nonneg (IntKind.u64.wrap cut) (show (m : Int) ≠ 0 by omega)
  have h2 := Int.emod_lt_of_pos (IntKind.u64.wrap cut) (show (0 : Int) < m by omega)
  rw [IntWalk.wrap64_in _ (by omega)]
  exact ⟨h1, h2⟩
theorem Ty.extract0 (l : List UInt8) (k : Nat) : (Ty.S l).extract 0 k = Ty.S (l.take k) := by rw [Ty.extract_S, Ty.data_S]; simp
theorem Ty.txt_prefix (s : List UInt8) (hs : Ty.U64 s.length) (k : Nat) (hk : k < (Ty.encU s.length ++ s).length) : Ty.txt ((Ty.encU s.length ++ s).take k) (s.length : Int) = ([], 0, 2) := by
  rw [List.length_append] at hk
  by_cases h : k < (Ty.encU s.length).length
  · rw [List.take_append_of_le_length (by omega)]
    have e := Ty.num_prefix s.length hs k h
    rw [Ty.txt_bad (by rw [e]; decide), e]
  · rw [List.take_append]
    rw [List.take_of_length_le (by omega)]
    have e := Ty.num_encU s.length hs (s.take (k - (Ty.encU s.length).length))
    rw [Ty.txt_short (by rw [e]) (by rw [e]; simp) (by rw [e]; simp only [List.length_append, List.length_take]; omega)]
end Go.Proofs.Ytfkdkdkdpenblaa

namespace Go.Proofs.Ytfkdkdkdpenblaa
open Go.RowKit
theorem Ty.rdU_of {l : List UInt8} {n sz e : Nat} (h : Ty.num l = (n, sz, e)) : Ty.rdU l 0 = (n, l.drop sz, e) := by unfold Ty.rdU; rw [if_neg (by omega), h]
theorem Ty.rdT_of {l t : List UInt8} {m : Int} {sz e : Nat} (h : Ty.txt l m = (t, sz, e)) : Ty.rdT m l 0 = (t, l.drop sz, e) := by unfold Ty.rdT; rw [if_neg (by omega), h]
theorem Ty.txt_only (l : List UInt8) (m : Int) (h : (Ty.txt l m).2.2 = 0) : Ty.encU (Ty.txt l m).1.length ++ (Ty.txt l m).1 = l.take (Ty.txt l m).2.1 := by
  unfold Ty.txt at h ⊢
  split at h
  · rename_i h1; exact absurd h h1
  · rename_i h1
    rw [if_neg h1]
    split at h
    · cases h
    · rename_i h2
      rw [if_neg h2]
      split at h
      · cases h
      · rename_i h3
        rw [if_neg h3]
        have e := Ty.encU_num l (by omega)
        have hl : ((l.drop (Ty.num l).2.1).take (Ty.num l).1).length = (Ty.num l).1 := by rw [List.length_take, List.length_drop]; omega
        show Ty.encU ((l.drop (Ty.num l).2.1).take (Ty.num l).1).length ++ _ = l.take ((Ty.num l).2.1 + (Ty.num l).1)
        rw [hl, e.1, List.take_add]
theorem Ty.txt_len (l : List UInt8) (m : Int) : (Ty.txt l m).1.length ≤ l.length := by
  unfold Ty.txt
  repeat' split
  all_goals simp
  all_goals omega
/-- The bytes that a reading went past, as the laws cut them out: their end is m. -/
theorem Ty.past (l x : List UInt8) (sz : Nat) (hz : sz ≤ l.length) (hs : l.length ≤ 140737488351232) (hx : x = l.take sz) : ∃ k m : Int, k = ((l.drop sz).length : Int) ∧ 0 ≤ k ∧ k ≤ ((Ty.S l).size : Int) ∧ IntKind.i64.wrap (((Ty.S l).size : Int) - k) = m ∧ 0 ≤ m ∧ m ≤ ((Ty.S l).size : Int) ∧ ((Ty.S x).toList == ((Ty.S l).extract 0 m.toNat).toList) = true := by
  refine ⟨_, (sz : Int), rfl, by omega, by rw [List.length_drop, Ty.size_S]; omega, ?_, by omega, by rw [Ty.size_S]; omega, ?_⟩
  · rw [IntWalk.i64_in _ (by rw [List.length_drop, Ty.size_S]; omega), List.length_drop, Ty.size_S]; omega
  · rw [Ty.extract0, Ty.S_beq, hx]; simp
end Go.Proofs.Ytfkdkdkdpenblaa

namespace Go.Proofs.Ytfkdkdkdpenblaa
open Go.RowKit
end Go.Proofs.Ytfkdkdkdpenblaa

namespace Go.Proofs.Ytfkdkdkdpenblaa
open Go.RowKit
theorem Ty.by_drewN (w : World) (n : Nat) (r : Option Nat) : w.grownBy (w.drewN n) r := ⟨rfl, rfl, rfl, Nat.le_refl _, fun _ _ _ => rfl⟩
theorem Ty.by_then {w w' : World} {r : Option Nat} (h : w.grownBy w' r) (n : Nat) : w.grownBy (w'.drewN n) r := Ty.by_trans h (Ty.by_drewN w' n r)
theorem Ty.by_below {w w' : World} (h : Below w.heap.size w w') : w.grownBy w' none := ⟨h.os, h.tape, h.output, h.size, fun k hk _ => h.block k hk⟩
theorem Ty.at_drop (s : ByteArray) (a k : Nat) (h : a + k < s.size) : s[a + k] = (s.data.toList.drop a).getD k 0 := by
  rw [Ty.at_getD s (a + k) h, List.getD, List.getD, List.getElem?_drop]
theorem Ty.len_drop (s : ByteArray) (a : Nat) : (s.data.toList.drop a).length = s.size - a := by rw [List.length_drop, Ty.length_data]
theorem Ty.rstep (l : List UInt8) (b : UInt8) (k : Nat) (hk : 1 ≤ k) (hp : Ty.pv l k < 72057594037927936) (hb : b = l.getD k 0) :
    IntKind.u64.wrap (IntKind.u64.wrap (256 * (Ty.pv l k : Int)) + IntKind.u64.wrap (b.toNat : Int)) = (Ty.pv l (k + 1) : Int) := by
  have h2 := b.toNat_lt
  rw [Ty.wrapu64 (256 * (Ty.pv l k : Int)) (by omega) (by omega), Ty.wrapu64 (b.toNat : Int) (by omega) (by omega), Ty.wrapu64 _ (by omega) (by omega), Ty.pv_succ l k hk, ← hb]
  omega
theorem Ty.len_small (n f : Nat) (hf : f ≤ 3) (h : n < Ty.small f) : (Ty.encU n).length ≠ 1 + Ty.after f := by
  rw [Ty.encU_length]
  have hb := Ty.form_is n
  rcases (by omega : f = 0 ∨ f = 1 ∨ f = 2 ∨ f = 3) with rfl | rfl | rfl | rfl
  · simp [Ty.small] at h
  · simp only [Ty.small] at h
    rw [show Ty.form n = 0 by omega]; decide
  · simp only [Ty.small] at h
    rcases (by omega : Ty.form n = 0 ∨ Ty.form n = 1) with e | e <;> rw [e] <;> decide
  · simp only [Ty.small] at h
    rcases (by omega : Ty.form n = 0 ∨ Ty.form n = 1 ∨ Ty.form n = 2) with e | e | e <;> rw [e] <;> decide
end Go.Proofs.Ytfkdkdkdpenblaa

namespace Go.Proofs.Ytfkdkdkdpenblaa
open Go.RowKit
theorem Ty.by_some {w w' : World} (h : w.grownBy w' none) (r : Nat) : w.grownBy w' (some r) := ⟨h.os, h.tape, h.output, h.size, fun k hk _ => h.block k hk (by intro e; cases e)⟩
theorem Ty.drop_at (s : ByteArray) (a k : Nat) : s.data.toList.drop (a + k) = (s.data.toList.drop a).drop k := by rw [List.drop_drop]
end Go.Proofs.Ytfkdkdkdpenblaa
