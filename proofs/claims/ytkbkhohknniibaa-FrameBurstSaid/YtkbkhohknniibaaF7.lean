/-
  A frame whose text and sum have turned bits, behind another frame (mathematics).
-/
import Derived.Test.YtkbkhohknniibaaFA
namespace Go.Proofs.Ytkbkhohknniibaa
/-- The bits from p on are turned as B says. -/
def Fr.Turned (l m : List UInt8) (p B : Nat) : Prop := m.length = l.length ∧ ∀ i, i < 8 * l.length → (m.getD (i / 8) 0).toNat.testBit (i % 8) = ((l.getD (i / 8) 0).toNat.testBit (i % 8) ^^ (decide (p ≤ i) && B.testBit (i - p)))
theorem Fr.burst_scan {t m : List UInt8} {p B : Nat} (ht : t.length ≤ 1048576) (hB : 0 < B) (hB2 : B < 2 ^ 32) (hp : B < 2 ^ (8 * (t.length + 4) - p)) (hp2 : p ≤ 8 * (t.length + 4)) (h : Fr.Turned (t ++ Fr.four (Fr.sum t)) m p B) : Fr.scan (Fr.four t.length ++ m) = (8, [], 0) := by
  obtain ⟨hm, h⟩ := h
  have hl : (t ++ Fr.four (Fr.sum t)).length = t.length + 4 := by rw [List.length_append, Fr.four_len]
  rw [hl] at hm h
  have e1 : (Fr.four t.length ++ m).take 4 = Fr.four t.length := by rw [List.take_append_of_le_length (by rw [Fr.four_len]; omega)]; rfl
  have e2 : (Fr.four t.length ++ m).length = t.length + 8 := by rw [List.length_append, Fr.four_len, hm]; omega
  have e3 : ((Fr.four t.length ++ m).drop (4 + t.length)).take 4 = m.drop t.length := by
    rw [← List.drop_drop, show (Fr.four t.length ++ m).drop 4 = m from rfl]
    exact List.take_of_length_le (by rw [List.length_drop]; omega)
  have e4 : ((Fr.four t.length ++ m).drop 4).take t.length = m.take t.length := rfl
  have hne : Fr.val (m.drop t.length) ≠ Fr.sum (m.take t.length) := Fr.found (a := t) (q := Fr.four (Fr.sum t)) (p := p) (B := B) (Fr.four_len _) (by rw [List.length_drop]; omega) (by rw [List.length_take]; omega) (Fr.val_four _ (Fr.sum_lt t)) hB hB2 (by rw [hl]; exact hp) (by rw [hl]; exact hp2) (by rw [hl, List.take_append_drop]; exact h)
  rw [Fr.scan_is, e1, e2, Fr.val_four _ (by omega), e3, e4, if_neg (by omega), if_neg (by omega), if_neg (by omega), if_pos hne]
theorem Fr.burst_behind {a t m : List UInt8} {p B : Nat} (ha : a.length ≤ 1048576) (ht : t.length ≤ 1048576) (hB : 0 < B) (hB2 : B < 2 ^ 32) (hp : B < 2 ^ (8 * (t.length + 4) - p)) (hp2 : p ≤ 8 * (t.length + 4)) (h : Fr.Turned (t ++ Fr.four (Fr.sum t)) m p B) : Fr.scan (Fr.frm a ++ (Fr.four t.length ++ m)) = (8, [], 0) := by
  rw [Fr.scan_frm a ha, Fr.burst_scan ht hB hB2 hp hp2 h]
  rfl
theorem Fr.two_behind {a t : List UInt8} (ha : a.length ≤ 1048576) (ht : t.length ≤ 1048576) : Fr.scan (Fr.frm a ++ Fr.frm t) = (0, [a, t], Fr.size [a, t]) := by
  have := Fr.scan_all [a, t] (by simp [ha, ht])
  simpa using this
end Go.Proofs.Ytkbkhohknniibaa
