/-
  The walk of the law TallyOrder.
  The walk of the law TallyCuts.
  The walk of the law TallyOnly.
  Contracts of the document's answers for tally: the cursor.
  Contracts of the document's answers for tally: what the cursor sees next.
  Contracts of the document's answers for tally: the cursor's methods.
  Contracts of the document's answers for tally: the cursor's texts.
-/
import Derived.Test.YtcognkgabdaneaaGreatDoorTC
import Derived.Deep.DeepCutAuto
import Derived.Deep.QuietTactic
import Derived.BigQuiet
import Derived.WalkSmall
namespace Go.Proofs.YtcognkgabdaneaaGreatDoor
open Go.RowKit
theorem Ty.S_beq (a b : List UInt8) : ((Ty.S a).toList == (Ty.S b).toList) = (a == b) := by rw [ByteArray.toList_eq, ByteArray.toList_eq]; rfl
theorem Ty.S_less (a b : List UInt8) : Op.bytesLess (Ty.S a).toList (Ty.S b).toList = Op.bytesLess a b := by rw [ByteArray.toList_eq, ByteArray.toList_eq]; rfl
/-- What the last test of the law comes to, way by way. -/
theorem Ty.order_ways (x y : Int) (hx : 0 ≤ x) (hy : 0 ≤ y) (ux : Ty.U64 x.toNat) (uy : Ty.U64 y.toNat) :
    (x = y) ∨ ((x == y) = false ∧ ((Ty.S (Ty.encU x.toNat)).toList == (Ty.S (Ty.encU y.toNat)).toList) = false ∧ y ≤ x) ∨
    ((x == y) = false ∧ ((Ty.S (Ty.encU x.toNat)).toList == (Ty.S (Ty.encU y.toNat)).toList) = false ∧ ¬ y ≤ x ∧ ((Ty.S (Ty.encU x.toNat)).size : Int) < ((Ty.S (Ty.encU y.toNat)).size : Int)) ∨
    ((x == y) = false ∧ ((Ty.S (Ty.encU x.toNat)).toList == (Ty.S (Ty.encU y.toNat)).toList) = false ∧ ¬ y ≤ x ∧ ¬ ((Ty.S (Ty.encU x.toNat)).size : Int) < ((Ty.S (Ty.encU y.toNat)).size : Int) ∧ (((Ty.S (Ty.encU x.toNat)).size : Int) == ((Ty.S (Ty.encU y.toNat)).size : Int)) = true ∧ Op.bytesLess (Ty.S (Ty.encU x.toNat)).toList (Ty.S (Ty.encU y.toNat)).toList = true) := by
  simp only [Ty.size_S, Ty.S_less, Ty.S_beq]
  rcases Int.lt_trichotomy x y with h | h | h
  · right; right
    have ho := Ty.encU_order x.toNat y.toNat ux uy (by omega)
    have e1 : (x == y) = false := by rw [beq_eq_false_iff_ne]; omega
    have e2 : (Ty.encU x.toNat == Ty.encU y.toNat) = false := by rw [beq_eq_false_iff_ne]; exact ho.1
    rcases ho.2 with h1 | ⟨h1, h2⟩
    · left; exact ⟨e1, e2, by omega, by omega⟩
    · right; exact ⟨e1, e2, by omega, by omega, by rw [beq_iff_eq]; omega, h2⟩
  · exact .inl h
  · right; left
    have ho := Ty.encU_order y.toNat x.toNat uy ux (by omega)
    exact ⟨by rw [beq_eq_false_iff_ne]; omega, by rw [beq_eq_false_iff_ne]; exact fun e => ho.1 e.symm, by omega⟩
end Go.Proofs.YtcognkgabdaneaaGreatDoor

namespace Go.Proofs.YtcognkgabdaneaaGreatDoor
open Go.RowKit
theorem Ty.cut_in (cut : Int) (m : Nat) (h : 0 < m) (hm : m ≤ 140737488355328) : 0 ≤ wrap64 ((IntKind.u64.wrap cut).tmod (m : Int)) ∧ wrap64 ((IntKind.u64.wrap cut).tmod (m : Int)) < (m : Int) := by
  have h0 : 0 ≤ IntKind.u64.wrap cut := by rw [IntKind.wrap_u64]; omega
  rw [Int.tmod_eq_emod_of_nonneg h0]
  have h1 := Int.emod_nonneg (IntKind.u64.wrap cut) (show (m : Int) ≠ 0 by omega)
  have h2 := Int.emod_lt_of_pos (IntKind.u64.wrap cut) (show (0 : Int) < m by omega)
  rw [IntWalk.wrap64_in _ (by omega)]
  exact ⟨h1, h2⟩
theorem Ty.extract0 (l : List UInt8) (k : Nat) : (Ty.S l).extract 0 k = Ty.S (l.take k) := by rw [Ty.extract_S, Ty.data_S]; simp
theorem Ty.txt_prefix (s : List UInt8) (hs : Ty.U64 s.length) (k : Nat) (hk : k < (Ty.encU s.length ++ s).length) : Ty.txt ((Ty.encU s.length ++ s).take k) (s.length : Int) = ([], 0, 2) := by
  rw [List.length_append] at hk
  by_cases h : k < (Ty.encU s.length).length
  · rw [List.take_append_of_le_length (by omega)]
    have e := Ty.num_prefix s.length hs k h
    rw [Ty.txt_bad (by rw [e]; decide), e]
  · rw [List.take_append]
    rw [List.take_of_length_le (by omega)]
    have e := Ty.num_encU s.length hs (s.take (k - (Ty.encU s.length).length))
    rw [Ty.txt_short (by rw [e]) (by rw [e]; simp) (by rw [e]; simp only [List.length_append, List.length_take]; omega)]
end Go.Proofs.YtcognkgabdaneaaGreatDoor

namespace Go.Proofs.YtcognkgabdaneaaGreatDoor
open Go.RowKit
theorem Ty.Cur.drew {b : Nat} {w : World} {l : List UInt8} {e : Nat} (h : Ty.Cur b w l e) : Ty.Cur b w.drew l e := h
theorem Ty.Cur.drewN {b : Nat} {w : World} {l : List UInt8} {e : Nat} (h : Ty.Cur b w l e) (n : Nat) : Ty.Cur b (w.drewN n) l e := h
theorem Ty.Tabs.drewN {w : World} (h : Ty.Tabs w) (n : Nat) : Ty.Tabs (w.drewN n) := h.kept (Nat.le_refl _) fun _ _ => rfl
theorem Ty.rdU_of {l : List UInt8} {n sz e : Nat} (h : Ty.num l = (n, sz, e)) : Ty.rdU l 0 = (n, l.drop sz, e) := by unfold Ty.rdU; rw [if_neg (by omega), h]
theorem Ty.rdT_of {l t : List UInt8} {m : Int} {sz e : Nat} (h : Ty.txt l m = (t, sz, e)) : Ty.rdT m l 0 = (t, l.drop sz, e) := by unfold Ty.rdT; rw [if_neg (by omega), h]
theorem Ty.left_is (b : Nat) (l : List UInt8) (er : Nat) (w : World) (k : Int) (hk : k = (l.length : Int)) (h : Ty.Cur b w l er) :
    Calls Tryz.prog 47 #[.pointer (some ⟨b, 0, none⟩)] w fun e w' => e = .returned (.int .i64 k) ∧ w' = w := by
  rw [hk]
  exact Ty.left_c b l er w h
theorem Ty.uintNilN (n : Nat) (hz : Ty.U64 n) (w : World) (hw : Ty.Tabs w) :
    Calls Tryz.prog 19 #[.slice none 0 0, .int .u64 (n : Int)] w (Ty.Fresh w (Ty.encU n)) :=
  Ty.uintNil (n : Int) (by omega) hz w hw
theorem Ty.textNilL (t : List UInt8) (hs : t.length ≤ 140737488351232) (w : World) (hw : Ty.Tabs w) :
    Calls Tryz.prog 115 #[.slice none 0 0, .string (Ty.S t)] w (Ty.Fresh w (Ty.encU t.length ++ t)) :=
  Ty.textNil (Ty.S t) hs w hw
theorem Ty.txt_only (l : List UInt8) (m : Int) (h : (Ty.txt l m).2.2 = 0) : Ty.encU (Ty.txt l m).1.length ++ (Ty.txt l m).1 = l.take (Ty.txt l m).2.1 := by
  unfold Ty.txt at h ⊢
  split at h
  · rename_i h1; exact absurd h h1
  · rename_i h1
    rw [if_neg h1]
    split at h
    · cases h
    · rename_i h2
      rw [if_neg h2]
      split at h
      · cases h
      · rename_i h3
        rw [if_neg h3]
        have e := Ty.encU_num l (by omega)
        have hl : ((l.drop (Ty.num l).2.1).take (Ty.num l).1).length = (Ty.num l).1 := by rw [List.length_take, List.length_drop]; omega
        show Ty.encU ((l.drop (Ty.num l).2.1).take (Ty.num l).1).length ++ _ = l.take ((Ty.num l).2.1 + (Ty.num l).1)
        rw [hl, e.1, List.take_add]
theorem Ty.txt_len (l : List UInt8) (m : Int) : (Ty.txt l m).1.length ≤ l.length := by
  unfold Ty.txt
  repeat' split
  all_goals simp
  all_goals omega
/-- The bytes that a reading went past, as the laws cut them out: their end is m. -/
theorem Ty.past (l x : List UInt8) (sz : Nat) (hz : sz ≤ l.length) (hs : l.length ≤ 140737488351232) (hx : x = l.take sz) : ∃ k m : Int, k = ((l.drop sz).length : Int) ∧ 0 ≤ k ∧ k ≤ ((Ty.S l).size : Int) ∧ IntKind.i64.wrap (((Ty.S l).size : Int) - k) = m ∧ 0 ≤ m ∧ m ≤ ((Ty.S l).size : Int) ∧ ((Ty.S x).toList == ((Ty.S l).extract 0 m.toNat).toList) = true := by
  refine ⟨_, (sz : Int), rfl, by omega, by rw [List.length_drop, Ty.size_S]; omega, ?_, by omega, by rw [Ty.size_S]; omega, ?_⟩
  · rw [IntWalk.i64_in _ (by rw [List.length_drop, Ty.size_S]; omega), List.length_drop, Ty.size_S]; omega
  · rw [Ty.extract0, Ty.S_beq, hx]; simp
end Go.Proofs.YtcognkgabdaneaaGreatDoor

namespace Go.Proofs.YtcognkgabdaneaaGreatDoor
open Go.RowKit
/-- THE REFERENCE'S CURSOR in block r: the bytes, where it stands, the first error. -/
def Ty.RC (r : Nat) (w : World) (s : ByteArray) (at_ er : Nat) : Prop := w.heap[r]? = some (.cells #[.string s, .int .i64 (at_ : Int), .int .i64 (er : Int)] 63 (0, 0))
theorem Ty.RC.cells {r : Nat} {w : World} {s : ByteArray} {a e : Nat} (h : Ty.RC r w s a e) : w.cell? ⟨r, 0, none⟩ = some (.string s) ∧ w.cell? ⟨r, 1, none⟩ = some (.int .i64 (a : Int)) ∧ w.cell? ⟨r, 2, none⟩ = some (.int .i64 (e : Int)) ∧ w.frozen? ⟨r, 1, none⟩ = false ∧ w.frozen? ⟨r, 2, none⟩ = false := by
  unfold Ty.RC at h
  refine ⟨?_, ?_, ?_, ?_, ?_⟩ <;> simp [World.cell?, World.frozen?, h]
theorem Ty.RC.lt {r : Nat} {w : World} {s : ByteArray} {a e : Nat} (h : Ty.RC r w s a e) : r < w.heap.size := lt_of_block h
theorem Ty.RC.below {r : Nat} {w w' : World} {s : ByteArray} {a e : Nat} (h : Ty.RC r w s a e) {B : Nat} (hb : Below B w w') (hr : r < B) : Ty.RC r w' s a e := by
  unfold Ty.RC at h ⊢
  rw [hb.block r hr]
  exact h
theorem Ty.RC.drewN {r : Nat} {w : World} {s : ByteArray} {a e : Nat} (h : Ty.RC r w s a e) (n : Nat) : Ty.RC r (w.drewN n) s a e := h
theorem Ty.rc_set2 {r : Nat} {w : World} {s : ByteArray} {a e e' : Nat} (h : Ty.RC r w s a e) : Ty.RC r (w.setCell ⟨r, 2, none⟩ (.int .i64 (e' : Int))) s a e' := by
  unfold Ty.RC at h ⊢
  have hlt := lt_of_block h
  have h' : w.heap[r] = .cells #[.string s, .int .i64 (a : Int), .int .i64 (e : Int)] 63 (0, 0) := by simpa [Array.getElem?_eq_getElem hlt] using h
  show (w.heap.modify r _)[r]? = _
  rw [Array.getElem?_eq_getElem (by simpa using hlt), Array.getElem_modify_self, h']
  rfl
theorem Ty.rc_set1 {r : Nat} {w : World} {s : ByteArray} {a a' e : Nat} (h : Ty.RC r w s a e) : Ty.RC r (w.setCell ⟨r, 1, none⟩ (.int .i64 (a' : Int))) s a' e := by
  unfold Ty.RC at h ⊢
  have hlt := lt_of_block h
  have h' : w.heap[r] = .cells #[.string s, .int .i64 (a : Int), .int .i64 (e : Int)] 63 (0, 0) := by simpa [Array.getElem?_eq_getElem hlt] using h
  show (w.heap.modify r _)[r]? = _
  rw [Array.getElem?_eq_getElem (by simpa using hlt), Array.getElem_modify_self, h']
  rfl
set_option maxHeartbeats 400000 in
theorem Ty.size_c (b : Nat) (f : Nat) (hf : b / 64 = f) (hb : b < 256) (w : World) :
    Calls Tryz.prog 72 #[.int .u8 (b : Int)] w fun e w' => e = .returned (.int .i64 (1 + Ty.after f : Nat)) ∧ w' = w := by
  have hc : ((b : Int) < 64 ∧ f = 0) ∨ (¬ (b : Int) < 64 ∧ (b : Int) < 128 ∧ f = 1) ∨ (¬ (b : Int) < 64 ∧ ¬ (b : Int) < 128 ∧ (b : Int) < 192 ∧ f = 2) ∨ (¬ (b : Int) < 64 ∧ ¬ (b : Int) < 128 ∧ ¬ (b : Int) < 192 ∧ f = 3) := by omega
  clear hf
  rcases hc with ⟨h1, rfl⟩ | ⟨h1, h2, rfl⟩ | ⟨h1, h2, h3, rfl⟩ | ⟨h1, h2, h3, rfl⟩
  all_goals
    go_enter Tryz.func72, Tryz.ntmps72
    go_wp2
    go_ret
    exact ⟨rfl, rfl⟩
set_option maxHeartbeats 400000 in
theorem Ty.rleft_c (r : Nat) (s : ByteArray) (a er : Nat) (ha : a ≤ s.size) (hs : s.size ≤ 140737488351232) (w : World) (h : Ty.RC r w s a er) :
    Calls Tryz.prog 32 #[.pointer (some ⟨r, 0, none⟩)] w fun e w' => e = .returned (.int .i64 ((s.size - a : Nat) : Int)) ∧ ∃ n, w' = w.drewN n := by
  obtain ⟨c0, c1, c2, _, _⟩ := h.cells
  go_enter Tryz.func32, Tryz.ntmps32
  go_wp2
  go_quiet (fail)
  go_wp2
  go_ret
  exact ⟨Ty.ret_i (by omega), _, rfl⟩
set_option maxHeartbeats 400000 in
theorem Ty.fail_c (r : Nat) (s : ByteArray) (a e' : Nat) (w : World) (h : Ty.RC r w s a 0) :
    Calls Tryz.prog 53 #[.pointer (some ⟨r, 0, none⟩), .int .i64 (e' : Int)] w fun e w' => e = .returned (.tuple #[]) ∧ Ty.RC r w' s a e' ∧ w.grownBy w' (some r) := by
  obtain ⟨c0, c1, c2, f1, f2⟩ := h.cells
  go_enter Tryz.func53, Tryz.ntmps53
  go_wp2
  go_end0
  exact ⟨rfl, Ty.rc_set2 h, Ty.by_set _ _ _ _⟩
end Go.Proofs.YtcognkgabdaneaaGreatDoor

namespace Go.Proofs.YtcognkgabdaneaaGreatDoor
open Go.RowKit
theorem Ty.by_drewN (w : World) (n : Nat) (r : Option Nat) : w.grownBy (w.drewN n) r := ⟨rfl, rfl, rfl, Nat.le_refl _, fun _ _ _ => rfl⟩
theorem Ty.by_then {w w' : World} {r : Option Nat} (h : w.grownBy w' r) (n : Nat) : w.grownBy (w'.drewN n) r := Ty.by_trans h (Ty.by_drewN w' n r)
theorem Ty.by_below {w w' : World} (h : Below w.heap.size w w') : w.grownBy w' none := ⟨h.os, h.tape, h.output, h.size, fun k hk _ => h.block k hk⟩
/-- The same, of a world of which nothing else is said. -/
theorem Ty.rleft_o (r : Nat) (s : ByteArray) (a er : Nat) (ha : a ≤ s.size) (hs : s.size ≤ 140737488351232) (w : World) (h : Ty.RC r w s a er) :
    Calls Tryz.prog 32 #[.pointer (some ⟨r, 0, none⟩)] w fun e w' => e = .returned (.int .i64 ((s.size - a : Nat) : Int)) ∧ Ty.RC r w' s a er ∧ w.grownBy w' none :=
  (Ty.rleft_c r s a er ha hs w h).mono fun e w' ⟨he, n, hw⟩ => by subst hw; exact ⟨he, h, Ty.by_drewN w n none⟩
theorem Ty.at_drop (s : ByteArray) (a k : Nat) (h : a + k < s.size) : s[a + k] = (s.data.toList.drop a).getD k 0 := by
  rw [Ty.at_getD s (a + k) h, List.getD, List.getD, List.getElem?_drop]
theorem Ty.len_drop (s : ByteArray) (a : Nat) : (s.data.toList.drop a).length = s.size - a := by rw [List.length_drop, Ty.length_data]
theorem Ty.rstep (l : List UInt8) (b : UInt8) (k : Nat) (hk : 1 ≤ k) (hp : Ty.pv l k < 72057594037927936) (hb : b = l.getD k 0) :
    IntKind.u64.wrap (IntKind.u64.wrap (256 * (Ty.pv l k : Int)) + IntKind.u64.wrap (b.toNat : Int)) = (Ty.pv l (k + 1) : Int) := by
  have h2 := b.toNat_lt
  rw [Ty.wrapu64 (256 * (Ty.pv l k : Int)) (by omega) (by omega), Ty.wrapu64 (b.toNat : Int) (by omega) (by omega), Ty.wrapu64 _ (by omega) (by omega), Ty.pv_succ l k hk, ← hb]
  omega
theorem Ty.len_small (n f : Nat) (hf : f ≤ 3) (h : n < Ty.small f) : (Ty.encU n).length ≠ 1 + Ty.after f := by
  rw [Ty.encU_length]
  have hb := Ty.form_is n
  rcases (by omega : f = 0 ∨ f = 1 ∨ f = 2 ∨ f = 3) with rfl | rfl | rfl | rfl
  · simp [Ty.small] at h
  · simp only [Ty.small] at h
    rw [show Ty.form n = 0 by omega]; decide
  · simp only [Ty.small] at h
    rcases (by omega : Ty.form n = 0 ∨ Ty.form n = 1) with e | e <;> rw [e] <;> decide
  · simp only [Ty.small] at h
    rcases (by omega : Ty.form n = 0 ∨ Ty.form n = 1 ∨ Ty.form n = 2) with e | e | e <;> rw [e] <;> decide
/-- What peek leaves. -/
def Ty.Peeked (r : Nat) (s : ByteArray) (a er : Nat) (w : World) (e : Ending) (w' : World) : Prop := e = .returned (Ty.numV (s.data.toList.drop a)) ∧ Ty.RC r w' s a er ∧ w.grownBy w' none
set_option maxHeartbeats 1000000 in
theorem Ty.peek_end (r : Nat) (s : ByteArray) (a er : Nat) (ha : a = s.size) (hs : s.size ≤ 140737488351232) (w : World) (h : Ty.RC r w s a er) :
    Calls Tryz.prog 52 #[.pointer (some ⟨r, 0, none⟩)] w (Ty.Peeked r s a er w) := by
  have HN : Hid (Ty.num (s.data.toList.drop a) = (0, 0, 2)) := Lib.hid (by rw [List.drop_of_length_le (by rw [Ty.length_data]; omega)]; rfl)
  have hz : ((s.size - a : Nat) : Int) < 1 := by omega
  have hle : a ≤ s.size := by omega
  clear ha
  go_enter Tryz.func52, Tryz.ntmps52
  go_wp2_with fail
  refine (Ty.rleft_o r s a er hle hs _ h).mono ?_
  rintro e w1 ⟨rfl, hR1, g1⟩
  go_wp2
  go_ret3
  exact ⟨by unfold Ty.numV; rw [HN.out]; rfl, hR1, g1⟩
set_option maxHeartbeats 1000000 in
theorem Ty.peek_high (r : Nat) (s : ByteArray) (a er : Nat) (ha : a < s.size) (hs : s.size ≤ 140737488351232) (h1 : 192 < s[a].toNat) (w : World) (h : Ty.RC r w s a er) :
    Calls Tryz.prog 52 #[.pointer (some ⟨r, 0, none⟩)] w (Ty.Peeked r s a er w) := by
  have e0 := Ty.at_drop s a 0 (by omega)
  have HN : Hid (Ty.num (s.data.toList.drop a) = (0, 0, 5)) := Lib.hid (Ty.num_high (by rw [Ty.len_drop]; omega) (by rw [← e0]; exact h1))
  have hl8 := s[a].toNat_lt
  have HQ : Hid (s[a].toNat / 64 = 3) := Lib.hid (by omega)
  have hpos : (1 : Int) ≤ ((s.size - a : Nat) : Int) := by omega
  have hne : ((s[a].toNat : Int) != 192) = true := by rw [bne_iff_ne]; omega
  have hle : a ≤ s.size := by omega
  clear h1 e0
  go_enter Tryz.func52, Tryz.ntmps52
  go_wp2_with fail
  refine (Ty.rleft_o r s a er hle hs _ h).mono ?_
  rintro e w1 ⟨rfl, hR1, g1⟩
  obtain ⟨c0, c1, c2, _, _⟩ := hR1.cells
  go_wp2_with fail
  go_quiet ((go_at_call 72; exact Calls.quiet_of_same (Ty.size_c _ 3 HQ.out hl8 _)))
  have ea : ((1 + Ty.after 3 : Nat) : Int) = 9 := rfl
  rw [ea]
  go_wp2_with fail
  go_quiet (fail)
  go_wp2
  go_ret3
  exact ⟨by unfold Ty.numV; rw [HN.out]; rfl, by first | exact hR1.drewN _ | exact (hR1.drewN _).drewN _, by first | exact Ty.by_then g1 _ | exact Ty.by_then (Ty.by_then g1 _) _⟩
set_option maxHeartbeats 2000000 in
theorem Ty.peek_0 (r : Nat) (s : ByteArray) (a er : Nat) (ha : a < s.size) (hs : s.size ≤ 140737488351232) (h1 : s[a].toNat ≤ 192) (h2 : s[a].toNat / 64 = 0) (w : World) (h : Ty.RC r w s a er) :
    Calls Tryz.prog 52 #[.pointer (some ⟨r, 0, none⟩)] w (Ty.Peeked r s a er w) := by
  have e0 := Ty.at_drop s a 0 (by omega)
  simp only [Nat.add_zero] at e0
  have H0 : Hid (0 < (s.data.toList.drop a).length) := Lib.hid (by rw [Ty.len_drop]; omega)
  have Hb : Hid (¬ 192 < ((s.data.toList.drop a).getD 0 0).toNat) := Lib.hid (by rw [← e0]; omega)
  have Hf : Hid (((s.data.toList.drop a).getD 0 0).toNat / 64 = 0) := Lib.hid (by rw [← e0]; exact h2)
  have hl8 := s[a].toNat_lt
  have HQ := Lib.hid h2
  have E0 := Lib.hid e0
  have hpos : (1 : Int) ≤ ((s.size - a : Nat) : Int) := by omega
  have hle : a ≤ s.size := by omega
  clear h2 e0 h1
  obtain ⟨PV, HPV⟩ : ∃ f : Nat → Int, Hid (∀ k, f k = (Ty.pv (s.data.toList.drop a) k : Int)) := ⟨fun k => (Ty.pv (s.data.toList.drop a) k : Int), fun _ => rfl⟩
  have Hst : Hid (∀ k, 1 ≤ k → k < 1 → Ty.pv (s.data.toList.drop a) k < 72057594037927936) := Lib.hid fun k p b => Ty.pv_small4 _ k p (by omega)
  by_cases h4 : (1 : Int) ≤ ((s.size - a : Nat) : Int)
  · have Hl : Hid (¬ (s.data.toList.drop a).length < 1 + Ty.after 0) := Lib.hid (by rw [Ty.len_drop]; show ¬ s.size - a < 1; omega)
    go_enter Tryz.func52, Tryz.ntmps52
    go_wp2_with fail
    refine (Ty.rleft_o r s a er hle hs _ h).mono ?_
    rintro e w1 ⟨rfl, hR1, g1⟩
    obtain ⟨c0, c1, c2, _, _⟩ := hR1.cells
    go_wp2_with fail
    go_quiet ((go_at_call 72; exact Calls.quiet_of_same (Ty.size_c _ 0 HQ.out hl8 _)))
    have ea : ((1 + Ty.after 0 : Nat) : Int) = 1 := rfl
    rw [ea]
    go_wp2_with fail
    go_quiet (fail)
    go_wp2_with fail
    refine (Ty.rleft_o r s a er hle hs _ (hR1.drewN _)).mono ?_
    rintro e w2 ⟨rfl, hR2, g2⟩
    clear c0 c1 c2 ea
    obtain ⟨c0, c1, c2, _, _⟩ := hR2.cells
    go_wp2_with fail
    go_quiet (fail)
    have gg : w.grownBy (w2.drewN nq) none := Ty.by_then (Ty.by_trans g1 (Ty.by_trans (Ty.by_drewN _ _ _) g2)) nq
    have hR3 := hR2.drewN nq
    generalize w2.drewN nq = w3 at gg hR3 ⊢
    clear c0 c1 c2 g1 g2 hR1 hR2
    go_wp2_with fail
    go_loopw [6, 7] (fun x i wr => ∃ k : Nat, 1 ≤ k ∧ k ≤ 1 ∧ i = .int .i64 k ∧ x = .int .u64 (PV k) ∧ Ty.RC r wr s a er ∧ w.grownBy wr none) (fun _ i _ => 1 - (intOf i).toNat)
    case atStart => exact ⟨1, by omega, by omega, rfl, by rw [HPV.out]; simp [Ty.pv, E0.out], hR3, gg⟩
    case round =>
    obtain ⟨k, hk1, hk2, rfl, rfl, hR, hg⟩ := hrel
    obtain ⟨c0, c1, c2, _, _⟩ := hR.cells
    by_cases hk : k < 1
    · exact absurd hk (by omega)
    · obtain rfl : k = 1 := by omega
      have HN := Lib.hid (Ty.num_whole H0.out Hb.out Hf.out Hl.out (by show ¬ Ty.pv _ 1 < 0; have := HPV.out 1; omega))
      have hq : (((Ty.S (Ty.encU (Ty.pv (s.data.toList.drop a) 1))).size : Int) != 1) = false := by
        have hfm := Ty.pv_form (s.data.toList.drop a) 0 (by omega) (by intro h3; exact absurd h3 (by omega)) (by show 0 ≤ Ty.pv _ 1; have := HPV.out 1; omega)
        have hen := Ty.encU_length (Ty.pv (s.data.toList.drop a) 1)
        rw [show Ty.pv (s.data.toList.drop a) 1 = Ty.pv (s.data.toList.drop a) (1 + Ty.after 0) from rfl] at hen ⊢
        rw [hfm] at hen
        rw [bne_eq_false_iff_eq, Ty.size_S, hen]
        rfl
      go_wp2_with fail
      rw [HPV.out]
      refine (Ty.ruint_nat _ _).mono ?_
      rintro e w5 ⟨rfl, hb5⟩
      go_wp2
      go_ret3
      exact ⟨by unfold Ty.numV; rw [HN.out]; rfl, hR.below hb5 hR.lt, Ty.by_trans hg (Ty.by_below hb5)⟩
  · exact absurd hpos h4
set_option maxHeartbeats 2000000 in
theorem Ty.peek_1 (r : Nat) (s : ByteArray) (a er : Nat) (ha : a < s.size) (hs : s.size ≤ 140737488351232) (h1 : s[a].toNat ≤ 192) (h2 : s[a].toNat / 64 = 1) (w : World) (h : Ty.RC r w s a er) :
    Calls Tryz.prog 52 #[.pointer (some ⟨r, 0, none⟩)] w (Ty.Peeked r s a er w) := by
  have e0 := Ty.at_drop s a 0 (by omega)
  simp only [Nat.add_zero] at e0
  have H0 : Hid (0 < (s.data.toList.drop a).length) := Lib.hid (by rw [Ty.len_drop]; omega)
  have Hb : Hid (¬ 192 < ((s.data.toList.drop a).getD 0 0).toNat) := Lib.hid (by rw [← e0]; omega)
  have Hf : Hid (((s.data.toList.drop a).getD 0 0).toNat / 64 = 1) := Lib.hid (by rw [← e0]; exact h2)
  have hl8 := s[a].toNat_lt
  have HQ := Lib.hid h2
  have E0 := Lib.hid e0
  have hpos : (1 : Int) ≤ ((s.size - a : Nat) : Int) := by omega
  have hle : a ≤ s.size := by omega
  clear h2 e0 h1
  obtain ⟨PV, HPV⟩ : ∃ f : Nat → Int, Hid (∀ k, f k = (Ty.pv (s.data.toList.drop a) k : Int)) := ⟨fun k => (Ty.pv (s.data.toList.drop a) k : Int), fun _ => rfl⟩
  have Hst : Hid (∀ k, 1 ≤ k → k < 2 → Ty.pv (s.data.toList.drop a) k < 72057594037927936) := Lib.hid fun k p b => Ty.pv_small4 _ k p (by omega)
  by_cases h4 : (2 : Int) ≤ ((s.size - a : Nat) : Int)
  · have Hl : Hid (¬ (s.data.toList.drop a).length < 1 + Ty.after 1) := Lib.hid (by rw [Ty.len_drop]; show ¬ s.size - a < 2; omega)
    go_enter Tryz.func52, Tryz.ntmps52
    go_wp2_with fail
    refine (Ty.rleft_o r s a er hle hs _ h).mono ?_
    rintro e w1 ⟨rfl, hR1, g1⟩
    obtain ⟨c0, c1, c2, _, _⟩ := hR1.cells
    go_wp2_with fail
    go_quiet ((go_at_call 72; exact Calls.quiet_of_same (Ty.size_c _ 1 HQ.out hl8 _)))
    have ea : ((1 + Ty.after 1 : Nat) : Int) = 2 := rfl
    rw [ea]
    go_wp2_with fail
    go_quiet (fail)
    go_wp2_with fail
    refine (Ty.rleft_o r s a er hle hs _ (hR1.drewN _)).mono ?_
    rintro e w2 ⟨rfl, hR2, g2⟩
    clear c0 c1 c2 ea
    obtain ⟨c0, c1, c2, _, _⟩ := hR2.cells
    go_wp2_with fail
    go_quiet (fail)
    have gg : w.grownBy (w2.drewN nq) none := Ty.by_then (Ty.by_trans g1 (Ty.by_trans (Ty.by_drewN _ _ _) g2)) nq
    have hR3 := hR2.drewN nq
    generalize w2.drewN nq = w3 at gg hR3 ⊢
    clear c0 c1 c2 g1 g2 hR1 hR2
    go_wp2_with fail
    go_loopw [6, 7] (fun x i wr => ∃ k : Nat, 1 ≤ k ∧ k ≤ 2 ∧ i = .int .i64 k ∧ x = .int .u64 (PV k) ∧ Ty.RC r wr s a er ∧ w.grownBy wr none) (fun _ i _ => 2 - (intOf i).toNat)
    case atStart => exact ⟨1, by omega, by omega, rfl, by rw [HPV.out]; simp [Ty.pv, E0.out], hR3, gg⟩
    case round =>
    obtain ⟨k, hk1, hk2, rfl, rfl, hR, hg⟩ := hrel
    obtain ⟨c0, c1, c2, _, _⟩ := hR.cells
    by_cases hk : k < 2
    · have hks : a + k < s.size := by omega
      have e1 : IntKind.i64.wrap ((a : Int) + (k : Int)) = (a : Int) + (k : Int) := IntWalk.i64_in _ (by omega)
      have e2 : 0 ≤ (a : Int) + (k : Int) := by omega
      have e3 : ((a : Int) + (k : Int)).toNat = a + k := by omega
      have e4 : (a : Int) + (k : Int) < (s.size : Int) := by omega
      have hix : ∀ wx : World, (Instr.index 9 (.string s) (.int .i64 ((a : Int) + (k : Int)))).run Tryz.prog wx = .ok (.int .u8 (s[a + k].toNat : Int)) wx := fun wx => by
        simp [go_sem, Tryz.underlying9, e2, e3, e4]
      clear e2 e3 e4
      go_wp2_with fail
      go_quiet (fail)
      go_wp2_with fail
      go_roundw
      case rel => exact ⟨k + 1, by omega, by omega, by simp, by rw [HPV.out, HPV.out]; exact congrArg (Value.int .u64) (Ty.rstep _ _ k hk1 (Hst.out k hk1 hk) (Ty.at_drop s a k hks)), hR.drewN _, Ty.by_then hg _⟩
      case measure => simp [intOf]; omega
    · obtain rfl : k = 2 := by omega
      by_cases h5 : PV 2 < 64
      · have HN := Lib.hid (Ty.num_less H0.out Hb.out Hf.out Hl.out (by show Ty.pv _ 2 < 64; have := HPV.out 2; omega))
        have hq : (((Ty.S (Ty.encU (Ty.pv (s.data.toList.drop a) 2))).size : Int) != 2) = true := by
          have := Ty.len_small (Ty.pv (s.data.toList.drop a) 2) 1 (by omega) (by show _ < 64; have := HPV.out 2; omega)
          rw [bne_iff_ne, Ty.size_S]
          intro e
          exact this (by simp only [Ty.after]; omega)
        clear h5
        go_wp2_with fail
        rw [HPV.out]
        refine (Ty.ruint_nat _ _).mono ?_
        rintro e w5 ⟨rfl, hb5⟩
        go_wp2
        go_ret3
        exact ⟨by unfold Ty.numV; rw [HN.out]; rfl, hR.below hb5 hR.lt, Ty.by_trans hg (Ty.by_below hb5)⟩
      · have HN := Lib.hid (Ty.num_whole H0.out Hb.out Hf.out Hl.out (by show ¬ Ty.pv _ 2 < 64; have := HPV.out 2; omega))
        have hq : (((Ty.S (Ty.encU (Ty.pv (s.data.toList.drop a) 2))).size : Int) != 2) = false := by
          have hfm := Ty.pv_form (s.data.toList.drop a) 1 (by omega) (by intro h3; exact absurd h3 (by omega)) (by show 64 ≤ Ty.pv _ 2; have := HPV.out 2; omega)
          have hen := Ty.encU_length (Ty.pv (s.data.toList.drop a) 2)
          rw [show Ty.pv (s.data.toList.drop a) 2 = Ty.pv (s.data.toList.drop a) (1 + Ty.after 1) from rfl] at hen ⊢
          rw [hfm] at hen
          rw [bne_eq_false_iff_eq, Ty.size_S, hen]
          rfl
        clear h5
        go_wp2_with fail
        rw [HPV.out]
        refine (Ty.ruint_nat _ _).mono ?_
        rintro e w5 ⟨rfl, hb5⟩
        go_wp2
        go_ret3
        exact ⟨by unfold Ty.numV; rw [HN.out]; rfl, hR.below hb5 hR.lt, Ty.by_trans hg (Ty.by_below hb5)⟩
  · have HN := Lib.hid (Ty.num_cut H0.out Hb.out Hf.out (by rw [Ty.len_drop]; show s.size - a < 2; omega))
    go_enter Tryz.func52, Tryz.ntmps52
    go_wp2_with fail
    refine (Ty.rleft_o r s a er hle hs _ h).mono ?_
    rintro e w1 ⟨rfl, hR1, g1⟩
    obtain ⟨c0, c1, c2, _, _⟩ := hR1.cells
    go_wp2_with fail
    go_quiet ((go_at_call 72; exact Calls.quiet_of_same (Ty.size_c _ 1 HQ.out hl8 _)))
    have ea : ((1 + Ty.after 1 : Nat) : Int) = 2 := rfl
    rw [ea]
    go_wp2_with fail
    go_quiet (fail)
    go_wp2_with fail
    refine (Ty.rleft_o r s a er hle hs _ (hR1.drewN _)).mono ?_
    rintro e w2 ⟨rfl, hR2, g2⟩
    go_wp2
    go_ret3
    exact ⟨by unfold Ty.numV; rw [HN.out]; rfl, hR2, Ty.by_trans g1 (Ty.by_trans (Ty.by_drewN _ _ _) g2)⟩
set_option maxHeartbeats 2000000 in
theorem Ty.peek_2 (r : Nat) (s : ByteArray) (a er : Nat) (ha : a < s.size) (hs : s.size ≤ 140737488351232) (h1 : s[a].toNat ≤ 192) (h2 : s[a].toNat / 64 = 2) (w : World) (h : Ty.RC r w s a er) :
    Calls Tryz.prog 52 #[.pointer (some ⟨r, 0, none⟩)] w (Ty.Peeked r s a er w) := by
  have e0 := Ty.at_drop s a 0 (by omega)
  simp only [Nat.add_zero] at e0
  have H0 : Hid (0 < (s.data.toList.drop a).length) := Lib.hid (by rw [Ty.len_drop]; omega)
  have Hb : Hid (¬ 192 < ((s.data.toList.drop a).getD 0 0).toNat) := Lib.hid (by rw [← e0]; omega)
  have Hf : Hid (((s.data.toList.drop a).getD 0 0).toNat / 64 = 2) := Lib.hid (by rw [← e0]; exact h2)
  have hl8 := s[a].toNat_lt
  have HQ := Lib.hid h2
  have E0 := Lib.hid e0
  have hpos : (1 : Int) ≤ ((s.size - a : Nat) : Int) := by omega
  have hle : a ≤ s.size := by omega
  clear h2 e0 h1
  obtain ⟨PV, HPV⟩ : ∃ f : Nat → Int, Hid (∀ k, f k = (Ty.pv (s.data.toList.drop a) k : Int)) := ⟨fun k => (Ty.pv (s.data.toList.drop a) k : Int), fun _ => rfl⟩
  have Hst : Hid (∀ k, 1 ≤ k → k < 4 → Ty.pv (s.data.toList.drop a) k < 72057594037927936) := Lib.hid fun k p b => Ty.pv_small4 _ k p (by omega)
  by_cases h4 : (4 : Int) ≤ ((s.size - a : Nat) : Int)
  · have Hl : Hid (¬ (s.data.toList.drop a).length < 1 + Ty.after 2) := Lib.hid (by rw [Ty.len_drop]; show ¬ s.size - a < 4; omega)
    go_enter Tryz.func52, Tryz.ntmps52
    go_wp2_with fail
    refine (Ty.rleft_o r s a er hle hs _ h).mono ?_
    rintro e w1 ⟨rfl, hR1, g1⟩
    obtain ⟨c0, c1, c2, _, _⟩ := hR1.cells
    go_wp2_with fail
    go_quiet ((go_at_call 72; exact Calls.quiet_of_same (Ty.size_c _ 2 HQ.out hl8 _)))
    have ea : ((1 + Ty.after 2 : Nat) : Int) = 4 := rfl
    rw [ea]
    go_wp2_with fail
    go_quiet (fail)
    go_wp2_with fail
    refine (Ty.rleft_o r s a er hle hs _ (hR1.drewN _)).mono ?_
    rintro e w2 ⟨rfl, hR2, g2⟩
    clear c0 c1 c2 ea
    obtain ⟨c0, c1, c2, _, _⟩ := hR2.cells
    go_wp2_with fail
    go_quiet (fail)
    have gg : w.grownBy (w2.drewN nq) none := Ty.by_then (Ty.by_trans g1 (Ty.by_trans (Ty.by_drewN _ _ _) g2)) nq
    have hR3 := hR2.drewN nq
    generalize w2.drewN nq = w3 at gg hR3 ⊢
    clear c0 c1 c2 g1 g2 hR1 hR2
    go_wp2_with fail
    go_loopw [6, 7] (fun x i wr => ∃ k : Nat, 1 ≤ k ∧ k ≤ 4 ∧ i = .int .i64 k ∧ x = .int .u64 (PV k) ∧ Ty.RC r wr s a er ∧ w.grownBy wr none) (fun _ i _ => 4 - (intOf i).toNat)
    case atStart => exact ⟨1, by omega, by omega, rfl, by rw [HPV.out]; simp [Ty.pv, E0.out], hR3, gg⟩
    case round =>
    obtain ⟨k, hk1, hk2, rfl, rfl, hR, hg⟩ := hrel
    obtain ⟨c0, c1, c2, _, _⟩ := hR.cells
    by_cases hk : k < 4
    · have hks : a + k < s.size := by omega
      have e1 : IntKind.i64.wrap ((a : Int) + (k : Int)) = (a : Int) + (k : Int) := IntWalk.i64_in _ (by omega)
      have e2 : 0 ≤ (a : Int) + (k : Int) := by omega
      have e3 : ((a : Int) + (k : Int)).toNat = a + k := by omega
      have e4 : (a : Int) + (k : Int) < (s.size : Int) := by omega
      have hix : ∀ wx : World, (Instr.index 9 (.string s) (.int .i64 ((a : Int) + (k : Int)))).run Tryz.prog wx = .ok (.int .u8 (s[a + k].toNat : Int)) wx := fun wx => by
        simp [go_sem, Tryz.underlying9, e2, e3, e4]
      clear e2 e3 e4
      go_wp2_with fail
      go_quiet (fail)
      go_wp2_with fail
      go_roundw
      case rel => exact ⟨k + 1, by omega, by omega, by simp, by rw [HPV.out, HPV.out]; exact congrArg (Value.int .u64) (Ty.rstep _ _ k hk1 (Hst.out k hk1 hk) (Ty.at_drop s a k hks)), hR.drewN _, Ty.by_then hg _⟩
      case measure => simp [intOf]; omega
    · obtain rfl : k = 4 := by omega
      by_cases h5 : PV 4 < 16384
      · have HN := Lib.hid (Ty.num_less H0.out Hb.out Hf.out Hl.out (by show Ty.pv _ 4 < 16384; have := HPV.out 4; omega))
        have hq : (((Ty.S (Ty.encU (Ty.pv (s.data.toList.drop a) 4))).size : Int) != 4) = true := by
          have := Ty.len_small (Ty.pv (s.data.toList.drop a) 4) 2 (by omega) (by show _ < 16384; have := HPV.out 4; omega)
          rw [bne_iff_ne, Ty.size_S]
          intro e
          exact this (by simp only [Ty.after]; omega)
        clear h5
        go_wp2_with fail
        rw [HPV.out]
        refine (Ty.ruint_nat _ _).mono ?_
        rintro e w5 ⟨rfl, hb5⟩
        go_wp2
        go_ret3
        exact ⟨by unfold Ty.numV; rw [HN.out]; rfl, hR.below hb5 hR.lt, Ty.by_trans hg (Ty.by_below hb5)⟩
      · have HN := Lib.hid (Ty.num_whole H0.out Hb.out Hf.out Hl.out (by show ¬ Ty.pv _ 4 < 16384; have := HPV.out 4; omega))
        have hq : (((Ty.S (Ty.encU (Ty.pv (s.data.toList.drop a) 4))).size : Int) != 4) = false := by
          have hfm := Ty.pv_form (s.data.toList.drop a) 2 (by omega) (by intro h3; exact absurd h3 (by omega)) (by show 16384 ≤ Ty.pv _ 4; have := HPV.out 4; omega)
          have hen := Ty.encU_length (Ty.pv (s.data.toList.drop a) 4)
          rw [show Ty.pv (s.data.toList.drop a) 4 = Ty.pv (s.data.toList.drop a) (1 + Ty.after 2) from rfl] at hen ⊢
          rw [hfm] at hen
          rw [bne_eq_false_iff_eq, Ty.size_S, hen]
          rfl
        clear h5
        go_wp2_with fail
        rw [HPV.out]
        refine (Ty.ruint_nat _ _).mono ?_
        rintro e w5 ⟨rfl, hb5⟩
        go_wp2
        go_ret3
        exact ⟨by unfold Ty.numV; rw [HN.out]; rfl, hR.below hb5 hR.lt, Ty.by_trans hg (Ty.by_below hb5)⟩
  · have HN := Lib.hid (Ty.num_cut H0.out Hb.out Hf.out (by rw [Ty.len_drop]; show s.size - a < 4; omega))
    go_enter Tryz.func52, Tryz.ntmps52
    go_wp2_with fail
    refine (Ty.rleft_o r s a er hle hs _ h).mono ?_
    rintro e w1 ⟨rfl, hR1, g1⟩
    obtain ⟨c0, c1, c2, _, _⟩ := hR1.cells
    go_wp2_with fail
    go_quiet ((go_at_call 72; exact Calls.quiet_of_same (Ty.size_c _ 2 HQ.out hl8 _)))
    have ea : ((1 + Ty.after 2 : Nat) : Int) = 4 := rfl
    rw [ea]
    go_wp2_with fail
    go_quiet (fail)
    go_wp2_with fail
    refine (Ty.rleft_o r s a er hle hs _ (hR1.drewN _)).mono ?_
    rintro e w2 ⟨rfl, hR2, g2⟩
    go_wp2
    go_ret3
    exact ⟨by unfold Ty.numV; rw [HN.out]; rfl, hR2, Ty.by_trans g1 (Ty.by_trans (Ty.by_drewN _ _ _) g2)⟩
set_option maxHeartbeats 2000000 in
theorem Ty.peek_3 (r : Nat) (s : ByteArray) (a er : Nat) (ha : a < s.size) (hs : s.size ≤ 140737488351232) (h1 : s[a].toNat ≤ 192) (h2 : s[a].toNat / 64 = 3) (w : World) (h : Ty.RC r w s a er) :
    Calls Tryz.prog 52 #[.pointer (some ⟨r, 0, none⟩)] w (Ty.Peeked r s a er w) := by
  have e0 := Ty.at_drop s a 0 (by omega)
  simp only [Nat.add_zero] at e0
  have H0 : Hid (0 < (s.data.toList.drop a).length) := Lib.hid (by rw [Ty.len_drop]; omega)
  have Hb : Hid (¬ 192 < ((s.data.toList.drop a).getD 0 0).toNat) := Lib.hid (by rw [← e0]; omega)
  have Hf : Hid (((s.data.toList.drop a).getD 0 0).toNat / 64 = 3) := Lib.hid (by rw [← e0]; exact h2)
  have hl8 := s[a].toNat_lt
  have HQ := Lib.hid h2
  have E0 := Lib.hid e0
  have hpos : (1 : Int) ≤ ((s.size - a : Nat) : Int) := by omega
  have hle : a ≤ s.size := by omega
  have hne : ((s[a].toNat : Int) != 192) = false := by rw [bne_eq_false_iff_eq]; omega
  clear h2 e0 h1
  obtain ⟨PV, HPV⟩ : ∃ f : Nat → Int, Hid (∀ k, f k = (Ty.pv (s.data.toList.drop a) k : Int)) := ⟨fun k => (Ty.pv (s.data.toList.drop a) k : Int), fun _ => rfl⟩
  have Hst : Hid (∀ k, 1 ≤ k → k < 9 → Ty.pv (s.data.toList.drop a) k < 72057594037927936) := Lib.hid fun k p b => Ty.pv_small8 _ (by have := Hb.out; have := Hf.out; omega) k p (by omega)
  by_cases h4 : (9 : Int) ≤ ((s.size - a : Nat) : Int)
  · have Hl : Hid (¬ (s.data.toList.drop a).length < 1 + Ty.after 3) := Lib.hid (by rw [Ty.len_drop]; show ¬ s.size - a < 9; omega)
    go_enter Tryz.func52, Tryz.ntmps52
    go_wp2_with fail
    refine (Ty.rleft_o r s a er hle hs _ h).mono ?_
    rintro e w1 ⟨rfl, hR1, g1⟩
    obtain ⟨c0, c1, c2, _, _⟩ := hR1.cells
    go_wp2_with fail
    go_quiet ((go_at_call 72; exact Calls.quiet_of_same (Ty.size_c _ 3 HQ.out hl8 _)))
    have ea : ((1 + Ty.after 3 : Nat) : Int) = 9 := rfl
    rw [ea]
    go_wp2_with fail
    go_quiet (fail)
    go_wp2_with fail
    refine (Ty.rleft_o r s a er hle hs _ (hR1.drewN _)).mono ?_
    rintro e w2 ⟨rfl, hR2, g2⟩
    clear c0 c1 c2 ea
    obtain ⟨c0, c1, c2, _, _⟩ := hR2.cells
    go_wp2_with fail
    go_quiet (fail)
    have gg : w.grownBy (w2.drewN nq) none := Ty.by_then (Ty.by_trans g1 (Ty.by_trans (Ty.by_drewN _ _ _) g2)) nq
    have hR3 := hR2.drewN nq
    generalize w2.drewN nq = w3 at gg hR3 ⊢
    clear c0 c1 c2 g1 g2 hR1 hR2
    go_wp2_with fail
    go_loopw [6, 7] (fun x i wr => ∃ k : Nat, 1 ≤ k ∧ k ≤ 9 ∧ i = .int .i64 k ∧ x = .int .u64 (PV k) ∧ Ty.RC r wr s a er ∧ w.grownBy wr none) (fun _ i _ => 9 - (intOf i).toNat)
    case atStart => exact ⟨1, by omega, by omega, rfl, by rw [HPV.out]; simp [Ty.pv, E0.out], hR3, gg⟩
    case round =>
    obtain ⟨k, hk1, hk2, rfl, rfl, hR, hg⟩ := hrel
    obtain ⟨c0, c1, c2, _, _⟩ := hR.cells
    by_cases hk : k < 9
    · have hks : a + k < s.size := by omega
      have e1 : IntKind.i64.wrap ((a : Int) + (k : Int)) = (a : Int) + (k : Int) := IntWalk.i64_in _ (by omega)
      have e2 : 0 ≤ (a : Int) + (k : Int) := by omega
      have e3 : ((a : Int) + (k : Int)).toNat = a + k := by omega
      have e4 : (a : Int) + (k : Int) < (s.size : Int) := by omega
      have hix : ∀ wx : World, (Instr.index 9 (.string s) (.int .i64 ((a : Int) + (k : Int)))).run Tryz.prog wx = .ok (.int .u8 (s[a + k].toNat : Int)) wx := fun wx => by
        simp [go_sem, Tryz.underlying9, e2, e3, e4]
      clear e2 e3 e4
      go_wp2_with fail
      go_quiet (fail)
      go_wp2_with fail
      go_roundw
      case rel => exact ⟨k + 1, by omega, by omega, by simp, by rw [HPV.out, HPV.out]; exact congrArg (Value.int .u64) (Ty.rstep _ _ k hk1 (Hst.out k hk1 hk) (Ty.at_drop s a k hks)), hR.drewN _, Ty.by_then hg _⟩
      case measure => simp [intOf]; omega
    · obtain rfl : k = 9 := by omega
      by_cases h5 : PV 9 < 1073741824
      · have HN := Lib.hid (Ty.num_less H0.out Hb.out Hf.out Hl.out (by show Ty.pv _ 9 < 1073741824; have := HPV.out 9; omega))
        have hq : (((Ty.S (Ty.encU (Ty.pv (s.data.toList.drop a) 9))).size : Int) != 9) = true := by
          have := Ty.len_small (Ty.pv (s.data.toList.drop a) 9) 3 (by omega) (by show _ < 1073741824; have := HPV.out 9; omega)
          rw [bne_iff_ne, Ty.size_S]
          intro e
          exact this (by simp only [Ty.after]; omega)
        clear h5
        go_wp2_with fail
        rw [HPV.out]
        refine (Ty.ruint_nat _ _).mono ?_
        rintro e w5 ⟨rfl, hb5⟩
        go_wp2
        go_ret3
        exact ⟨by unfold Ty.numV; rw [HN.out]; rfl, hR.below hb5 hR.lt, Ty.by_trans hg (Ty.by_below hb5)⟩
      · have HN := Lib.hid (Ty.num_whole H0.out Hb.out Hf.out Hl.out (by show ¬ Ty.pv _ 9 < 1073741824; have := HPV.out 9; omega))
        have hq : (((Ty.S (Ty.encU (Ty.pv (s.data.toList.drop a) 9))).size : Int) != 9) = false := by
          have hfm := Ty.pv_form (s.data.toList.drop a) 3 (by omega) (by intro h3; have := Hb.out; have := Hf.out; omega) (by show 1073741824 ≤ Ty.pv _ 9; have := HPV.out 9; omega)
          have hen := Ty.encU_length (Ty.pv (s.data.toList.drop a) 9)
          rw [show Ty.pv (s.data.toList.drop a) 9 = Ty.pv (s.data.toList.drop a) (1 + Ty.after 3) from rfl] at hen ⊢
          rw [hfm] at hen
          rw [bne_eq_false_iff_eq, Ty.size_S, hen]
          rfl
        clear h5
        go_wp2_with fail
        rw [HPV.out]
        refine (Ty.ruint_nat _ _).mono ?_
        rintro e w5 ⟨rfl, hb5⟩
        go_wp2
        go_ret3
        exact ⟨by unfold Ty.numV; rw [HN.out]; rfl, hR.below hb5 hR.lt, Ty.by_trans hg (Ty.by_below hb5)⟩
  · have HN := Lib.hid (Ty.num_cut H0.out Hb.out Hf.out (by rw [Ty.len_drop]; show s.size - a < 9; omega))
    go_enter Tryz.func52, Tryz.ntmps52
    go_wp2_with fail
    refine (Ty.rleft_o r s a er hle hs _ h).mono ?_
    rintro e w1 ⟨rfl, hR1, g1⟩
    obtain ⟨c0, c1, c2, _, _⟩ := hR1.cells
    go_wp2_with fail
    go_quiet ((go_at_call 72; exact Calls.quiet_of_same (Ty.size_c _ 3 HQ.out hl8 _)))
    have ea : ((1 + Ty.after 3 : Nat) : Int) = 9 := rfl
    rw [ea]
    go_wp2_with fail
    go_quiet (fail)
    go_wp2_with fail
    refine (Ty.rleft_o r s a er hle hs _ (hR1.drewN _)).mono ?_
    rintro e w2 ⟨rfl, hR2, g2⟩
    go_wp2
    go_ret3
    exact ⟨by unfold Ty.numV; rw [HN.out]; rfl, hR2, Ty.by_trans g1 (Ty.by_trans (Ty.by_drewN _ _ _) g2)⟩
/-- peek, whatever comes. -/
theorem Ty.peek_c (r : Nat) (s : ByteArray) (a er : Nat) (ha : a ≤ s.size) (hs : s.size ≤ 140737488351232) (w : World) (h : Ty.RC r w s a er) :
    Calls Tryz.prog 52 #[.pointer (some ⟨r, 0, none⟩)] w (Ty.Peeked r s a er w) := by
  rcases Nat.lt_or_eq_of_le ha with hl | he
  · by_cases h1 : s[a].toNat ≤ 192
    · rcases (by omega : s[a].toNat / 64 = 0 ∨ s[a].toNat / 64 = 1 ∨ s[a].toNat / 64 = 2 ∨ s[a].toNat / 64 = 3) with h2 | h2 | h2 | h2
      · exact Ty.peek_0 r s a er hl hs h1 h2 w h
      · exact Ty.peek_1 r s a er hl hs h1 h2 w h
      · exact Ty.peek_2 r s a er hl hs h1 h2 w h
      · exact Ty.peek_3 r s a er hl hs h1 h2 w h
    · exact Ty.peek_high r s a er hl hs (by omega) w h
  · exact Ty.peek_end r s a er he hs w h
end Go.Proofs.YtcognkgabdaneaaGreatDoor

namespace Go.Proofs.YtcognkgabdaneaaGreatDoor
open Go.RowKit
/-- The reference's cursor stands ahead of the bytes l, with the error e. -/
def Ty.RS (r : Nat) (s : ByteArray) (w : World) (l : List UInt8) (e : Nat) : Prop := ∃ a, a ≤ s.size ∧ s.data.toList.drop a = l ∧ Ty.RC r w s a e
def Ty.RLeft (r : Nat) (s : ByteArray) (w : World) (v : Value) (l : List UInt8) (e' : Nat) (e : Ending) (w' : World) : Prop := e = .returned v ∧ Ty.RS r s w' l e' ∧ w.grownBy w' (some r)
theorem Ty.by_some {w w' : World} (h : w.grownBy w' none) (r : Nat) : w.grownBy w' (some r) := ⟨h.os, h.tape, h.output, h.size, fun k hk _ => h.block k hk (by intro e; cases e)⟩
theorem Ty.drop_at (s : ByteArray) (a k : Nat) : s.data.toList.drop (a + k) = (s.data.toList.drop a).drop k := by rw [List.drop_drop]
set_option maxHeartbeats 400000 in
theorem Ty.ruint_m (r : Nat) (s : ByteArray) (hs : s.size ≤ 140737488351232) (l : List UInt8) (er : Nat) (w : World) (h : Ty.RS r s w l er) :
    Calls Tryz.prog 31 #[.pointer (some ⟨r, 0, none⟩)] w (Ty.RLeft r s w (.int .u64 ((Ty.rdU l er).1 : Int)) (Ty.rdU l er).2.1 (Ty.rdU l er).2.2) := by
  obtain ⟨a, ha, hl, hR⟩ := h
  obtain ⟨c0, c1, c2, _, _⟩ := hR.cells
  by_cases he : er = 0
  · subst he
    obtain ⟨n, sz, e1, hn⟩ : ∃ n sz e1, Ty.num l = (n, sz, e1) := ⟨_, _, _, rfl⟩
    have hz : a + sz ≤ s.size := by have := Ty.num_size l; rw [hn, ← hl, Ty.len_drop] at this; simp only at this; omega
    have HE : Hid (e1 ≠ 0 → n = 0 ∧ sz = 0) := Lib.hid (by have := Ty.num_err l; rw [hn] at this; exact this)
    have HR := Lib.hid (Ty.rdU_of hn)
    have HL := Lib.hid hl
    have HN := Lib.hid hn
    rw [HR.out]
    clear hn hl
    go_enter Tryz.func31, Tryz.ntmps31
    go_wp2_with fail
    refine (Ty.peek_c r s a 0 ha hs _ hR).mono ?_
    rintro e w1 ⟨rfl, hR1, g1⟩
    rw [HL.out]
    unfold Ty.numV
    rw [HN.out]
    clear c0 c1 c2
    by_cases h1 : e1 = 0
    · subst h1
      obtain ⟨c0, c1, c2, f1, _⟩ := hR1.cells
      have ew : IntKind.i64.wrap ((a : Int) + (sz : Int)) = ((a + sz : Nat) : Int) := by rw [IntWalk.i64_in _ (by omega)]; omega
      go_wp2
      go_ret
      refine ⟨rfl, ⟨a + sz, hz, by rw [Ty.drop_at, HL.out], ?_⟩, Ty.by_trans (Ty.by_some g1 r) (Ty.by_set _ _ _ _)⟩
      first | exact Ty.rc_set1 hR1 | (have hq := Ty.rc_set1 (a' := a + sz) hR1; simpa using hq)
    · have hne : ((e1 : Int) != 0) = true := by rw [bne_iff_ne]; omega
      have HZ := Lib.hid (HE.out h1)
      clear h1
      go_wp2_with fail
      refine (Ty.fail_c r s a e1 _ hR1).mono ?_
      rintro e w2 ⟨rfl, hR2, g2⟩
      go_wp2
      go_ret
      exact ⟨by rw [HZ.out.1]; rfl, ⟨a, ha, by rw [HZ.out.2]; exact HL.out, hR2⟩, Ty.by_trans (Ty.by_some g1 r) g2⟩
  · have hne : ((er : Int) != 0) = true := by rw [bne_iff_ne]; omega
    have HR : Hid (Ty.rdU l er = (0, l, er)) := Lib.hid (by simp [Ty.rdU, he])
    rw [HR.out]
    clear he
    have HL := Lib.hid hl
    clear hl
    go_enter Tryz.func31, Tryz.ntmps31
    go_wp2
    go_ret
    exact ⟨rfl, ⟨a, ha, HL.out, hR⟩, Ty.by_refl _ _⟩
set_option maxHeartbeats 400000 in
theorem Ty.rint_m (r : Nat) (s : ByteArray) (hs : s.size ≤ 140737488351232) (l : List UInt8) (er : Nat) (w : World) (h : Ty.RS r s w l er) :
    Calls Tryz.prog 77 #[.pointer (some ⟨r, 0, none⟩)] w (Ty.RLeft r s w (.int .i64 (Ty.zag ((Ty.rdU l er).1 : Int))) (Ty.rdU l er).2.1 (Ty.rdU l er).2.2) := by
  have hu := Ty.rdU_u64 l er
  go_enter Tryz.func77, Tryz.ntmps77
  go_wp2_with fail
  refine (Ty.ruint_m r s hs l er _ h).mono ?_
  rintro e w1 ⟨rfl, hS, hg⟩
  go_wp2_with fail
  refine (Ty.open_nat _ _ hu).mono ?_
  rintro e w2 ⟨rfl, rfl⟩
  go_wp2
  go_ret
  exact ⟨rfl, hS, hg⟩
set_option maxHeartbeats 400000 in
theorem Ty.rbyte_m (r : Nat) (s : ByteArray) (hs : s.size ≤ 140737488351232) (l : List UInt8) (er : Nat) (w : World) (h : Ty.RS r s w l er) :
    Calls Tryz.prog 74 #[.pointer (some ⟨r, 0, none⟩)] w (Ty.RLeft r s w (.int .i64 ((Ty.rdB l er).1 : Int)) (Ty.rdB l er).2.1 (Ty.rdB l er).2.2) := by
  obtain ⟨a, ha, hl, hR⟩ := h
  obtain ⟨c0, c1, c2, _, _⟩ := hR.cells
  have HL := Lib.hid hl
  by_cases he : er = 0
  · subst he
    have hll : l.length = s.size - a := by rw [← hl, Ty.len_drop]
    cases l with
    | nil =>
      have hz : ((s.size - a : Nat) : Int) < 1 := by simp at hll; omega
      clear hl hll
      go_enter Tryz.func74, Tryz.ntmps74
      go_wp2_with fail
      refine (Ty.rleft_o r s a 0 ha hs _ hR).mono ?_
      rintro e w1 ⟨rfl, hR1, g1⟩
      go_wp2_with fail
      refine (Ty.fail_c r s a 2 _ hR1).mono ?_
      rintro e w2 ⟨rfl, hR2, g2⟩
      go_wp2
      go_ret
      exact ⟨rfl, ⟨a, ha, HL.out, hR2⟩, Ty.by_trans (Ty.by_some g1 r) g2⟩
    | cons x t =>
      have hlt : a < s.size := by simp at hll; omega
      have hz : ¬ ((s.size - a : Nat) : Int) < 1 := by omega
      have HX : Hid (s[a] = x) := Lib.hid (by have := Ty.at_drop s a 0 (by omega); simp only [Nat.add_zero] at this; rw [this, hl]; rfl)
      have HT : Hid (s.data.toList.drop (a + 1) = t) := Lib.hid (by rw [Ty.drop_at, hl]; rfl)
      have ew : IntKind.i64.wrap ((a : Int) + 1) = (a : Int) + 1 := IntWalk.i64_in _ (by omega)
      have ew2 : IntKind.i64.wrap ((a : Int) + 1 - 1) = (a : Int) := by rw [IntWalk.i64_in _ (by omega)]; omega
      clear hl hll c0 c1 c2
      go_enter Tryz.func74, Tryz.ntmps74
      have q2 := hR.cells.2.2.1
      go_wp2_with fail
      refine (Ty.rleft_o r s a 0 ha hs _ hR).mono ?_
      rintro e w1 ⟨rfl, hR1, g1⟩
      obtain ⟨c0, c1, c2, f1, _⟩ := hR1.cells
      go_wp2_with fail
      have hR2 : Ty.RC r (w1.setCell ⟨r, 1, none⟩ (.int .i64 ((a : Int) + 1))) s (a + 1) 0 := by
        have e : ((a : Int) + 1) = ((a + 1 : Nat) : Int) := by omega
        rw [e]
        exact Ty.rc_set1 hR1
      have g2 := Ty.by_set w1 r 1 (.int .i64 ((a : Int) + 1))
      generalize w1.setCell ⟨r, 1, none⟩ (.int .i64 ((a : Int) + 1)) = w2 at hR2 g2 ⊢
      clear c0 c1 c2 f1 q2
      obtain ⟨c0, c1, _, _, _⟩ := hR2.cells
      have e1 : ((a + 1 : Nat) : Int) = (a : Int) + 1 := by omega
      rw [e1] at c1
      have e2 : (a : Int) < (s.size : Int) := by omega
      clear e1
      go_quiet (fail)
      go_wp2
      go_ret
      exact ⟨Ty.ret_i ((IntWalk.wrap64_in _ (by have := s[a].toNat_lt; omega)).trans (by rw [HX.out]; rfl)), ⟨a + 1, hlt, HT.out, hR2.drewN _⟩, Ty.by_trans (Ty.by_some g1 r) (Ty.by_then g2 _)⟩
  · have hne : ((er : Int) != 0) = true := by rw [bne_iff_ne]; omega
    have HR : Hid (Ty.rdB l er = (0, l, er)) := Lib.hid (by simp [Ty.rdB, he])
    rw [HR.out]
    clear he hl
    go_enter Tryz.func74, Tryz.ntmps74
    go_wp2
    go_ret
    exact ⟨rfl, ⟨a, ha, HL.out, hR⟩, Ty.by_refl _ _⟩
set_option maxHeartbeats 400000 in
theorem Ty.rdone_m (r : Nat) (s : ByteArray) (hs : s.size ≤ 140737488351232) (l : List UInt8) (er : Nat) (w : World) (h : Ty.RS r s w l er) :
    Calls Tryz.prog 78 #[.pointer (some ⟨r, 0, none⟩)] w (Ty.RLeft r s w (.int .i64 (Ty.fin l er : Int)) l er) := by
  obtain ⟨a, ha, hl, hR⟩ := h
  obtain ⟨c0, c1, c2, _, _⟩ := hR.cells
  have hll : l.length = s.size - a := by rw [← hl, Ty.len_drop]
  have HL := Lib.hid hl
  clear hl
  by_cases he : er = 0
  · subst he
    by_cases hl : (0 : Int) < ((s.size - a : Nat) : Int)
    · have HF : Hid (Ty.fin l 0 = 5) := Lib.hid (by unfold Ty.fin; rw [if_pos ⟨rfl, by intro e; subst e; simp at hll; omega⟩])
      clear hll
      go_enter Tryz.func78, Tryz.ntmps78
      go_wp2_with fail
      refine (Ty.rleft_o r s a 0 ha hs _ hR).mono ?_
      rintro e w1 ⟨rfl, hR1, g1⟩
      go_wp2
      go_ret
      exact ⟨by rw [HF.out]; rfl, ⟨a, ha, HL.out, hR1⟩, Ty.by_some g1 r⟩
    · have HF : Hid (Ty.fin l 0 = 0) := Lib.hid (by unfold Ty.fin; rw [if_neg (by rintro ⟨_, h2⟩; exact h2 (List.eq_nil_of_length_eq_zero (by omega)))])
      clear hll
      go_enter Tryz.func78, Tryz.ntmps78
      go_wp2_with fail
      refine (Ty.rleft_o r s a 0 ha hs _ hR).mono ?_
      rintro e w1 ⟨rfl, hR1, g1⟩
      clear c0 c1 c2
      obtain ⟨c0, c1, c2, _, _⟩ := hR1.cells
      go_wp2
      go_ret
      exact ⟨by rw [HF.out]; rfl, ⟨a, ha, HL.out, hR1⟩, Ty.by_some g1 r⟩
  · have hne : ((er : Int) == 0) = false := by rw [beq_eq_false_iff_ne]; omega
    have HF : Hid (Ty.fin l er = er) := Lib.hid (by unfold Ty.fin; rw [if_neg (by rintro ⟨h1, _⟩; exact he h1)])
    clear he hll
    go_enter Tryz.func78, Tryz.ntmps78
    go_wp2
    go_ret
    exact ⟨by rw [HF.out]; rfl, ⟨a, ha, HL.out, hR⟩, Ty.by_refl _ _⟩
theorem Ty.rleft_m (r : Nat) (s : ByteArray) (hs : s.size ≤ 140737488351232) (l : List UInt8) (er : Nat) (w : World) (h : Ty.RS r s w l er) :
    Calls Tryz.prog 32 #[.pointer (some ⟨r, 0, none⟩)] w (Ty.RLeft r s w (.int .i64 (l.length : Int)) l er) := by
  obtain ⟨a, ha, hl, hR⟩ := h
  refine (Ty.rleft_o r s a er ha hs w hR).mono ?_
  rintro e w1 ⟨rfl, hR1, g1⟩
  exact ⟨by rw [← hl, Ty.len_drop], ⟨a, ha, hl, hR1⟩, Ty.by_some g1 r⟩
end Go.Proofs.YtcognkgabdaneaaGreatDoor

namespace Go.Proofs.YtcognkgabdaneaaGreatDoor
open Go.RowKit
set_option maxHeartbeats 1000000 in
theorem Ty.rtext_m (r : Nat) (s : ByteArray) (hs : s.size ≤ 140737488351232) (l : List UInt8) (er : Nat) (most : Int) (hm : -9223372036854775808 ≤ most ∧ most ≤ 9223372036854775807) (w : World) (h : Ty.RS r s w l er) :
    Calls Tryz.prog 106 #[.pointer (some ⟨r, 0, none⟩), .int .i64 most] w (Ty.RLeft r s w (.string (Ty.S (Ty.rdT most l er).1)) (Ty.rdT most l er).2.1 (Ty.rdT most l er).2.2) := by
  obtain ⟨a, ha, hl, hR⟩ := h
  obtain ⟨c0, c1, c2, _, _⟩ := hR.cells
  have HL := Lib.hid hl
  by_cases he : er = 0
  · subst he
    obtain ⟨n, sz, e1, hn⟩ : ∃ n sz e1, Ty.num l = (n, sz, e1) := ⟨_, _, _, rfl⟩
    have hll : l.length = s.size - a := by rw [← hl, Ty.len_drop]
    have hz : a + sz ≤ s.size := by have := Ty.num_size l; rw [hn] at this; simp only at this; omega
    have hz9 : sz ≤ 9 := by have := Ty.num_size9 l; rw [hn] at this; exact this
    have E1 : (Ty.num l).1 = n := by rw [hn]
    have E2 : (Ty.num l).2.1 = sz := by rw [hn]
    have E3 : (Ty.num l).2.2 = e1 := by rw [hn]
    have HN := Lib.hid hn
    obtain ⟨hm1, hm2⟩ := hm
    clear hn hl
    by_cases h1 : e1 = 0
    · subst h1
      by_cases h2 : most < 0 ∨ (¬ most < 0 ∧ most < (n : Int))
      · have HT := Lib.hid (Ty.rdT_of (Ty.txt_long (most := most) E3 (by rw [E1]; omega)))
        rw [HT.out]
        clear E1 E2 E3 hll
        rcases h2 with h2 | ⟨h2, h3⟩
        all_goals
          go_enter Tryz.func106, Tryz.ntmps106
          go_wp2_with fail
          refine (Ty.peek_c r s a 0 ha hs _ hR).mono ?_
          rintro e w1 ⟨rfl, hR1, g1⟩
          rw [HL.out]
          unfold Ty.numV
          rw [HN.out]
          go_wp2_with fail
          refine (Ty.fail_c r s a 3 _ hR1).mono ?_
          rintro e w2 ⟨rfl, hR2, g2⟩
          go_wp2
          go_ret
          exact ⟨rfl, ⟨a, ha, HL.out, hR2⟩, Ty.by_trans (Ty.by_some g1 r) g2⟩
      · have h2a : ¬ most < 0 := by omega
        have h2b : ¬ most < (n : Int) := by omega
        by_cases h3 : ((s.size - a : Nat) : Int) - (sz : Int) < (n : Int)
        · have HT := Lib.hid (Ty.rdT_of (Ty.txt_short (most := most) E3 (by rw [E1]; omega) (by rw [E1, E2, hll]; omega)))
          rw [HT.out]
          have hle : (sz : Int) ≤ ((s.size - a : Nat) : Int) := by omega
          clear E1 E2 E3 hll h2
          go_enter Tryz.func106, Tryz.ntmps106
          go_wp2_with fail
          refine (Ty.peek_c r s a 0 ha hs _ hR).mono ?_
          rintro e w1 ⟨rfl, hR1, g1⟩
          rw [HL.out]
          unfold Ty.numV
          rw [HN.out]
          go_wp2_with fail
          refine (Ty.rleft_o r s a 0 ha hs _ hR1).mono ?_
          rintro e w2 ⟨rfl, hR2, g2⟩
          go_wp2_with fail
          refine (Ty.fail_c r s a 2 _ hR2).mono ?_
          rintro e w3 ⟨rfl, hR3, g3⟩
          go_wp2
          go_ret
          exact ⟨rfl, ⟨a, ha, HL.out, hR3⟩, Ty.by_trans (Ty.by_some g1 r) (Ty.by_trans (Ty.by_some g2 r) g3)⟩
        · have HT := Lib.hid (Ty.rdT_of (Ty.txt_whole (most := most) E3 (by rw [E1]; omega) (by rw [E1, E2, hll]; omega)))
          have hle : (sz : Int) ≤ ((s.size - a : Nat) : Int) := by omega
          have hend : a + sz + n ≤ s.size := by omega
          have w1' : IntKind.i64.wrap ((a : Int) + (sz : Int)) = (a : Int) + (sz : Int) := IntWalk.i64_in _ (by omega)
          have w2' : IntKind.i64.wrap (n : Int) = (n : Int) := IntWalk.i64_in _ (by omega)
          have w3' : IntKind.i64.wrap ((a : Int) + (sz : Int) + (n : Int)) = (a : Int) + (sz : Int) + (n : Int) := IntWalk.i64_in _ (by omega)
          have z1 : 0 ≤ (a : Int) + (sz : Int) := by omega
          have z2 : (a : Int) + (sz : Int) ≤ (a : Int) + (sz : Int) + (n : Int) := by omega
          have z3 : (a : Int) + (sz : Int) + (n : Int) ≤ (s.size : Int) := by omega
          have t1 : ((a : Int) + (sz : Int)).toNat = a + sz := by omega
          have t2 : ((a : Int) + (sz : Int) + (n : Int)).toNat = a + sz + n := by omega
          have F1 := Lib.hid E1
          have F2 := Lib.hid E2
          clear E1 E2 E3 hll h2
          go_enter Tryz.func106, Tryz.ntmps106
          go_wp2_with fail
          refine (Ty.peek_c r s a 0 ha hs _ hR).mono ?_
          rintro e w1 ⟨rfl, hR1, g1⟩
          rw [HL.out]
          unfold Ty.numV
          rw [HN.out]
          go_wp2_with fail
          refine (Ty.rleft_o r s a 0 ha hs _ hR1).mono ?_
          rintro e w2 ⟨rfl, hR2, g2⟩
          clear c0 c1 c2
          obtain ⟨c0, c1, c2, f1, _⟩ := hR2.cells
          go_wp2_with fail
          go_quiet (fail)
          go_wp2
          go_ret
          have ex : s.extract (a + sz) (a + sz + n) = Ty.S ((l.drop sz).take n) := by rw [Ty.extract_S, Ty.drop_at, HL.out, Nat.add_sub_cancel_left]
          have ec : ((a : Int) + ((sz : Int) + (n : Int))) = ((a + (sz + n) : Nat) : Int) := by omega
          rw [HT.out, F1.out, F2.out, ec]
          exact ⟨congrArg (fun x => Ending.returned (.string x)) ex, ⟨a + (sz + n), by omega, by rw [Ty.drop_at, HL.out], Ty.rc_set1 (hR2.drewN nq)⟩, Ty.by_trans (Ty.by_some g1 r) (Ty.by_trans (Ty.by_some g2 r) (Ty.by_trans (Ty.by_drewN _ _ _) (Ty.by_set _ _ _ _)))⟩
    · have hne : ((e1 : Int) != 0) = true := by rw [bne_iff_ne]; omega
      have HT := Lib.hid (Ty.rdT_of (Ty.txt_bad (most := most) (by rw [E3]; exact h1)))
      rw [HT.out]
      have F3 := Lib.hid E3
      clear h1 E1 E2 E3 hll
      go_enter Tryz.func106, Tryz.ntmps106
      go_wp2_with fail
      refine (Ty.peek_c r s a 0 ha hs _ hR).mono ?_
      rintro e w1 ⟨rfl, hR1, g1⟩
      rw [HL.out]
      unfold Ty.numV
      rw [HN.out]
      go_wp2_with fail
      refine (Ty.fail_c r s a e1 _ hR1).mono ?_
      rintro e w2 ⟨rfl, hR2, g2⟩
      go_wp2
      go_ret
      exact ⟨rfl, ⟨a, ha, HL.out, by rw [F3.out]; exact hR2⟩, Ty.by_trans (Ty.by_some g1 r) g2⟩
  · have hne : ((er : Int) != 0) = true := by rw [bne_iff_ne]; omega
    have HR : Hid (Ty.rdT most l er = ([], l, er)) := Lib.hid (by simp [Ty.rdT, he])
    rw [HR.out]
    clear he hl
    go_enter Tryz.func106, Tryz.ntmps106
    go_wp2
    go_ret
    exact ⟨rfl, ⟨a, ha, HL.out, hR⟩, Ty.by_refl _ _⟩
end Go.Proofs.YtcognkgabdaneaaGreatDoor
