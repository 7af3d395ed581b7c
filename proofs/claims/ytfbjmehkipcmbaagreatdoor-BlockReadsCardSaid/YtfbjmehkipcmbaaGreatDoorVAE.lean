/-
  The walk of the law TallyOnly.
  Contracts of the document's answers for tally: the cursor.
  Contracts of the document's answers for tally: what the cursor sees next.
  Contracts of the document's answers for tally: the cursor's methods.
  Contracts of package bits: its small functions; what 'put' does to bytes that a call made.
  Contracts of package bits: 'get', 'check' and the library's Len64.
-/
import Derived.Test.YtfbjmehkipcmbaaGreatDoorVAD
import Derived.Deep.DeepCutAuto
import Derived.Deep.QuietTactic
import Derived.BigQuiet
import Derived.WalkSmall
import Derived.Test.YtfbjmehkipcmbaaGreatDoorRows
import Derived.Test.YtfbjmehkipcmbaaGreatDoorVAB
import Derived.WalkKit
import Derived.WalkSpells
import Derived.WalkLawsBesides
import Derived.Deep.OwnRows
import Derived.Below
import Derived.Lib.Hide
import Derived.StillTailTactics
import Derived.Lib.BitFns
namespace Go.Proofs.YtfbjmehkipcmbaaGreatDoor
open Go.RowKit
theorem Ty.Cur.drew {b : Nat} {w : World} {l : List UInt8} {e : Nat} (h : Ty.Cur b w l e) : Ty.Cur b w.drew l e := h
theorem Ty.Cur.drewN {b : Nat} {w : World} {l : List UInt8} {e : Nat} (h : Ty.Cur b w l e) (n : Nat) : Ty.Cur b (w.drewN n) l e := h
theorem Ty.Tabs.drewN {w : World} (h : Ty.Tabs w) (n : Nat) : Ty.Tabs (w.drewN n) := h.kept (Nat.le_refl _) fun _ _ => rfl
theorem Ty.rdU_of {l : List UInt8} {n sz e : Nat} (h : Ty.num l = (n, sz, e)) : Ty.rdU l 0 = (n, l.drop sz, e) := by unfold Ty.rdU; rw [if_neg (by omega), h]
theorem Ty.rdT_of {l t : List UInt8} {m : Int} {sz e : Nat} (h : Ty.txt l m = (t, sz, e)) : Ty.rdT m l 0 = (t, l.drop sz, e) := by unfold Ty.rdT; rw [if_neg (by omega), h]
theorem Ty.txt_len (l : List UInt8) (m : Int) : (Ty.txt l m).1.length ≤ l.length := by
  unfold Ty.txt
  repeat' split
  all_goals simp
  all_goals omega
end Go.Proofs.YtfbjmehkipcmbaaGreatDoor

namespace Go.Proofs.YtfbjmehkipcmbaaGreatDoor
open Go.RowKit
def Ty.RC (r : Nat) (w : World) (s : ByteArray) (at_ er : Nat) : Prop := w.heap[r]? = some (.cells #[.string s, .int .i64 (at_ : Int), .int .i64 (er : Int)] 68 (0, 0))
theorem Ty.RC.cells {r : Nat} {w : World} {s : ByteArray} {a e : Nat} (h : Ty.RC r w s a e) : w.cell? ⟨r, 0, none⟩ = some (.string s) ∧ w.cell? ⟨r, 1, none⟩ = some (.int .i64 (a : Int)) ∧ w.cell? ⟨r, 2, none⟩ = some (.int .i64 (e : Int)) ∧ w.frozen? ⟨r, 1, none⟩ = false ∧ w.frozen? ⟨r, 2, none⟩ = false := by
  unfold Ty.RC at h
  refine ⟨?_, ?_, ?_, ?_, ?_⟩ <;> simp [World.cell?, World.frozen?, h]
theorem Ty.RC.lt {r : Nat} {w : World} {s : ByteArray} {a e : Nat} (h : Ty.RC r w s a e) : r < w.heap.size := lt_of_block h
theorem Ty.RC.below {r : Nat} {w w' : World} {s : ByteArray} {a e : Nat} (h : Ty.RC r w s a e) {B : Nat} (hb : Below B w w') (hr : r < B) : Ty.RC r w' s a e := by
  unfold Ty.RC at h ⊢
  rw [hb.block r hr]
  exact h
theorem Ty.RC.drewN {r : Nat} {w : World} {s : ByteArray} {a e : Nat} (h : Ty.RC r w s a e) (n : Nat) : Ty.RC r (w.drewN n) s a e := h
theorem Ty.rc_set2 {r : Nat} {w : World} {s : ByteArray} {a e e' : Nat} (h : Ty.RC r w s a e) : Ty.RC r (w.setCell ⟨r, 2, none⟩ (.int .i64 (e' : Int))) s a e' := by
  unfold Ty.RC at h ⊢
  have hlt := lt_of_block h
  have h' : w.heap[r] = .cells #[.string s, .int .i64 (a : Int), .int .i64 (e : Int)] 68 (0, 0) := by simpa [Array.getElem?_eq_getElem hlt] using h
  show (w.heap.modify r _)[r]? = _
  rw [Array.getElem?_eq_getElem (by simpa using hlt), Array.getElem_modify_self, h']
  rfl
theorem Ty.rc_set1 {r : Nat} {w : World} {s : ByteArray} {a a' e : Nat} (h : Ty.RC r w s a e) : Ty.RC r (w.setCell ⟨r, 1, none⟩ (.int .i64 (a' : Int))) s a' e := by
  unfold Ty.RC at h ⊢
  have hlt := lt_of_block h
  have h' : w.heap[r] = .cells #[.string s, .int .i64 (a : Int), .int .i64 (e : Int)] 68 (0, 0) := by simpa [Array.getElem?_eq_getElem hlt] using h
  show (w.heap.modify r _)[r]? = _
  rw [Array.getElem?_eq_getElem (by simpa using hlt), Array.getElem_modify_self, h']
  rfl
set_option maxHeartbeats 400000 in
theorem Ty.size_c (b : Nat) (f : Nat) (hf : b / 64 = f) (hb : b < 256) (w : World) :
    Calls Tryz.prog 90 #[.int .u8 (b : Int)] w fun e w' => e = .returned (.int .i64 (1 + Ty.after f : Nat)) ∧ w' = w := by
  have hc : ((b : Int) < 64 ∧ f = 0) ∨ (¬ (b : Int) < 64 ∧ (b : Int) < 128 ∧ f = 1) ∨ (¬ (b : Int) < 64 ∧ ¬ (b : Int) < 128 ∧ (b : Int) < 192 ∧ f = 2) ∨ (¬ (b : Int) < 64 ∧ ¬ (b : Int) < 128 ∧ ¬ (b : Int) < 192 ∧ f = 3) := by omega
  clear hf
  rcases hc with ⟨h1, rfl⟩ | ⟨h1, h2, rfl⟩ | ⟨h1, h2, h3, rfl⟩ | ⟨h1, h2, h3, rfl⟩
  all_goals
    go_enter Tryz.func90, Tryz.ntmps90
    go_wp2
    go_ret
    exact ⟨rfl, rfl⟩
set_option maxHeartbeats 400000 in
theorem Ty.rleft_c (r : Nat) (s : ByteArray) (a er : Nat) (ha : a ≤ s.size) (hs : s.size ≤ 140737488351232) (w : World) (h : Ty.RC r w s a er) :
    Calls Tryz.prog 69 #[.pointer (some ⟨r, 0, none⟩)] w fun e w' => e = .returned (.int .i64 ((s.size - a : Nat) : Int)) ∧ ∃ n, w' = w.drewN n := by
  obtain ⟨c0, c1, c2, _, _⟩ := h.cells
  go_enter Tryz.func69, Tryz.ntmps69
  go_wp2
  go_quiet (fail)
  go_wp2
  go_ret
  exact ⟨Ty.ret_i (by omega), _, rfl⟩
set_option maxHeartbeats 400000 in
theorem Ty.fail_c (r : Nat) (s : ByteArray) (a e' : Nat) (w : World) (h : Ty.RC r w s a 0) :
    Calls Tryz.prog 68 #[.pointer (some ⟨r, 0, none⟩), .int .i64 (e' : Int)] w fun e w' => e = .returned (.tuple #[]) ∧ Ty.RC r w' s a e' ∧ w.grownBy w' (some r) := by
  obtain ⟨c0, c1, c2, f1, f2⟩ := h.cells
  go_enter Tryz.func68, Tryz.ntmps68
  go_wp2
  go_end0
  exact ⟨rfl, Ty.rc_set2 h, Ty.by_set _ _ _ _⟩
end Go.Proofs.YtfbjmehkipcmbaaGreatDoor

namespace Go.Proofs.YtfbjmehkipcmbaaGreatDoor
open Go.RowKit
theorem Ty.by_drewN (w : World) (n : Nat) (r : Option Nat) : w.grownBy (w.drewN n) r := ⟨rfl, rfl, rfl, Nat.le_refl _, fun _ _ _ => rfl⟩
theorem Ty.by_then {w w' : World} {r : Option Nat} (h : w.grownBy w' r) (n : Nat) : w.grownBy (w'.drewN n) r := Ty.by_trans h (Ty.by_drewN w' n r)
theorem Ty.by_below {w w' : World} (h : Below w.heap.size w w') : w.grownBy w' none := ⟨h.os, h.tape, h.output, h.size, fun k hk _ => h.block k hk⟩
theorem Ty.rleft_o (r : Nat) (s : ByteArray) (a er : Nat) (ha : a ≤ s.size) (hs : s.size ≤ 140737488351232) (w : World) (h : Ty.RC r w s a er) :
    Calls Tryz.prog 69 #[.pointer (some ⟨r, 0, none⟩)] w fun e w' => e = .returned (.int .i64 ((s.size - a : Nat) : Int)) ∧ Ty.RC r w' s a er ∧ w.grownBy w' none :=
  (Ty.rleft_c r s a er ha hs w h).mono fun e w' ⟨he, n, hw⟩ => by subst hw; exact ⟨he, h, Ty.by_drewN w n none⟩
theorem Ty.at_drop (s : ByteArray) (a k : Nat) (h : a + k < s.size) : s[a + k] = (s.data.toList.drop a).getD k 0 := by
  rw [Ty.at_getD s (a + k) h, List.getD, List.getD, List.getElem?_drop]
theorem Ty.len_drop (s : ByteArray) (a : Nat) : (s.data.toList.drop a).length = s.size - a := by rw [List.length_drop, Ty.length_data]
theorem Ty.rstep (l : List UInt8) (b : UInt8) (k : Nat) (hk : 1 ≤ k) (hp : Ty.pv l k < 72057594037927936) (hb : b = l.getD k 0) :
    IntKind.u64.wrap (IntKind.u64.wrap (256 * (Ty.pv l k : Int)) + IntKind.u64.wrap (b.toNat : Int)) = (Ty.pv l (k + 1) : Int) := by
  have h2 := b.toNat_lt
  rw [Ty.wrapu64 (256 * (Ty.pv l k : Int)) (by omega) (by omega), Ty.wrapu64 (b.toNat : Int) (by omega) (by omega), Ty.wrapu64 _ (by omega) (by omega), Ty.pv_succ l k hk, ← hb]
  omega
theorem Ty.len_small (n f : Nat) (hf : f ≤ 3) (h : n < Ty.small f) : (Ty.encU n).length ≠ 1 + Ty.after f := by
  rw [Ty.encU_length]
  have hb := Ty.form_is n
  rcases (by omega : f = 0 ∨ f = 1 ∨ f = 2 ∨ f = 3) with rfl | rfl | rfl | rfl
  · simp [Ty.small] at h
  · simp only [Ty.small] at h
    rw [show Ty.form n = 0 by omega]; decide
  · simp only [Ty.small] at h
    rcases (by omega : Ty.form n = 0 ∨ Ty.form n = 1) with e | e <;> rw [e] <;> decide
  · simp only [Ty.small] at h
    rcases (by omega : Ty.form n = 0 ∨ Ty.form n = 1 ∨ Ty.form n = 2) with e | e | e <;> rw [e] <;> decide
def Ty.Peeked (r : Nat) (s : ByteArray) (a er : Nat) (w : World) (e : Ending) (w' : World) : Prop := e = .returned (Ty.numV (s.data.toList.drop a)) ∧ Ty.RC r w' s a er ∧ w.grownBy w' none
set_option maxHeartbeats 1000000 in
theorem Ty.peek_end (r : Nat) (s : ByteArray) (a er : Nat) (ha : a = s.size) (hs : s.size ≤ 140737488351232) (w : World) (h : Ty.RC r w s a er) :
    Calls Tryz.prog 67 #[.pointer (some ⟨r, 0, none⟩)] w (Ty.Peeked r s a er w) := by
  have HN : Hid (Ty.num (s.data.toList.drop a) = (0, 0, 2)) := Lib.hid (by rw [List.drop_of_length_le (by rw [Ty.length_data]; omega)]; rfl)
  have hz : ((s.size - a : Nat) : Int) < 1 := by omega
  have hle : a ≤ s.size := by omega
  clear ha
  go_enter Tryz.func67, Tryz.ntmps67
  go_wp2_with fail
  refine (Ty.rleft_o r s a er hle hs _ h).mono ?_
  rintro e w1 ⟨rfl, hR1, g1⟩
  go_wp2
  go_ret3
  exact ⟨by unfold Ty.numV; rw [HN.out]; rfl, hR1, g1⟩
set_option maxHeartbeats 1000000 in
theorem Ty.peek_high (r : Nat) (s : ByteArray) (a er : Nat) (ha : a < s.size) (hs : s.size ≤ 140737488351232) (h1 : 192 < s[a].toNat) (w : World) (h : Ty.RC r w s a er) :
    Calls Tryz.prog 67 #[.pointer (some ⟨r, 0, none⟩)] w (Ty.Peeked r s a er w) := by
  have e0 := Ty.at_drop s a 0 (by omega)
  have HN : Hid (Ty.num (s.data.toList.drop a) = (0, 0, 5)) := Lib.hid (Ty.num_high (by rw [Ty.len_drop]; omega) (by rw [← e0]; exact h1))
  have hl8 := s[a].toNat_lt
  have HQ : Hid (s[a].toNat / 64 = 3) := Lib.hid (by omega)
  have hpos : (1 : Int) ≤ ((s.size - a : Nat) : Int) := by omega
  have hne : ((s[a].toNat : Int) != 192) = true := by rw [bne_iff_ne]; omega
  have hle : a ≤ s.size := by omega
  clear h1 e0
  go_enter Tryz.func67, Tryz.ntmps67
  go_wp2_with fail
  refine (Ty.rleft_o r s a er hle hs _ h).mono ?_
  rintro e w1 ⟨rfl, hR1, g1⟩
  obtain ⟨c0, c1, c2, _, _⟩ := hR1.cells
  go_wp2_with fail
  go_quiet ((go_at_call 90; exact Calls.quiet_of_same (Ty.size_c _ 3 HQ.out hl8 _)))
  have ea : ((1 + Ty.after 3 : Nat) : Int) = 9 := rfl
  rw [ea]
  go_wp2_with fail
  go_quiet (fail)
  go_wp2
  go_ret3
  exact ⟨by unfold Ty.numV; rw [HN.out]; rfl, by first | exact hR1.drewN _ | exact (hR1.drewN _).drewN _, by first | exact Ty.by_then g1 _ | exact Ty.by_then (Ty.by_then g1 _) _⟩
set_option maxHeartbeats 2000000 in
theorem Ty.peek_0 (r : Nat) (s : ByteArray) (a er : Nat) (ha : a < s.size) (hs : s.size ≤ 140737488351232) (h1 : s[a].toNat ≤ 192) (h2 : s[a].toNat / 64 = 0) (w : World) (h : Ty.RC r w s a er) :
    Calls Tryz.prog 67 #[.pointer (some ⟨r, 0, none⟩)] w (Ty.Peeked r s a er w) := by
  have e0 := Ty.at_drop s a 0 (by omega)
  simp only [Nat.add_zero] at e0
  have H0 : Hid (0 < (s.data.toList.drop a).length) := Lib.hid (by rw [Ty.len_drop]; omega)
  have Hb : Hid (¬ 192 < ((s.data.toList.drop a).getD 0 0).toNat) := Lib.hid (by rw [← e0]; omega)
  have Hf : Hid (((s.data.toList.drop a).getD 0 0).toNat / 64 = 0) := Lib.hid (by rw [← e0]; exact h2)
  have hl8 := s[a].toNat_lt
  have HQ := Lib.hid h2
  have E0 := Lib.hid e0
  have hpos : (1 : Int) ≤ ((s.size - a : Nat) : Int) := by omega
  have hle : a ≤ s.size := by omega
  clear h2 e0 h1
  obtain ⟨PV, HPV⟩ : ∃ f : Nat → Int, Hid (∀ k, f k = (Ty.pv (s.data.toList.drop a) k : Int)) := ⟨fun k => (Ty.pv (s.data.toList.drop a) k : Int), fun _ => rfl⟩
  have Hst : Hid (∀ k, 1 ≤ k → k < 1 → Ty.pv (s.data.toList.drop a) k < 72057594037927936) := Lib.hid fun k p b => Ty.pv_small4 _ k p (by omega)
  by_cases h4 : (1 : Int) ≤ ((s.size - a : Nat) : Int)
  · have Hl : Hid (¬ (s.data.toList.drop a).length < 1 + Ty.after 0) := Lib.hid (by rw [Ty.len_drop]; show ¬ s.size - a < 1; omega)
    go_enter Tryz.func67, Tryz.ntmps67
    go_wp2_with fail
    refine (Ty.rleft_o r s a er hle hs _ h).mono ?_
    rintro e w1 ⟨rfl, hR1, g1⟩
    obtain ⟨c0, c1, c2, _, _⟩ := hR1.cells
    go_wp2_with fail
    go_quiet ((go_at_call 90; exact Calls.quiet_of_same (Ty.size_c _ 0 HQ.out hl8 _)))
    have ea : ((1 + Ty.after 0 : Nat) : Int) = 1 := rfl
    rw [ea]
    go_wp2_with fail
    go_quiet (fail)
    go_wp2_with fail
    refine (Ty.rleft_o r s a er hle hs _ (hR1.drewN _)).mono ?_
    rintro e w2 ⟨rfl, hR2, g2⟩
    clear c0 c1 c2 ea
    obtain ⟨c0, c1, c2, _, _⟩ := hR2.cells
    go_wp2_with fail
    go_quiet (fail)
    have gg : w.grownBy (w2.drewN nq) none := Ty.by_then (Ty.by_trans g1 (Ty.by_trans (Ty.by_drewN _ _ _) g2)) nq
    have hR3 := hR2.drewN nq
    generalize w2.drewN nq = w3 at gg hR3 ⊢
    clear c0 c1 c2 g1 g2 hR1 hR2
    go_wp2_with fail
    go_loopw [6, 7] (fun x i wr => ∃ k : Nat, 1 ≤ k ∧ k ≤ 1 ∧ i = .int .i64 k ∧ x = .int .u64 (PV k) ∧ Ty.RC r wr s a er ∧ w.grownBy wr none) (fun _ i _ => 1 - (intOf i).toNat)
    case atStart => exact ⟨1, by omega, by omega, rfl, by rw [HPV.out]; simp [Ty.pv, E0.out], hR3, gg⟩
    case round =>
    obtain ⟨k, hk1, hk2, rfl, rfl, hR, hg⟩ := hrel
    obtain ⟨c0, c1, c2, _, _⟩ := hR.cells
    by_cases hk : k < 1
    · exact absurd hk (by omega)
    · obtain rfl : k = 1 := by omega
      have HN := Lib.hid (Ty.num_whole H0.out Hb.out Hf.out Hl.out (by show ¬ Ty.pv _ 1 < 0; have := HPV.out 1; omega))
      have hq : (((Ty.S (Ty.encU (Ty.pv (s.data.toList.drop a) 1))).size : Int) != 1) = false := by
        have hfm := Ty.pv_form (s.data.toList.drop a) 0 (by omega) (by intro h3; exact absurd h3 (by omega)) (by show 0 ≤ Ty.pv _ 1; have := HPV.out 1; omega)
        have hen := Ty.encU_length (Ty.pv (s.data.toList.drop a) 1)
        rw [show Ty.pv (s.data.toList.drop a) 1 = Ty.pv (s.data.toList.drop a) (1 + Ty.after 0) from rfl] at hen ⊢
        rw [hfm] at hen
        rw [bne_eq_false_iff_eq, Ty.size_S, hen]
        rfl
      go_wp2_with fail
      rw [HPV.out]
      refine (Ty.ruint_nat _ _).mono ?_
      rintro e w5 ⟨rfl, hb5⟩
      go_wp2
      go_ret3
      exact ⟨by unfold Ty.numV; rw [HN.out]; rfl, hR.below hb5 hR.lt, Ty.by_trans hg (Ty.by_below hb5)⟩
  · exact absurd hpos h4
set_option maxHeartbeats 2000000 in
theorem Ty.peek_1 (r : Nat) (s : ByteArray) (a er : Nat) (ha : a < s.size) (hs : s.size ≤ 140737488351232) (h1 : s[a].toNat ≤ 192) (h2 : s[a].toNat / 64 = 1) (w : World) (h : Ty.RC r w s a er) :
    Calls Tryz.prog 67 #[.pointer (some ⟨r, 0, none⟩)] w (Ty.Peeked r s a er w) := by
  have e0 := Ty.at_drop s a 0 (by omega)
  simp only [Nat.add_zero] at e0
  have H0 : Hid (0 < (s.data.toList.drop a).length) := Lib.hid (by rw [Ty.len_drop]; omega)
  have Hb : Hid (¬ 192 < ((s.data.toList.drop a).getD 0 0).toNat) := Lib.hid (by rw [← e0]; omega)
  have Hf : Hid (((s.data.toList.drop a).getD 0 0).toNat / 64 = 1) := Lib.hid (by rw [← e0]; exact h2)
  have hl8 := s[a].toNat_lt
  have HQ := Lib.hid h2
  have E0 := Lib.hid e0
  have hpos : (1 : Int) ≤ ((s.size - a : Nat) : Int) := by omega
  have hle : a ≤ s.size := by omega
  clear h2 e0 h1
  obtain ⟨PV, HPV⟩ : ∃ f : Nat → Int, Hid (∀ k, f k = (Ty.pv (s.data.toList.drop a) k : Int)) := ⟨fun k => (Ty.pv (s.data.toList.drop a) k : Int), fun _ => rfl⟩
  have Hst : Hid (∀ k, 1 ≤ k → k < 2 → Ty.pv (s.data.toList.drop a) k < 72057594037927936) := Lib.hid fun k p b => Ty.pv_small4 _ k p (by omega)
  by_cases h4 : (2 : Int) ≤ ((s.size - a : Nat) : Int)
  · have Hl : Hid (¬ (s.data.toList.drop a).length < 1 + Ty.after 1) := Lib.hid (by rw [Ty.len_drop]; show ¬ s.size - a < 2; omega)
    go_enter Tryz.func67, Tryz.ntmps67
    go_wp2_with fail
    refine (Ty.rleft_o r s a er hle hs _ h).mono ?_
    rintro e w1 ⟨rfl, hR1, g1⟩
    obtain ⟨c0, c1, c2, _, _⟩ := hR1.cells
    go_wp2_with fail
    go_quiet ((go_at_call 90; exact Calls.quiet_of_same (Ty.size_c _ 1 HQ.out hl8 _)))
    have ea : ((1 + Ty.after 1 : Nat) : Int) = 2 := rfl
    rw [ea]
    go_wp2_with fail
    go_quiet (fail)
    go_wp2_with fail
    refine (Ty.rleft_o r s a er hle hs _ (hR1.drewN _)).mono ?_
    rintro e w2 ⟨rfl, hR2, g2⟩
    clear c0 c1 c2 ea
    obtain ⟨c0, c1, c2, _, _⟩ := hR2.cells
    go_wp2_with fail
    go_quiet (fail)
    have gg : w.grownBy (w2.drewN nq) none := Ty.by_then (Ty.by_trans g1 (Ty.by_trans (Ty.by_drewN _ _ _) g2)) nq
    have hR3 := hR2.drewN nq
    generalize w2.drewN nq = w3 at gg hR3 ⊢
    clear c0 c1 c2 g1 g2 hR1 hR2
    go_wp2_with fail
    go_loopw [6, 7] (fun x i wr => ∃ k : Nat, 1 ≤ k ∧ k ≤ 2 ∧ i = .int .i64 k ∧ x = .int .u64 (PV k) ∧ Ty.RC r wr s a er ∧ w.grownBy wr none) (fun _ i _ => 2 - (intOf i).toNat)
    case atStart => exact ⟨1, by omega, by omega, rfl, by rw [HPV.out]; simp [Ty.pv, E0.out], hR3, gg⟩
    case round =>
    obtain ⟨k, hk1, hk2, rfl, rfl, hR, hg⟩ := hrel
    obtain ⟨c0, c1, c2, _, _⟩ := hR.cells
    by_cases hk : k < 2
    · have hks : a + k < s.size := by omega
      have e1 : IntKind.i64.wrap ((a : Int) + (k : Int)) = (a : Int) + (k : Int) := IntWalk.i64_in _ (by omega)
      have e2 : 0 ≤ (a : Int) + (k : Int) := by omega
      have e3 : ((a : Int) + (k : Int)).toNat = a + k := by omega
      have e4 : (a : Int) + (k : Int) < (s.size : Int) := by omega
      have hix : ∀ wx : World, (Instr.index 9 (.string s) (.int .i64 ((a : Int) + (k : Int)))).run Tryz.prog wx = .ok (.int .u8 (s[a + k].toNat : Int)) wx := fun wx => by
        simp [go_sem, Tryz.underlying9, e2, e3, e4]
      clear e2 e3 e4
      go_wp2_with fail
      go_quiet (fail)
      go_wp2_with fail
      go_roundw
      case rel => exact ⟨k + 1, by omega, by omega, by simp, by rw [HPV.out, HPV.out]; exact congrArg (Value.int .u64) (Ty.rstep _ _ k hk1 (Hst.out k hk1 hk) (Ty.at_drop s a k hks)), hR.drewN _, Ty.by_then hg _⟩
      case measure => simp [intOf]; omega
    · obtain rfl : k = 2 := by omega
      by_cases h5 : PV 2 < 64
      · have HN := Lib.hid (Ty.num_less H0.out Hb.out Hf.out Hl.out (by show Ty.pv _ 2 < 64; have := HPV.out 2; omega))
        have hq : (((Ty.S (Ty.encU (Ty.pv (s.data.toList.drop a) 2))).size : Int) != 2) = true := by
          have := Ty.len_small (Ty.pv (s.data.toList.drop a) 2) 1 (by omega) (by show _ < 64; have := HPV.out 2; omega)
          rw [bne_iff_ne, Ty.size_S]
          intro e
          exact this (by simp only [Ty.after]; omega)
        clear h5
        go_wp2_with fail
        rw [HPV.out]
        refine (Ty.ruint_nat _ _).mono ?_
        rintro e w5 ⟨rfl, hb5⟩
        go_wp2
        go_ret3
        exact ⟨by unfold Ty.numV; rw [HN.out]; rfl, hR.below hb5 hR.lt, Ty.by_trans hg (Ty.by_below hb5)⟩
      · have HN := Lib.hid (Ty.num_whole H0.out Hb.out Hf.out Hl.out (by show ¬ Ty.pv _ 2 < 64; have := HPV.out 2; omega))
        have hq : (((Ty.S (Ty.encU (Ty.pv (s.data.toList.drop a) 2))).size : Int) != 2) = false := by
          have hfm := Ty.pv_form (s.data.toList.drop a) 1 (by omega) (by intro h3; exact absurd h3 (by omega)) (by show 64 ≤ Ty.pv _ 2; have := HPV.out 2; omega)
          have hen := Ty.encU_length (Ty.pv (s.data.toList.drop a) 2)
          rw [show Ty.pv (s.data.toList.drop a) 2 = Ty.pv (s.data.toList.drop a) (1 + Ty.after 1) from rfl] at hen ⊢
          rw [hfm] at hen
          rw [bne_eq_false_iff_eq, Ty.size_S, hen]
          rfl
        clear h5
        go_wp2_with fail
        rw [HPV.out]
        refine (Ty.ruint_nat _ _).mono ?_
        rintro e w5 ⟨rfl, hb5⟩
        go_wp2
        go_ret3
        exact ⟨by unfold Ty.numV; rw [HN.out]; rfl, hR.below hb5 hR.lt, Ty.by_trans hg (Ty.by_below hb5)⟩
  · have HN := Lib.hid (Ty.num_cut H0.out Hb.out Hf.out (by rw [Ty.len_drop]; show s.size - a < 2; omega))
    go_enter Tryz.func67, Tryz.ntmps67
    go_wp2_with fail
    refine (Ty.rleft_o r s a er hle hs _ h).mono ?_
    rintro e w1 ⟨rfl, hR1, g1⟩
    obtain ⟨c0, c1, c2, _, _⟩ := hR1.cells
    go_wp2_with fail
    go_quiet ((go_at_call 90; exact Calls.quiet_of_same (Ty.size_c _ 1 HQ.out hl8 _)))
    have ea : ((1 + Ty.after 1 : Nat) : Int) = 2 := rfl
    rw [ea]
    go_wp2_with fail
    go_quiet (fail)
    go_wp2_with fail
    refine (Ty.rleft_o r s a er hle hs _ (hR1.drewN _)).mono ?_
    rintro e w2 ⟨rfl, hR2, g2⟩
    go_wp2
    go_ret3
    exact ⟨by unfold Ty.numV; rw [HN.out]; rfl, hR2, Ty.by_trans g1 (Ty.by_trans (Ty.by_drewN _ _ _) g2)⟩
set_option maxHeartbeats 2000000 in
theorem Ty.peek_2 (r : Nat) (s : ByteArray) (a er : Nat) (ha : a < s.size) (hs : s.size ≤ 140737488351232) (h1 : s[a].toNat ≤ 192) (h2 : s[a].toNat / 64 = 2) (w : World) (h : Ty.RC r w s a er) :
    Calls Tryz.prog 67 #[.pointer (some ⟨r, 0, none⟩)] w (Ty.Peeked r s a er w) := by
  have e0 := Ty.at_drop s a 0 (by omega)
  simp only [Nat.add_zero] at e0
  have H0 : Hid (0 < (s.data.toList.drop a).length) := Lib.hid (by rw [Ty.len_drop]; omega)
  have Hb : Hid (¬ 192 < ((s.data.toList.drop a).getD 0 0).toNat) := Lib.hid (by rw [← e0]; omega)
  have Hf : Hid (((s.data.toList.drop a).getD 0 0).toNat / 64 = 2) := Lib.hid (by rw [← e0]; exact h2)
  have hl8 := s[a].toNat_lt
  have HQ := Lib.hid h2
  have E0 := Lib.hid e0
  have hpos : (1 : Int) ≤ ((s.size - a : Nat) : Int) := by omega
  have hle : a ≤ s.size := by omega
  clear h2 e0 h1
  obtain ⟨PV, HPV⟩ : ∃ f : Nat → Int, Hid (∀ k, f k = (Ty.pv (s.data.toList.drop a) k : Int)) := ⟨fun k => (Ty.pv (s.data.toList.drop a) k : Int), fun _ => rfl⟩
  have Hst : Hid (∀ k, 1 ≤ k → k < 4 → Ty.pv (s.data.toList.drop a) k < 72057594037927936) := Lib.hid fun k p b => Ty.pv_small4 _ k p (by omega)
  by_cases h4 : (4 : Int) ≤ ((s.size - a : Nat) : Int)
  · have Hl : Hid (¬ (s.data.toList.drop a).length < 1 + Ty.after 2) := Lib.hid (by rw [Ty.len_drop]; show ¬ s.size - a < 4; omega)
    go_enter Tryz.func67, Tryz.ntmps67
    go_wp2_with fail
    refine (Ty.rleft_o r s a er hle hs _ h).mono ?_
    rintro e w1 ⟨rfl, hR1, g1⟩
    obtain ⟨c0, c1, c2, _, _⟩ := hR1.cells
    go_wp2_with fail
    go_quiet ((go_at_call 90; exact Calls.quiet_of_same (Ty.size_c _ 2 HQ.out hl8 _)))
    have ea : ((1 + Ty.after 2 : Nat) : Int) = 4 := rfl
    rw [ea]
    go_wp2_with fail
    go_quiet (fail)
    go_wp2_with fail
    refine (Ty.rleft_o r s a er hle hs _ (hR1.drewN _)).mono ?_
    rintro e w2 ⟨rfl, hR2, g2⟩
    clear c0 c1 c2 ea
    obtain ⟨c0, c1, c2, _, _⟩ := hR2.cells
    go_wp2_with fail
    go_quiet (fail)
    have gg : w.grownBy (w2.drewN nq) none := Ty.by_then (Ty.by_trans g1 (Ty.by_trans (Ty.by_drewN _ _ _) g2)) nq
    have hR3 := hR2.drewN nq
    generalize w2.drewN nq = w3 at gg hR3 ⊢
    clear c0 c1 c2 g1 g2 hR1 hR2
    go_wp2_with fail
    go_loopw [6, 7] (fun x i wr => ∃ k : Nat, 1 ≤ k ∧ k ≤ 4 ∧ i = .int .i64 k ∧ x = .int .u64 (PV k) ∧ Ty.RC r wr s a er ∧ w.grownBy wr none) (fun _ i _ => 4 - (intOf i).toNat)
    case atStart => exact ⟨1, by omega, by omega, rfl, by rw [HPV.out]; simp [Ty.pv, E0.out], hR3, gg⟩
    case round =>
    obtain ⟨k, hk1, hk2, rfl, rfl, hR, hg⟩ := hrel
    obtain ⟨c0, c1, c2, _, _⟩ := hR.cells
    by_cases hk : k < 4
    · have hks : a + k < s.size := by omega
      have e1 : IntKind.i64.wrap ((a : Int) + (k : Int)) = (a : Int) + (k : Int) := IntWalk.i64_in _ (by omega)
      have e2 : 0 ≤ (a : Int) + (k : Int) := by omega
      have e3 : ((a : Int) + (k : Int)).toNat = a + k := by omega
      have e4 : (a : Int) + (k : Int) < (s.size : Int) := by omega
      have hix : ∀ wx : World, (Instr.index 9 (.string s) (.int .i64 ((a : Int) + (k : Int)))).run Tryz.prog wx = .ok (.int .u8 (s[a + k].toNat : Int)) wx := fun wx => by
        simp [go_sem, Tryz.underlying9, e2, e3, e4]
      clear e2 e3 e4
      go_wp2_with fail
      go_quiet (fail)
      go_wp2_with fail
      go_roundw
      case rel => exact ⟨k + 1, by omega, by omega, by simp, by rw [HPV.out, HPV.out]; exact congrArg (Value.int .u64) (Ty.rstep _ _ k hk1 (Hst.out k hk1 hk) (Ty.at_drop s a k hks)), hR.drewN _, Ty.by_then hg _⟩
      case measure => simp [intOf]; omega
    · obtain rfl : k = 4 := by omega
      by_cases h5 : PV 4 < 16384
      · have HN := Lib.hid (Ty.num_less H0.out Hb.out Hf.out Hl.out (by show Ty.pv _ 4 < 16384; have := HPV.out 4; omega))
        have hq : (((Ty.S (Ty.encU (Ty.pv (s.data.toList.drop a) 4))).size : Int) != 4) = true := by
          have := Ty.len_small (Ty.pv (s.data.toList.drop a) 4) 2 (by omega) (by show _ < 16384; have := HPV.out 4; omega)
          rw [bne_iff_ne, Ty.size_S]
          intro e
          exact this (by simp only [Ty.after]; omega)
        clear h5
        go_wp2_with fail
        rw [HPV.out]
        refine (Ty.ruint_nat _ _).mono ?_
        rintro e w5 ⟨rfl, hb5⟩
        go_wp2
        go_ret3
        exact ⟨by unfold Ty.numV; rw [HN.out]; rfl, hR.below hb5 hR.lt, Ty.by_trans hg (Ty.by_below hb5)⟩
      · have HN := Lib.hid (Ty.num_whole H0.out Hb.out Hf.out Hl.out (by show ¬ Ty.pv _ 4 < 16384; have := HPV.out 4; omega))
        have hq : (((Ty.S (Ty.encU (Ty.pv (s.data.toList.drop a) 4))).size : Int) != 4) = false := by
          have hfm := Ty.pv_form (s.data.toList.drop a) 2 (by omega) (by intro h3; exact absurd h3 (by omega)) (by show 16384 ≤ Ty.pv _ 4; have := HPV.out 4; omega)
          have hen := Ty.encU_length (Ty.pv (s.data.toList.drop a) 4)
          rw [show Ty.pv (s.data.toList.drop a) 4 = Ty.pv (s.data.toList.drop a) (1 + Ty.after 2) from rfl] at hen ⊢
          rw [hfm] at hen
          rw [bne_eq_false_iff_eq, Ty.size_S, hen]
          rfl
        clear h5
        go_wp2_with fail
        rw [HPV.out]
        refine (Ty.ruint_nat _ _).mono ?_
        rintro e w5 ⟨rfl, hb5⟩
        go_wp2
        go_ret3
        exact ⟨by unfold Ty.numV; rw [HN.out]; rfl, hR.below hb5 hR.lt, Ty.by_trans hg (Ty.by_below hb5)⟩
  · have HN := Lib.hid (Ty.num_cut H0.out Hb.out Hf.out (by rw [Ty.len_drop]; show s.size - a < 4; omega))
    go_enter Tryz.func67, Tryz.ntmps67
    go_wp2_with fail
    refine (Ty.rleft_o r s a er hle hs _ h).mono ?_
    rintro e w1 ⟨rfl, hR1, g1⟩
    obtain ⟨c0, c1, c2, _, _⟩ := hR1.cells
    go_wp2_with fail
    go_quiet ((go_at_call 90; exact Calls.quiet_of_same (Ty.size_c _ 2 HQ.out hl8 _)))
    have ea : ((1 + Ty.after 2 : Nat) : Int) = 4 := rfl
    rw [ea]
    go_wp2_with fail
    go_quiet (fail)
    go_wp2_with fail
    refine (Ty.rleft_o r s a er hle hs _ (hR1.drewN _)).mono ?_
    rintro e w2 ⟨rfl, hR2, g2⟩
    go_wp2
    go_ret3
    exact ⟨by unfold Ty.numV; rw [HN.out]; rfl, hR2, Ty.by_trans g1 (Ty.by_trans (Ty.by_drewN _ _ _) g2)⟩
set_option maxHeartbeats 2000000 in
theorem Ty.peek_3 (r : Nat) (s : ByteArray) (a er : Nat) (ha : a < s.size) (hs : s.size ≤ 140737488351232) (h1 : s[a].toNat ≤ 192) (h2 : s[a].toNat / 64 = 3) (w : World) (h : Ty.RC r w s a er) :
    Calls Tryz.prog 67 #[.pointer (some ⟨r, 0, none⟩)] w (Ty.Peeked r s a er w) := by
  have e0 := Ty.at_drop s a 0 (by omega)
  simp only [Nat.add_zero] at e0
  have H0 : Hid (0 < (s.data.toList.drop a).length) := Lib.hid (by rw [Ty.len_drop]; omega)
  have Hb : Hid (¬ 192 < ((s.data.toList.drop a).getD 0 0).toNat) := Lib.hid (by rw [← e0]; omega)
  have Hf : Hid (((s.data.toList.drop a).getD 0 0).toNat / 64 = 3) := Lib.hid (by rw [← e0]; exact h2)
  have hl8 := s[a].toNat_lt
  have HQ := Lib.hid h2
  have E0 := Lib.hid e0
  have hpos : (1 : Int) ≤ ((s.size - a : Nat) : Int) := by omega
  have hle : a ≤ s.size := by omega
  have hne : ((s[a].toNat : Int) != 192) = false := by rw [bne_eq_false_iff_eq]; omega
  clear h2 e0 h1
  obtain ⟨PV, HPV⟩ : ∃ f : Nat → Int, Hid (∀ k, f k = (Ty.pv (s.data.toList.drop a) k : Int)) := ⟨fun k => (Ty.pv (s.data.toList.drop a) k : Int), fun _ => rfl⟩
  have Hst : Hid (∀ k, 1 ≤ k → k < 9 → Ty.pv (s.data.toList.drop a) k < 72057594037927936) := Lib.hid fun k p b => Ty.pv_small8 _ (by have := Hb.out; have := Hf.out; omega) k p (by omega)
  by_cases h4 : (9 : Int) ≤ ((s.size - a : Nat) : Int)
  · have Hl : Hid (¬ (s.data.toList.drop a).length < 1 + Ty.after 3) := Lib.hid (by rw [Ty.len_drop]; show ¬ s.size - a < 9; omega)
    go_enter Tryz.func67, Tryz.ntmps67
    go_wp2_with fail
    refine (Ty.rleft_o r s a er hle hs _ h).mono ?_
    rintro e w1 ⟨rfl, hR1, g1⟩
    obtain ⟨c0, c1, c2, _, _⟩ := hR1.cells
    go_wp2_with fail
    go_quiet ((go_at_call 90; exact Calls.quiet_of_same (Ty.size_c _ 3 HQ.out hl8 _)))
    have ea : ((1 + Ty.after 3 : Nat) : Int) = 9 := rfl
    rw [ea]
    go_wp2_with fail
    go_quiet (fail)
    go_wp2_with fail
    refine (Ty.rleft_o r s a er hle hs _ (hR1.drewN _)).mono ?_
    rintro e w2 ⟨rfl, hR2, g2⟩
    clear c0 c1 c2 ea
    obtain ⟨c0, c1, c2, _, _⟩ := hR2.cells
    go_wp2_with fail
    go_quiet (fail)
    have gg : w.grownBy (w2.drewN nq) none := Ty.by_then (Ty.by_trans g1 (Ty.by_trans (Ty.by_drewN _ _ _) g2)) nq
    have hR3 := hR2.drewN nq
    generalize w2.drewN nq = w3 at gg hR3 ⊢
    clear c0 c1 c2 g1 g2 hR1 hR2
    go_wp2_with fail
    go_loopw [6, 7] (fun x i wr => ∃ k : Nat, 1 ≤ k ∧ k ≤ 9 ∧ i = .int .i64 k ∧ x = .int .u64 (PV k) ∧ Ty.RC r wr s a er ∧ w.grownBy wr none) (fun _ i _ => 9 - (intOf i).toNat)
    case atStart => exact ⟨1, by omega, by omega, rfl, by rw [HPV.out]; simp [Ty.pv, E0.out], hR3, gg⟩
    case round =>
    obtain ⟨k, hk1, hk2, rfl, rfl, hR, hg⟩ := hrel
    obtain ⟨c0, c1, c2, _, _⟩ := hR.cells
    by_cases hk : k < 9
    · have hks : a + k < s.size := by omega
      have e1 : IntKind.i64.wrap ((a : Int) + (k : Int)) = (a : Int) + (k : Int) := IntWalk.i64_in _ (by omega)
      have e2 : 0 ≤ (a : Int) + (k : Int) := by omega
      have e3 : ((a : Int) + (k : Int)).toNat = a + k := by omega
      have e4 : (a : Int) + (k : Int) < (s.size : Int) := by omega
      have hix : ∀ wx : World, (Instr.index 9 (.string s) (.int .i64 ((a : Int) + (k : Int)))).run Tryz.prog wx = .ok (.int .u8 (s[a + k].toNat : Int)) wx := fun wx => by
        simp [go_sem, Tryz.underlying9, e2, e3, e4]
      clear e2 e3 e4
      go_wp2_with fail
      go_quiet (fail)
      go_wp2_with fail
      go_roundw
      case rel => exact ⟨k + 1, by omega, by omega, by simp, by rw [HPV.out, HPV.out]; exact congrArg (Value.int .u64) (Ty.rstep _ _ k hk1 (Hst.out k hk1 hk) (Ty.at_drop s a k hks)), hR.drewN _, Ty.by_then hg _⟩
      case measure => simp [intOf]; omega
    · obtain rfl : k = 9 := by omega
      by_cases h5 : PV 9 < 1073741824
      · have HN := Lib.hid (Ty.num_less H0.out Hb.out Hf.out Hl.out (by show Ty.pv _ 9 < 1073741824; have := HPV.out 9; omega))
        have hq : (((Ty.S (Ty.encU (Ty.pv (s.data.toList.drop a) 9))).size : Int) != 9) = true := by
          have := Ty.len_small (Ty.pv (s.data.toList.drop a) 9) 3 (by omega) (by show _ < 1073741824; have := HPV.out 9; omega)
          rw [bne_iff_ne, Ty.size_S]
          intro e
          exact this (by simp only [Ty.after]; omega)
        clear h5
        go_wp2_with fail
        rw [HPV.out]
        refine (Ty.ruint_nat _ _).mono ?_
        rintro e w5 ⟨rfl, hb5⟩
        go_wp2
        go_ret3
        exact ⟨by unfold Ty.numV; rw [HN.out]; rfl, hR.below hb5 hR.lt, Ty.by_trans hg (Ty.by_below hb5)⟩
      · have HN := Lib.hid (Ty.num_whole H0.out Hb.out Hf.out Hl.out (by show ¬ Ty.pv _ 9 < 1073741824; have := HPV.out 9; omega))
        have hq : (((Ty.S (Ty.encU (Ty.pv (s.data.toList.drop a) 9))).size : Int) != 9) = false := by
          have hfm := Ty.pv_form (s.data.toList.drop a) 3 (by omega) (by intro h3; have := Hb.out; have := Hf.out; omega) (by show 1073741824 ≤ Ty.pv _ 9; have := HPV.out 9; omega)
          have hen := Ty.encU_length (Ty.pv (s.data.toList.drop a) 9)
          rw [show Ty.pv (s.data.toList.drop a) 9 = Ty.pv (s.data.toList.drop a) (1 + Ty.after 3) from rfl] at hen ⊢
          rw [hfm] at hen
          rw [bne_eq_false_iff_eq, Ty.size_S, hen]
          rfl
        clear h5
        go_wp2_with fail
        rw [HPV.out]
        refine (Ty.ruint_nat _ _).mono ?_
        rintro e w5 ⟨rfl, hb5⟩
        go_wp2
        go_ret3
        exact ⟨by unfold Ty.numV; rw [HN.out]; rfl, hR.below hb5 hR.lt, Ty.by_trans hg (Ty.by_below hb5)⟩
  · have HN := Lib.hid (Ty.num_cut H0.out Hb.out Hf.out (by rw [Ty.len_drop]; show s.size - a < 9; omega))
    go_enter Tryz.func67, Tryz.ntmps67
    go_wp2_with fail
    refine (Ty.rleft_o r s a er hle hs _ h).mono ?_
    rintro e w1 ⟨rfl, hR1, g1⟩
    obtain ⟨c0, c1, c2, _, _⟩ := hR1.cells
    go_wp2_with fail
    go_quiet ((go_at_call 90; exact Calls.quiet_of_same (Ty.size_c _ 3 HQ.out hl8 _)))
    have ea : ((1 + Ty.after 3 : Nat) : Int) = 9 := rfl
    rw [ea]
    go_wp2_with fail
    go_quiet (fail)
    go_wp2_with fail
    refine (Ty.rleft_o r s a er hle hs _ (hR1.drewN _)).mono ?_
    rintro e w2 ⟨rfl, hR2, g2⟩
    go_wp2
    go_ret3
    exact ⟨by unfold Ty.numV; rw [HN.out]; rfl, hR2, Ty.by_trans g1 (Ty.by_trans (Ty.by_drewN _ _ _) g2)⟩
theorem Ty.peek_c (r : Nat) (s : ByteArray) (a er : Nat) (ha : a ≤ s.size) (hs : s.size ≤ 140737488351232) (w : World) (h : Ty.RC r w s a er) :
    Calls Tryz.prog 67 #[.pointer (some ⟨r, 0, none⟩)] w (Ty.Peeked r s a er w) := by
  rcases Nat.lt_or_eq_of_le ha with hl | he
  · by_cases h1 : s[a].toNat ≤ 192
    · rcases (by omega : s[a].toNat / 64 = 0 ∨ s[a].toNat / 64 = 1 ∨ s[a].toNat / 64 = 2 ∨ s[a].toNat / 64 = 3) with h2 | h2 | h2 | h2
      · exact Ty.peek_0 r s a er hl hs h1 h2 w h
      · exact Ty.peek_1 r s a er hl hs h1 h2 w h
      · exact Ty.peek_2 r s a er hl hs h1 h2 w h
      · exact Ty.peek_3 r s a er hl hs h1 h2 w h
    · exact Ty.peek_high r s a er hl hs (by omega) w h
  · exact Ty.peek_end r s a er he hs w h
end Go.Proofs.YtfbjmehkipcmbaaGreatDoor

namespace Go.Proofs.YtfbjmehkipcmbaaGreatDoor
open Go.RowKit
def Ty.RS (r : Nat) (s : ByteArray) (w : World) (l : List UInt8) (e : Nat) : Prop := ∃ a, a ≤ s.size ∧ s.data.toList.drop a = l ∧ Ty.RC r w s a e
def Ty.RLeft (r : Nat) (s : ByteArray) (w : World) (v : Value) (l : List UInt8) (e' : Nat) (e : Ending) (w' : World) : Prop := e = .returned v ∧ Ty.RS r s w' l e' ∧ w.grownBy w' (some r)
theorem Ty.by_some {w w' : World} (h : w.grownBy w' none) (r : Nat) : w.grownBy w' (some r) := ⟨h.os, h.tape, h.output, h.size, fun k hk _ => h.block k hk (by intro e; cases e)⟩
theorem Ty.drop_at (s : ByteArray) (a k : Nat) : s.data.toList.drop (a + k) = (s.data.toList.drop a).drop k := by rw [List.drop_drop]
set_option maxHeartbeats 400000 in
theorem Ty.ruint_m (r : Nat) (s : ByteArray) (hs : s.size ≤ 140737488351232) (l : List UInt8) (er : Nat) (w : World) (h : Ty.RS r s w l er) :
    Calls Tryz.prog 36 #[.pointer (some ⟨r, 0, none⟩)] w (Ty.RLeft r s w (.int .u64 ((Ty.rdU l er).1 : Int)) (Ty.rdU l er).2.1 (Ty.rdU l er).2.2) := by
  obtain ⟨a, ha, hl, hR⟩ := h
  obtain ⟨c0, c1, c2, _, _⟩ := hR.cells
  by_cases he : er = 0
  · subst he
    obtain ⟨n, sz, e1, hn⟩ : ∃ n sz e1, Ty.num l = (n, sz, e1) := ⟨_, _, _, rfl⟩
    have hz : a + sz ≤ s.size := by have := Ty.num_size l; rw [hn, ← hl, Ty.len_drop] at this; simp only at this; omega
    have HE : Hid (e1 ≠ 0 → n = 0 ∧ sz = 0) := Lib.hid (by have := Ty.num_err l; rw [hn] at this; exact this)
    have HR := Lib.hid (Ty.rdU_of hn)
    have HL := Lib.hid hl
    have HN := Lib.hid hn
    rw [HR.out]
    clear hn hl
    go_enter Tryz.func36, Tryz.ntmps36
    go_wp2_with fail
    refine (Ty.peek_c r s a 0 ha hs _ hR).mono ?_
    rintro e w1 ⟨rfl, hR1, g1⟩
    rw [HL.out]
    unfold Ty.numV
    rw [HN.out]
    clear c0 c1 c2
    by_cases h1 : e1 = 0
    · subst h1
      obtain ⟨c0, c1, c2, f1, _⟩ := hR1.cells
      have ew : IntKind.i64.wrap ((a : Int) + (sz : Int)) = ((a + sz : Nat) : Int) := by rw [IntWalk.i64_in _ (by omega)]; omega
      go_wp2
      go_ret
      refine ⟨rfl, ⟨a + sz, hz, by rw [Ty.drop_at, HL.out], ?_⟩, Ty.by_trans (Ty.by_some g1 r) (Ty.by_set _ _ _ _)⟩
      first | exact Ty.rc_set1 hR1 | (have hq := Ty.rc_set1 (a' := a + sz) hR1; simpa using hq)
    · have hne : ((e1 : Int) != 0) = true := by rw [bne_iff_ne]; omega
      have HZ := Lib.hid (HE.out h1)
      clear h1
      go_wp2_with fail
      refine (Ty.fail_c r s a e1 _ hR1).mono ?_
      rintro e w2 ⟨rfl, hR2, g2⟩
      go_wp2
      go_ret
      exact ⟨by rw [HZ.out.1]; rfl, ⟨a, ha, by rw [HZ.out.2]; exact HL.out, hR2⟩, Ty.by_trans (Ty.by_some g1 r) g2⟩
  · have hne : ((er : Int) != 0) = true := by rw [bne_iff_ne]; omega
    have HR : Hid (Ty.rdU l er = (0, l, er)) := Lib.hid (by simp [Ty.rdU, he])
    rw [HR.out]
    clear he
    have HL := Lib.hid hl
    clear hl
    go_enter Tryz.func36, Tryz.ntmps36
    go_wp2
    go_ret
    exact ⟨rfl, ⟨a, ha, HL.out, hR⟩, Ty.by_refl _ _⟩
set_option maxHeartbeats 400000 in
theorem Ty.rint_m (r : Nat) (s : ByteArray) (hs : s.size ≤ 140737488351232) (l : List UInt8) (er : Nat) (w : World) (h : Ty.RS r s w l er) :
    Calls Tryz.prog 114 #[.pointer (some ⟨r, 0, none⟩)] w (Ty.RLeft r s w (.int .i64 (Ty.zag ((Ty.rdU l er).1 : Int))) (Ty.rdU l er).2.1 (Ty.rdU l er).2.2) := by
  have hu := Ty.rdU_u64 l er
  go_enter Tryz.func114, Tryz.ntmps114
  go_wp2_with fail
  refine (Ty.ruint_m r s hs l er _ h).mono ?_
  rintro e w1 ⟨rfl, hS, hg⟩
  go_wp2_with fail
  refine (Ty.open_nat _ _ hu).mono ?_
  rintro e w2 ⟨rfl, rfl⟩
  go_wp2
  go_ret
  exact ⟨rfl, hS, hg⟩
set_option maxHeartbeats 400000 in
theorem Ty.rbyte_m (r : Nat) (s : ByteArray) (hs : s.size ≤ 140737488351232) (l : List UInt8) (er : Nat) (w : World) (h : Ty.RS r s w l er) :
    Calls Tryz.prog 37 #[.pointer (some ⟨r, 0, none⟩)] w (Ty.RLeft r s w (.int .i64 ((Ty.rdB l er).1 : Int)) (Ty.rdB l er).2.1 (Ty.rdB l er).2.2) := by
  obtain ⟨a, ha, hl, hR⟩ := h
  obtain ⟨c0, c1, c2, _, _⟩ := hR.cells
  have HL := Lib.hid hl
  by_cases he : er = 0
  · subst he
    have hll : l.length = s.size - a := by rw [← hl, Ty.len_drop]
    cases l with
    | nil =>
      have hz : ((s.size - a : Nat) : Int) < 1 := by simp at hll; omega
      clear hl hll
      go_enter Tryz.func37, Tryz.ntmps37
      go_wp2_with fail
      refine (Ty.rleft_o r s a 0 ha hs _ hR).mono ?_
      rintro e w1 ⟨rfl, hR1, g1⟩
      go_wp2_with fail
      refine (Ty.fail_c r s a 2 _ hR1).mono ?_
      rintro e w2 ⟨rfl, hR2, g2⟩
      go_wp2
      go_ret
      exact ⟨rfl, ⟨a, ha, HL.out, hR2⟩, Ty.by_trans (Ty.by_some g1 r) g2⟩
    | cons x t =>
      have hlt : a < s.size := by simp at hll; omega
      have hz : ¬ ((s.size - a : Nat) : Int) < 1 := by omega
      have HX : Hid (s[a] = x) := Lib.hid (by have := Ty.at_drop s a 0 (by omega); simp only [Nat.add_zero] at this; rw [this, hl]; rfl)
      have HT : Hid (s.data.toList.drop (a + 1) = t) := Lib.hid (by rw [Ty.drop_at, hl]; rfl)
      have ew : IntKind.i64.wrap ((a : Int) + 1) = (a : Int) + 1 := IntWalk.i64_in _ (by omega)
      have ew2 : IntKind.i64.wrap ((a : Int) + 1 - 1) = (a : Int) := by rw [IntWalk.i64_in _ (by omega)]; omega
      clear hl hll c0 c1 c2
      go_enter Tryz.func37, Tryz.ntmps37
      have q2 := hR.cells.2.2.1
      go_wp2_with fail
      refine (Ty.rleft_o r s a 0 ha hs _ hR).mono ?_
      rintro e w1 ⟨rfl, hR1, g1⟩
      obtain ⟨c0, c1, c2, f1, _⟩ := hR1.cells
      go_wp2_with fail
      have hR2 : Ty.RC r (w1.setCell ⟨r, 1, none⟩ (.int .i64 ((a : Int) + 1))) s (a + 1) 0 := by
        have e : ((a : Int) + 1) = ((a + 1 : Nat) : Int) := by omega
        rw [e]
        exact Ty.rc_set1 hR1
      have g2 := Ty.by_set w1 r 1 (.int .i64 ((a : Int) + 1))
      generalize w1.setCell ⟨r, 1, none⟩ (.int .i64 ((a : Int) + 1)) = w2 at hR2 g2 ⊢
      clear c0 c1 c2 f1 q2
      obtain ⟨c0, c1, _, _, _⟩ := hR2.cells
      have e1 : ((a + 1 : Nat) : Int) = (a : Int) + 1 := by omega
      rw [e1] at c1
      have e2 : (a : Int) < (s.size : Int) := by omega
      clear e1
      go_quiet (fail)
      go_wp2
      go_ret
      exact ⟨Ty.ret_i ((IntWalk.wrap64_in _ (by have := s[a].toNat_lt; omega)).trans (by rw [HX.out]; rfl)), ⟨a + 1, hlt, HT.out, hR2.drewN _⟩, Ty.by_trans (Ty.by_some g1 r) (Ty.by_then g2 _)⟩
  · have hne : ((er : Int) != 0) = true := by rw [bne_iff_ne]; omega
    have HR : Hid (Ty.rdB l er = (0, l, er)) := Lib.hid (by simp [Ty.rdB, he])
    rw [HR.out]
    clear he hl
    go_enter Tryz.func37, Tryz.ntmps37
    go_wp2
    go_ret
    exact ⟨rfl, ⟨a, ha, HL.out, hR⟩, Ty.by_refl _ _⟩
set_option maxHeartbeats 400000 in
theorem Ty.rdone_m (r : Nat) (s : ByteArray) (hs : s.size ≤ 140737488351232) (l : List UInt8) (er : Nat) (w : World) (h : Ty.RS r s w l er) :
    Calls Tryz.prog 40 #[.pointer (some ⟨r, 0, none⟩)] w (Ty.RLeft r s w (.int .i64 (Ty.fin l er : Int)) l er) := by
  obtain ⟨a, ha, hl, hR⟩ := h
  obtain ⟨c0, c1, c2, _, _⟩ := hR.cells
  have hll : l.length = s.size - a := by rw [← hl, Ty.len_drop]
  have HL := Lib.hid hl
  clear hl
  by_cases he : er = 0
  · subst he
    by_cases hl : (0 : Int) < ((s.size - a : Nat) : Int)
    · have HF : Hid (Ty.fin l 0 = 5) := Lib.hid (by unfold Ty.fin; rw [if_pos ⟨rfl, by intro e; subst e; simp at hll; omega⟩])
      clear hll
      go_enter Tryz.func40, Tryz.ntmps40
      go_wp2_with fail
      refine (Ty.rleft_o r s a 0 ha hs _ hR).mono ?_
      rintro e w1 ⟨rfl, hR1, g1⟩
      go_wp2
      go_ret
      exact ⟨by rw [HF.out]; rfl, ⟨a, ha, HL.out, hR1⟩, Ty.by_some g1 r⟩
    · have HF : Hid (Ty.fin l 0 = 0) := Lib.hid (by unfold Ty.fin; rw [if_neg (by rintro ⟨_, h2⟩; exact h2 (List.eq_nil_of_length_eq_zero (by omega)))])
      clear hll
      go_enter Tryz.func40, Tryz.ntmps40
      go_wp2_with fail
      refine (Ty.rleft_o r s a 0 ha hs _ hR).mono ?_
      rintro e w1 ⟨rfl, hR1, g1⟩
      clear c0 c1 c2
      obtain ⟨c0, c1, c2, _, _⟩ := hR1.cells
      go_wp2
      go_ret
      exact ⟨by rw [HF.out]; rfl, ⟨a, ha, HL.out, hR1⟩, Ty.by_some g1 r⟩
  · have hne : ((er : Int) == 0) = false := by rw [beq_eq_false_iff_ne]; omega
    have HF : Hid (Ty.fin l er = er) := Lib.hid (by unfold Ty.fin; rw [if_neg (by rintro ⟨h1, _⟩; exact he h1)])
    clear he hll
    go_enter Tryz.func40, Tryz.ntmps40
    go_wp2
    go_ret
    exact ⟨by rw [HF.out]; rfl, ⟨a, ha, HL.out, hR⟩, Ty.by_refl _ _⟩
theorem Ty.rleft_m (r : Nat) (s : ByteArray) (hs : s.size ≤ 140737488351232) (l : List UInt8) (er : Nat) (w : World) (h : Ty.RS r s w l er) :
    Calls Tryz.prog 69 #[.pointer (some ⟨r, 0, none⟩)] w (Ty.RLeft r s w (.int .i64 (l.length : Int)) l er) := by
  obtain ⟨a, ha, hl, hR⟩ := h
  refine (Ty.rleft_o r s a er ha hs w hR).mono ?_
  rintro e w1 ⟨rfl, hR1, g1⟩
  exact ⟨by rw [← hl, Ty.len_drop], ⟨a, ha, hl, hR1⟩, Ty.by_some g1 r⟩
end Go.Proofs.YtfbjmehkipcmbaaGreatDoor

namespace Go.Proofs.YtfbjmehkipcmbaaGreatDoor
open Go.RowKit
def Bt.Row (w : World) (g sz : Nat) (F : Nat → Bool) : Prop := w.rowIs g 5 sz (fun i => .int .u8 ((Bt.oct F i : Nat) : Int))
set_option maxRecDepth 100000 in
theorem Bt.Row.string {w : World} {g sz c : Nat} {F : Nat → Bool} (h : Bt.Row w g sz F) : (convert 45 9 (.slice (some ⟨g, 0, none⟩) sz c)).run Tryz.prog w = .ok (.string (Bt.bytes sz F)) w := by
  have := run_convert_bytes_arg (P := Tryz.prog) w 45 _ Tryz.underlying45 Tryz.underlying5 g 0 sz c ((List.range sz).map fun i => ((Bt.oct F i : Nat) : Int)) (by simp) (fun i hi => by
    have hc := h.cell hi
    have ea : (⟨g, 0 + i, none⟩ : Addr) = ⟨g, i, none⟩ := by rw [Nat.zero_add]
    rw [ea, hc]
    simp [List.getD, hi]) 9 Tryz.underlying9
  rw [this]
  have e : strOfNums ((List.range sz).map fun i => ((Bt.oct F i : Nat) : Int)) = Bt.bytes sz F := by
    unfold strOfNums Bt.bytes
    congr 1
    rw [List.map_map]
    rfl
  rw [e]
theorem Bt.by_refl (w : World) (r : Option Nat) : w.grownBy w r := ⟨rfl, rfl, rfl, Nat.le_refl _, fun _ _ _ => rfl⟩
theorem Bt.by_trans {a b c : World} {r : Option Nat} (h : a.grownBy b r) (k : b.grownBy c r) : a.grownBy c r :=
  ⟨k.os.trans h.os, k.tape.trans h.tape, k.output.trans h.output, Nat.le_trans h.size k.size, fun i hi hn => (k.block i (Nat.lt_of_lt_of_le hi h.size) hn).trans (h.block i hi hn)⟩
theorem Bt.by_set (w : World) (b o : Nat) (u : Value) : w.grownBy (w.setCell ⟨b, o, none⟩ u) (some b) :=
  ⟨rfl, rfl, rfl, by simp [World.setCell], fun k _ hk => Below.heap_setCell _ _ _ _ (fun e => hk (by rw [e]))⟩
set_option maxHeartbeats 400000 in
theorem Bt.size_c (n : Nat) (hn : n ≤ 4611686018427387904) (w : World) :
    Calls Tryz.prog 47 #[.int .i64 n] w fun e w' => e = .returned (.int .i64 (Bt.need n : Nat)) ∧ w' = w := by
  have he : ((Bt.need n : Nat) : Int) = ((n : Int) + 7) / 8 := by unfold Bt.need; omega
  rw [he]
  go_enter Tryz.func47, Tryz.ntmps47
  go_wp2
  go_ret
  exact ⟨rfl, rfl⟩
set_option maxHeartbeats 400000 in
theorem Bt.rightCount_c (n : Int) (w : World) :
    Calls Tryz.prog 102 #[.int .i64 n] w fun e w' => e = .returned (.bool (decide (0 ≤ n ∧ n ≤ 65536))) ∧ w' = w := by
  by_cases h1 : 0 ≤ n
  · by_cases h2 : n ≤ 65536
    · rw [decide_eq_true ⟨h1, h2⟩]
      go_enter Tryz.func102, Tryz.ntmps102
      go_wp2
      go_ret
      exact ⟨rfl, rfl⟩
    · rw [decide_eq_false (by omega)]
      go_enter Tryz.func102, Tryz.ntmps102
      go_wp2
      go_ret
      exact ⟨rfl, rfl⟩
  · rw [decide_eq_false (by omega)]
    go_enter Tryz.func102, Tryz.ntmps102
    go_wp2
    go_ret
    exact ⟨rfl, rfl⟩
set_option maxHeartbeats 400000 in
theorem Bt.rightWidth_c (n : Int) (w : World) :
    Calls Tryz.prog 175 #[.int .i64 n] w fun e w' => e = .returned (.bool (decide (0 ≤ n ∧ n ≤ 64))) ∧ w' = w := by
  by_cases h1 : 0 ≤ n
  · by_cases h2 : n ≤ 64
    · rw [decide_eq_true ⟨h1, h2⟩]
      go_enter Tryz.func175, Tryz.ntmps175
      go_wp2
      go_ret
      exact ⟨rfl, rfl⟩
    · rw [decide_eq_false (by omega)]
      go_enter Tryz.func175, Tryz.ntmps175
      go_wp2
      go_ret
      exact ⟨rfl, rfl⟩
  · rw [decide_eq_false (by omega)]
    go_enter Tryz.func175, Tryz.ntmps175
    go_wp2
    go_ret
    exact ⟨rfl, rfl⟩
def Bt.Put (g sz : Nat) (F : Nat → Bool) (w w' : World) : Prop := Bt.Row w' g sz F ∧ w.grownBy w' (some g)
theorem Bt.or_byte (G : Nat → Bool) (a m q r : Nat) (hq : q = a / 8) (hr : r = a % 8) :
    bits .or .u8 ((Bt.oct G q : Nat) : Int) (IntKind.u64.wrap ((m : Int) * 2 ^ r) % 256) = ((Bt.oct (Bt.laid G a m) q : Nat) : Int) := by
  subst hq hr
  have e : IntKind.u64.wrap ((m : Int) * 2 ^ (a % 8)) % 256 = ((m * 2 ^ (a % 8) % 256 : Nat) : Int) := by
    rw [IntKind.wrap_u64]
    have e1 : (m : Int) * 2 ^ (a % 8) = ((m * 2 ^ (a % 8) : Nat) : Int) := by simp
    rw [e1]
    omega
  rw [e, (bits_nat .u8 8 (by decide) wraps_u8 _ _ (Bt.oct_lt G (a / 8)) (Nat.mod_lt _ (by decide))).2, Bt.laid_here]
theorem Bt.Put.next {g sz a m q r : Nat} {G : Nat → Bool} {w wr : World} (h : Bt.Put g sz G w wr) (hq : q = a / 8) (hr : r = a % 8) :
    Bt.Put g sz (Bt.laid G a m) w (wr.setCell ⟨g, q, none⟩ (.int .u8 (bits .or .u8 ((Bt.oct G q : Nat) : Int) (IntKind.u64.wrap ((m : Int) * 2 ^ r) % 256)))).drew := by
  obtain ⟨hR, hB⟩ := h
  rw [Bt.or_byte G a m q r hq hr]
  refine ⟨World.rowIs.drew (World.rowIs.congr (World.rowIs.set hR q _) fun i _ => ?_), ?_⟩
  · by_cases e : i = q
    · subst e
      rw [if_pos rfl]
    · rw [if_neg e, Bt.laid_far G a m i (by rw [← hq]; exact e)]
  · have h2 := Bt.by_trans hB (Bt.by_set wr g q (.int .u8 ((Bt.oct (Bt.laid G a m) q : Nat) : Int)))
    exact ⟨h2.os, h2.tape, h2.output, h2.size, h2.block⟩
set_option maxHeartbeats 1000000 in
set_option maxRecDepth 100000 in
theorem Bt.put_c (g sz c : Nat) (F : Nat → Bool) (p n : Nat) (w : World) (h : Bt.Row w g sz F) (hn : n < 2 ^ (8 * sz - p)) (h64 : n < 18446744073709551616) (hp : p ≤ 9007199254740992) (hsz : 8 * sz ≤ 9007199254740992) :
    Calls Tryz.prog 48 #[.slice (some ⟨g, 0, none⟩) sz c, .int .i64 p, .int .u64 n] w fun e w' => e = .returned (.tuple #[]) ∧ Bt.Put g sz (Bt.putF F p n) w w' := by
  go_enter Tryz.func48, Tryz.ntmps48
  go_wp2
  go_loopw [1, 2] (fun i v wr => ∃ a m : Nat, i = .int .i64 a ∧ v = .int .u64 m ∧ m < 18446744073709551616 ∧ a ≤ 9007199254741000 ∧ m < 2 ^ (8 * sz - a) ∧ ∃ G, Bt.putF F p n = Bt.putF G a m ∧ Bt.Put g sz G w wr) (fun _ v _ => (intOf v).toNat)
  case atStart => exact ⟨p, n, rfl, rfl, h64, by omega, hn, F, rfl, h, Bt.by_refl _ _⟩
  case round =>
    obtain ⟨a, m, rfl, rfl, hm, ha, hml, G, hG, hR, hB⟩ := hrel
    have HG := Lib.hid hG
    have HL := Lib.hid hml
    clear hG hml hn h
    by_cases h0 : m = 0
    · subst h0
      go_wp2
      go_end0
      exact ⟨rfl, by rw [HG.out, Bt.putF_zero]; exact hR, hB⟩
    · have hpos : (m : Int) > 0 := by omega
      have hroom := Bt.put_room HL.out (by omega)
      obtain ⟨q, eq⟩ : ∃ q, q = a / 8 := ⟨_, rfl⟩
      obtain ⟨r, er⟩ : ∃ r, r = a % 8 := ⟨_, rfl⟩
      have hi : q < sz := by omega
      have hc := hR.cell hi
      have hf := hR.frozen q
      have hiz : (q : Int) < (sz : Int) := by omega
      have hiz0 : (0 : Int) ≤ (q : Int) := by omega
      have hq : (a : Int) / 8 = (q : Int) := by omega
      have hr : (a : Int) % 8 = (r : Int) := by omega
      have hr8 : r < 8 := by omega
      have hwq : IntKind.i64.wrap (q : Int) = (q : Int) := by rw [IntKind.wrap_i64]; omega
      have HE := Lib.hid (And.intro eq er)
      clear eq er
      go_wp2_with fail
      refine wp_region_still_tail 11 (by kernel_rfl) (by kernel_rfl) ?_
      simp only [List.take_succ_cons, List.take_zero, List.drop_succ_cons, List.drop_zero]
      change wpStill _ _ (World.drew _) (fun a' => wpList _ _ _ _ a' (World.drew _)) _ _
      still_step
      still_step
      still_step
      still_step
      still_step
      still_step
      still_step
      still_step
      still_step
      still_step
      still_step
      refine wpStill_nil ?_
      go_wp2
      obtain ⟨eq, er⟩ := HE.out
      go_roundw
      case rel =>
        refine ⟨a + (8 - r), m / 2 ^ (8 - r), ?_, ?_, ?_, ?_, ?_, Bt.laid G a m, ?_, ?_⟩
        · congr 1; omega
        · congr 1
        · exact Nat.lt_of_le_of_lt (Nat.div_le_self _ _) hm
        · omega
        · rw [er]; exact Bt.put_less HL.out (by omega)
        · rw [HG.out, er]; funext x; exact Bt.putF_next G a m x
        · exact Bt.Put.next ⟨hR, hB⟩ eq er
      case measure =>
        have := Bt.put_down (n := m) (k := a) (by omega)
        rw [← er] at this
        have e : ((m : Int) / 2 ^ (8 - r)) = ((m / 2 ^ (8 - r) : Nat) : Int) := by simp
        simp only [intOf]
        rw [e]
        omega
end Go.Proofs.YtfbjmehkipcmbaaGreatDoor

namespace Go.Proofs.YtfbjmehkipcmbaaGreatDoor
open Go.RowKit
theorem Bt.wraps_u64 (n : Int) (h₀ : 0 ≤ n) (h₁ : n < 2 ^ 64) : IntKind.u64.wrap n = n := by rw [IntKind.wrap_u64]; omega
theorem Bt.or64 (m b r k : Nat) (hm : m < 2 ^ 64) (hb : b < 256) :
    bits .or .u64 (m : Int) (IntKind.u64.wrap (IntKind.u64.wrap ((b : Int) / 2 ^ r) * 2 ^ k)) = ((m ||| (b / 2 ^ r * 2 ^ k % 2 ^ 64) : Nat) : Int) := by
  have e1 : (b : Int) / 2 ^ r = ((b / 2 ^ r : Nat) : Int) := by simp
  have hx : b / 2 ^ r < 256 := Nat.lt_of_le_of_lt (Nat.div_le_self _ _) hb
  rw [e1, Bt.wraps_u64 ((b / 2 ^ r : Nat) : Int) (Int.natCast_nonneg _) (Int.lt_trans (Int.ofNat_lt.2 hx) (by decide))]
  have e2 : ((b / 2 ^ r : Nat) : Int) * 2 ^ k = ((b / 2 ^ r * 2 ^ k : Nat) : Int) := by simp
  rw [e2, IntKind.wrap_u64]
  have e3 : ((b / 2 ^ r * 2 ^ k : Nat) : Int) % 18446744073709551616 = ((b / 2 ^ r * 2 ^ k % 2 ^ 64 : Nat) : Int) := by omega
  rw [e3, (bits_nat .u64 64 (by decide) Bt.wraps_u64 _ _ hm (Nat.mod_lt _ (Nat.two_pow_pos _))).2]
theorem Bt.and64 (m n : Nat) (hm : m < 2 ^ 64) (hn : n ≤ 64) :
    bits .and .u64 (m : Int) (IntKind.u64.wrap (IntKind.u64.wrap (2 ^ n) - 1)) = ((m &&& (2 ^ n - 1) : Nat) : Int) := by
  have h1 : 2 ^ n - 1 < 2 ^ 64 := Nat.lt_of_lt_of_le (Nat.sub_lt (Nat.two_pow_pos _) (by decide)) (Nat.pow_le_pow_right (by decide) hn)
  have e : IntKind.u64.wrap (IntKind.u64.wrap (2 ^ n) - 1) = ((2 ^ n - 1 : Nat) : Int) := by
    have hp := Nat.two_pow_pos n
    have e0 : (2 : Int) ^ n = ((2 ^ n : Nat) : Int) := by simp
    rw [e0]
    by_cases h : n = 64
    · subst h
      rw [IntKind.wrap_u64, IntKind.wrap_u64]
      decide
    · have h2 : 2 ^ n ≤ 2 ^ 63 := Nat.pow_le_pow_right (by decide) (by omega)
      have e1 : IntKind.u64.wrap ((2 ^ n : Nat) : Int) = ((2 ^ n : Nat) : Int) := Bt.wraps_u64 _ (by omega) (by omega)
      rw [e1, Bt.wraps_u64 _ (by omega) (by omega)]
      omega
  rw [e, (bits_nat .u64 64 (by decide) Bt.wraps_u64 _ _ hm h1).1]
theorem Bt.reti {k : IntKind} {x y : Int} (h : x = y) : Ending.returned (.int k x) = Ending.returned (.int k y) := by rw [h]
set_option maxHeartbeats 1000000 in
theorem Bt.get_c (s : ByteArray) (p n : Nat) (w : World) (hn : n ≤ 64) (hs : p + n ≤ 8 * s.size) (hp : p ≤ 9007199254740992) :
    Calls Tryz.prog 104 #[.string s, .int .i64 p, .int .i64 n] w fun e w' => e = .returned (.int .u64 (Bt.num n (fun j => Bt.bit s (p + j)) : Nat)) ∧ w' = w := by
  go_enter Tryz.func104, Tryz.ntmps104
  go_wp2
  go_loop [7, 8] (fun v d => ∃ m k : Nat, v = .int .u64 m ∧ d = .int .i64 k ∧ k ≤ 72 ∧ Bt.Got s p k m) (fun _ d => 72 - (intOf d).toNat)
  case atStart => exact ⟨0, 0, rfl, rfl, by omega, Bt.Got.zero s p⟩
  case round =>
    obtain ⟨m, k, rfl, rfl, hk, hG⟩ := hrel
    have HG := Lib.hid hG
    clear hG
    by_cases hl : k < n
    · obtain ⟨q, eq⟩ : ∃ q, q = (p + k) / 8 := ⟨_, rfl⟩
      obtain ⟨r, er⟩ : ∃ r, r = (p + k) % 8 := ⟨_, rfl⟩
      have hi : q < s.size := by omega
      have hq : ((p : Int) + (k : Int)) / 8 = (q : Int) := by omega
      have hr : ((p : Int) + (k : Int)) % 8 = (r : Int) := by omega
      have hr8 : r < 8 := by omega
      have HE := Lib.hid (And.intro eq er)
      have HS := Lib.hid hs
      clear eq er hs
      go_wp2
      obtain ⟨eq, er⟩ := HE.out
      go_round
      case rel =>
        have h1 := HG.out.next (by rw [← eq]; exact hi)
        have hb := s[q].toNat_lt
        refine ⟨m ||| (s[q].toNat / 2 ^ r * 2 ^ k % 2 ^ 64), k + (8 - r), ?_, ?_, by omega, ?_⟩
        · rw [Bt.or64 m _ r k HG.out.1 hb]
        · congr 1; omega
        · subst eq er
          exact h1
      case measure => simp [intOf]; omega
    · go_wp2
      go_ret
      exact ⟨Bt.reti (by rw [Bt.and64 m n HG.out.1 hn, HG.out.last (by omega) hn]), rfl⟩
set_option maxHeartbeats 1000000 in
theorem Bt.check_c (s : ByteArray) (n : Nat) (w : World) (hn : n ≤ 9007199254740992) (hs : s.size ≤ 9007199254740992) :
    Calls Tryz.prog 103 #[.string s, .int .i64 n] w fun e w' => e = .returned (.int .i64 (Bt.chk s n : Nat)) ∧ w' = w := by
  generalize hC : Bt.chk s n = C
  have HC := Lib.hid hC
  have HN : Hid (Bt.need n ≤ 9007199254740992) := Lib.hid (by unfold Bt.need; omega)
  have c1 := fun w => Bt.size_c n (by omega) w
  obtain ⟨d, ed⟩ : ∃ d, d = Bt.need n := ⟨_, rfl⟩
  rw [← ed] at c1 HN
  have ED := Lib.hid ed
  clear hC ed
  by_cases h1 : s.size < d
  · have e : C = 2 := by rw [← HC.out, Bt.chk, ← ED.out, if_pos h1]
    subst e
    go_enter Tryz.func103, Tryz.ntmps103
    go_wp2_with fail
    refine (c1 _).mono ?_
    rintro e w' ⟨rfl, rfl⟩
    go_wp2
    go_ret
    exact ⟨rfl, rfl⟩
  · by_cases h2 : d < s.size
    · have e : C = 3 := by rw [← HC.out, Bt.chk, ← ED.out, if_neg h1, if_pos h2]
      subst e
      go_enter Tryz.func103, Tryz.ntmps103
      go_wp2_with fail
      refine (c1 _).mono ?_
      rintro e w' ⟨rfl, rfl⟩
      go_wp2_with fail
      refine (c1 _).mono ?_
      rintro e w' ⟨rfl, rfl⟩
      go_wp2
      go_ret
      exact ⟨rfl, rfl⟩
    · obtain ⟨r, er⟩ : ∃ r, r = n % 8 := ⟨_, rfl⟩
      have hr : (n : Int) % 8 = (r : Int) := by omega
      have ER := Lib.hid er
      clear er
      by_cases h3 : 0 < r
      · obtain ⟨q, eq⟩ : ∃ q, q = s.size - 1 := ⟨_, rfl⟩
        have hsz : s.size = Bt.need n := by have := ED.out; omega
        have hpos : 0 < s.size := by rw [hsz]; unfold Bt.need; have := ER.out; omega
        have hi : q < s.size := by omega
        have hq : (s.size : Int) - 1 = (q : Int) := by omega
        have HD : Hid (Bt.dirty s n = decide (s[q].toNat / 2 ^ r ≠ 0)) := Lib.hid (by
          subst eq
          rw [ER.out]
          exact Bt.dirty_last s n (by have := ER.out; omega) hsz hi)
        have h3i : (0 : Int) < (r : Int) := by omega
        clear hsz hpos eq
        by_cases h4 : s[q].toNat / 2 ^ r = 0
        · have e : C = 0 := by rw [← HC.out, Bt.chk, ← ED.out, if_neg h1, if_neg h2, HD.out, h4]; rfl
          subst e
          have hb : ((s[q].toNat : Int) / 2 ^ r != 0) = false := by
            rw [bne_eq_false_iff_eq]
            have e : (s[q].toNat : Int) / 2 ^ r = ((s[q].toNat / 2 ^ r : Nat) : Int) := by simp
            rw [e, h4]; rfl
          go_enter Tryz.func103, Tryz.ntmps103
          go_wp2_with fail
          refine (c1 _).mono ?_
          rintro e w' ⟨rfl, rfl⟩
          go_wp2_with fail
          refine (c1 _).mono ?_
          rintro e w' ⟨rfl, rfl⟩
          go_wp2
          go_ret
          exact ⟨rfl, rfl⟩
        · have e : C = 5 := by rw [← HC.out, Bt.chk, ← ED.out, if_neg h1, if_neg h2, HD.out, decide_eq_true h4]; rfl
          subst e
          have hb : ((s[q].toNat : Int) / 2 ^ r != 0) = true := by
            rw [bne_iff_ne]
            have e : (s[q].toNat : Int) / 2 ^ r = ((s[q].toNat / 2 ^ r : Nat) : Int) := by simp
            rw [e]; omega
          clear h4
          go_enter Tryz.func103, Tryz.ntmps103
          go_wp2_with fail
          refine (c1 _).mono ?_
          rintro e w' ⟨rfl, rfl⟩
          go_wp2_with fail
          refine (c1 _).mono ?_
          rintro e w' ⟨rfl, rfl⟩
          go_wp2
          go_ret
          exact ⟨rfl, rfl⟩
      · have e : C = 0 := by rw [← HC.out, Bt.chk, ← ED.out, if_neg h1, if_neg h2, Bt.dirty_none s n (by have := ER.out; omega)]; rfl
        subst e
        go_enter Tryz.func103, Tryz.ntmps103
        go_wp2_with fail
        refine (c1 _).mono ?_
        rintro e w' ⟨rfl, rfl⟩
        go_wp2_with fail
        refine (c1 _).mono ?_
        rintro e w' ⟨rfl, rfl⟩
        go_wp2
        go_ret
        exact ⟨rfl, rfl⟩
theorem Bt.len8_all : ∀ x : Fin 256, Lib.len8 ((x.val : Nat) : Int) = ((bitLen x.val : Nat) : Int) := by decide +kernel
theorem Bt.len_end (k x : Nat) (hk : k ≤ 56) (h : x < 256) : wrap64 ((k : Int) + wrap64 (Lib.len8 ((x : Int) % 256))) = ((k + bitLen x : Nat) : Int) := by
  have e : (x : Int) % 256 = (x : Int) := by omega
  have e2 : Lib.len8 (x : Int) = ((bitLen x : Nat) : Int) := Bt.len8_all ⟨x, h⟩
  have h8 := bitLen_le8 x h
  have e3 : wrap64 ((bitLen x : Nat) : Int) = ((bitLen x : Nat) : Int) := IntWalk.wrap64_in _ (by omega)
  rw [e, e2, e3, IntWalk.wrap64_in _ (by omega)]
  simp
theorem Bt.len_end0 (x : Nat) (h : x < 256) : wrap64 (wrap64 (Lib.len8 ((x : Int) % 256))) = ((bitLen x : Nat) : Int) := by
  have := Bt.len_end 0 x (by decide) h
  simpa using this
set_option maxHeartbeats 2000000 in
set_option maxRecDepth 100000 in
theorem Bt.len64_c (n : Nat) (hn : n < 18446744073709551616) (w : World) :
    Calls Tryz.prog 174 #[.int .u64 n] w fun e w' => e = .returned (.int .i64 (bitLen n : Nat)) ∧ w' = w := by
  have H := Lib.hid hn
  clear hn
  by_cases h1 : (4294967296 : Int) ≤ (n : Int)
  · obtain ⟨x1, e1⟩ : ∃ x, x = n / 4294967296 := ⟨_, rfl⟩
    have q1 : (n : Int) / 4294967296 = (x1 : Int) := by omega
    have g1 : 1 ≤ x1 ∧ x1 < 4294967296 := by have := H.out; omega
    by_cases h2 : (65536 : Int) ≤ (x1 : Int)
    · obtain ⟨x2, e2⟩ : ∃ x, x = x1 / 65536 := ⟨_, rfl⟩
      have q2 : (x1 : Int) / 65536 = (x2 : Int) := by omega
      have g2 : 1 ≤ x2 ∧ x2 < 65536 := by have := H.out; omega
      by_cases h3 : (256 : Int) ≤ (x2 : Int)
      · obtain ⟨x3, e3⟩ : ∃ x, x = x2 / 256 := ⟨_, rfl⟩
        have q3 : (x2 : Int) / 256 = (x3 : Int) := by omega
        have g3 : 1 ≤ x3 ∧ x3 < 256 := by have := H.out; omega
        have hx8 : x3 < 256 := by omega
        have HB : Hid (bitLen n = 56 + bitLen x3) := Lib.hid (by have := H.out; have e : x3 = n / 2 ^ 56 := (by omega); rw [e]; exact bitLen_shift n 56 (by rw [← e]; omega))
        have HX := Lib.hid hx8
        clear hx8 g1 g2 g3 e1 e2 e3
        go_enter Tryz.func174, Tryz.ntmps174
        go_wp2
        go_ret
        exact ⟨Bt.reti (by rw [HB.out]; exact Bt.len_end 56 _ (by decide) HX.out), rfl⟩
      · have b3 : decide ((256 : Int) ≤ (x2 : Int)) = false := decide_eq_false h3
        have f3 : x2 < 256 := by omega
        clear h3
        have hx8 : x2 < 256 := by omega
        have HB : Hid (bitLen n = 48 + bitLen x2) := Lib.hid (by have := H.out; have e : x2 = n / 2 ^ 48 := (by omega); rw [e]; exact bitLen_shift n 48 (by rw [← e]; omega))
        have HX := Lib.hid hx8
        clear hx8 f3 g1 g2 e1 e2
        go_enter Tryz.func174, Tryz.ntmps174
        go_wp2
        go_ret
        exact ⟨Bt.reti (by rw [HB.out]; exact Bt.len_end 48 _ (by decide) HX.out), rfl⟩
    · have b2 : decide ((65536 : Int) ≤ (x1 : Int)) = false := decide_eq_false h2
      have f2 : x1 < 65536 := by omega
      clear h2
      by_cases h3 : (256 : Int) ≤ (x1 : Int)
      · obtain ⟨x3, e3⟩ : ∃ x, x = x1 / 256 := ⟨_, rfl⟩
        have q3 : (x1 : Int) / 256 = (x3 : Int) := by omega
        have g3 : 1 ≤ x3 ∧ x3 < 256 := by have := H.out; omega
        have hx8 : x3 < 256 := by omega
        have HB : Hid (bitLen n = 40 + bitLen x3) := Lib.hid (by have := H.out; have e : x3 = n / 2 ^ 40 := (by omega); rw [e]; exact bitLen_shift n 40 (by rw [← e]; omega))
        have HX := Lib.hid hx8
        clear hx8 f2 g1 g3 e1 e3
        go_enter Tryz.func174, Tryz.ntmps174
        go_wp2
        go_ret
        exact ⟨Bt.reti (by rw [HB.out]; exact Bt.len_end 40 _ (by decide) HX.out), rfl⟩
      · have b3 : decide ((256 : Int) ≤ (x1 : Int)) = false := decide_eq_false h3
        have f3 : x1 < 256 := by omega
        clear h3
        have hx8 : x1 < 256 := by omega
        have HB : Hid (bitLen n = 32 + bitLen x1) := Lib.hid (by have := H.out; have e : x1 = n / 2 ^ 32 := (by omega); rw [e]; exact bitLen_shift n 32 (by rw [← e]; omega))
        have HX := Lib.hid hx8
        clear hx8 f2 f3 g1 e1
        go_enter Tryz.func174, Tryz.ntmps174
        go_wp2
        go_ret
        exact ⟨Bt.reti (by rw [HB.out]; exact Bt.len_end 32 _ (by decide) HX.out), rfl⟩
  · have b1 : decide ((4294967296 : Int) ≤ (n : Int)) = false := decide_eq_false h1
    have f1 : n < 4294967296 := by omega
    clear h1
    by_cases h2 : (65536 : Int) ≤ (n : Int)
    · obtain ⟨x2, e2⟩ : ∃ x, x = n / 65536 := ⟨_, rfl⟩
      have q2 : (n : Int) / 65536 = (x2 : Int) := by omega
      have g2 : 1 ≤ x2 ∧ x2 < 65536 := by have := H.out; omega
      by_cases h3 : (256 : Int) ≤ (x2 : Int)
      · obtain ⟨x3, e3⟩ : ∃ x, x = x2 / 256 := ⟨_, rfl⟩
        have q3 : (x2 : Int) / 256 = (x3 : Int) := by omega
        have g3 : 1 ≤ x3 ∧ x3 < 256 := by have := H.out; omega
        have hx8 : x3 < 256 := by omega
        have HB : Hid (bitLen n = 24 + bitLen x3) := Lib.hid (by have := H.out; have e : x3 = n / 2 ^ 24 := (by omega); rw [e]; exact bitLen_shift n 24 (by rw [← e]; omega))
        have HX := Lib.hid hx8
        clear hx8 f1 g2 g3 e2 e3
        go_enter Tryz.func174, Tryz.ntmps174
        go_wp2
        go_ret
        exact ⟨Bt.reti (by rw [HB.out]; exact Bt.len_end 24 _ (by decide) HX.out), rfl⟩
      · have b3 : decide ((256 : Int) ≤ (x2 : Int)) = false := decide_eq_false h3
        have f3 : x2 < 256 := by omega
        clear h3
        have hx8 : x2 < 256 := by omega
        have HB : Hid (bitLen n = 16 + bitLen x2) := Lib.hid (by have := H.out; have e : x2 = n / 2 ^ 16 := (by omega); rw [e]; exact bitLen_shift n 16 (by rw [← e]; omega))
        have HX := Lib.hid hx8
        clear hx8 f1 f3 g2 e2
        go_enter Tryz.func174, Tryz.ntmps174
        go_wp2
        go_ret
        exact ⟨Bt.reti (by rw [HB.out]; exact Bt.len_end 16 _ (by decide) HX.out), rfl⟩
    · have b2 : decide ((65536 : Int) ≤ (n : Int)) = false := decide_eq_false h2
      have f2 : n < 65536 := by omega
      clear h2
      by_cases h3 : (256 : Int) ≤ (n : Int)
      · obtain ⟨x3, e3⟩ : ∃ x, x = n / 256 := ⟨_, rfl⟩
        have q3 : (n : Int) / 256 = (x3 : Int) := by omega
        have g3 : 1 ≤ x3 ∧ x3 < 256 := by have := H.out; omega
        have hx8 : x3 < 256 := by omega
        have HB : Hid (bitLen n = 8 + bitLen x3) := Lib.hid (by have := H.out; have e : x3 = n / 2 ^ 8 := (by omega); rw [e]; exact bitLen_shift n 8 (by rw [← e]; omega))
        have HX := Lib.hid hx8
        clear hx8 f1 f2 g3 e3
        go_enter Tryz.func174, Tryz.ntmps174
        go_wp2
        go_ret
        exact ⟨Bt.reti (by rw [HB.out]; exact Bt.len_end 8 _ (by decide) HX.out), rfl⟩
      · have b3 : decide ((256 : Int) ≤ (n : Int)) = false := decide_eq_false h3
        have f3 : n < 256 := by omega
        clear h3
        have hx8 : n < 256 := by omega
        have HB : Hid (bitLen n = bitLen n) := Lib.hid rfl
        have HX := Lib.hid hx8
        clear hx8 f1 f2 f3
        go_enter Tryz.func174, Tryz.ntmps174
        go_wp2
        go_ret
        exact ⟨Bt.reti (Bt.len_end0 _ HX.out), rfl⟩
end Go.Proofs.YtfbjmehkipcmbaaGreatDoor
