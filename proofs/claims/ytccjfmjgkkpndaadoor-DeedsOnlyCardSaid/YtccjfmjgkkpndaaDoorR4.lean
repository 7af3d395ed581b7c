/-
  Contracts of the document's answers for tally: the cursor's methods.
-/
import Derived.Test.YtccjfmjgkkpndaaDoorR3
namespace Go.Proofs.YtccjfmjgkkpndaaDoor
open Go.RowKit
/-- The reference's cursor stands ahead of the bytes l, with the error e. -/
def Ty.RS (r : Nat) (s : ByteArray) (w : World) (l : List UInt8) (e : Nat) : Prop := ∃ a, a ≤ s.size ∧ s.data.toList.drop a = l ∧ Ty.RC r w s a e
def Ty.RLeft (r : Nat) (s : ByteArray) (w : World) (v : Value) (l : List UInt8) (e' : Nat) (e : Ending) (w' : World) : Prop := e = .returned v ∧ Ty.RS r s w' l e' ∧ w.grownBy w' (some r)
theorem Ty.by_some {w w' : World} (h : w.grownBy w' none) (r : Nat) : w.grownBy w' (some r) := ⟨h.os, h.tape, h.output, h.size, fun k hk _ => h.block k hk (by intro e; cases e)⟩
theorem Ty.drop_at (s : ByteArray) (a k : Nat) : s.data.toList.drop (a + k) = (s.data.toList.drop a).drop k := by rw [List.drop_drop]
set_option maxHeartbeats 400000 in
theorem Ty.ruint_m (r : Nat) (s : ByteArray) (hs : s.size ≤ 140737488351232) (l : List UInt8) (er : Nat) (w : World) (h : Ty.RS r s w l er) :
    Calls Tryd.prog 60 #[.pointer (some ⟨r, 0, none⟩)] w (Ty.RLeft r s w (.int .u64 ((Ty.rdU l er).1 : Int)) (Ty.rdU l er).2.1 (Ty.rdU l er).2.2) := by
  obtain ⟨a, ha, hl, hR⟩ := h
  obtain ⟨c0, c1, c2, _, _⟩ := hR.cells
  by_cases he : er = 0
  · subst he
    obtain ⟨n, sz, e1, hn⟩ : ∃ n sz e1, Ty.num l = (n, sz, e1) := ⟨_, _, _, rfl⟩
    have hz : a + sz ≤ s.size := by have := Ty.num_size l; rw [hn, ← hl, Ty.len_drop] at this; simp only at this; omega
    have HE : Hid (e1 ≠ 0 → n = 0 ∧ sz = 0) := Lib.hid (by have := Ty.num_err l; rw [hn] at this; exact this)
    have HR := Lib.hid (Ty.rdU_of hn)
    have HL := Lib.hid hl
    have HN := Lib.hid hn
    rw [HR.out]
    clear hn hl
    go_enter Tryd.func60, Tryd.ntmps60
    go_wp2_with fail
    refine (Ty.peek_c r s a 0 ha hs _ hR).mono ?_
    rintro e w1 ⟨rfl, hR1, g1⟩
    rw [HL.out]
    unfold Ty.numV
    rw [HN.out]
    clear c0 c1 c2
    by_cases h1 : e1 = 0
    · subst h1
      obtain ⟨c0, c1, c2, f1, _⟩ := hR1.cells
      have ew : IntKind.i64.wrap ((a : Int) + (sz : Int)) = ((a + sz : Nat) : Int) := by rw [IntWalk.i64_in _ (by omega)]; omega
      go_wp2
      go_ret
      refine ⟨rfl, ⟨a + sz, hz, by rw [Ty.drop_at, HL.out], ?_⟩, Ty.by_trans (Ty.by_some g1 r) (Ty.by_set _ _ _ _)⟩
      first | exact Ty.rc_set1 hR1 | (have hq := Ty.rc_set1 (a' := a + sz) hR1; simpa using hq)
    · have hne : ((e1 : Int) != 0) = true := by rw [bne_iff_ne]; omega
      have HZ := Lib.hid (HE.out h1)
      clear h1
      go_wp2_with fail
      refine (Ty.fail_c r s a e1 _ hR1).mono ?_
      rintro e w2 ⟨rfl, hR2, g2⟩
      go_wp2
      go_ret
      exact ⟨by rw [HZ.out.1]; rfl, ⟨a, ha, by rw [HZ.out.2]; exact HL.out, hR2⟩, Ty.by_trans (Ty.by_some g1 r) g2⟩
  · have hne : ((er : Int) != 0) = true := by rw [bne_iff_ne]; omega
    have HR : Hid (Ty.rdU l er = (0, l, er)) := Lib.hid (by simp [Ty.rdU, he])
    rw [HR.out]
    clear he
    have HL := Lib.hid hl
    clear hl
    go_enter Tryd.func60, Tryd.ntmps60
    go_wp2
    go_ret
    exact ⟨rfl, ⟨a, ha, HL.out, hR⟩, Ty.by_refl _ _⟩
set_option maxHeartbeats 400000 in
theorem Ty.rint_m (r : Nat) (s : ByteArray) (hs : s.size ≤ 140737488351232) (l : List UInt8) (er : Nat) (w : World) (h : Ty.RS r s w l er) :
    Calls Tryd.prog 46 #[.pointer (some ⟨r, 0, none⟩)] w (Ty.RLeft r s w (.int .i64 (Ty.zag ((Ty.rdU l er).1 : Int))) (Ty.rdU l er).2.1 (Ty.rdU l er).2.2) := by
  have hu := Ty.rdU_u64 l er
  go_enter Tryd.func46, Tryd.ntmps46
  go_wp2_with fail
  refine (Ty.ruint_m r s hs l er _ h).mono ?_
  rintro e w1 ⟨rfl, hS, hg⟩
  go_wp2_with fail
  refine (Ty.open_nat _ _ hu).mono ?_
  rintro e w2 ⟨rfl, rfl⟩
  go_wp2
  go_ret
  exact ⟨rfl, hS, hg⟩
set_option maxHeartbeats 400000 in
theorem Ty.rbyte_m (r : Nat) (s : ByteArray) (hs : s.size ≤ 140737488351232) (l : List UInt8) (er : Nat) (w : World) (h : Ty.RS r s w l er) :
    Calls Tryd.prog 45 #[.pointer (some ⟨r, 0, none⟩)] w (Ty.RLeft r s w (.int .i64 ((Ty.rdB l er).1 : Int)) (Ty.rdB l er).2.1 (Ty.rdB l er).2.2) := by
  obtain ⟨a, ha, hl, hR⟩ := h
  obtain ⟨c0, c1, c2, _, _⟩ := hR.cells
  have HL := Lib.hid hl
  by_cases he : er = 0
  · subst he
    have hll : l.length = s.size - a := by rw [← hl, Ty.len_drop]
    cases l with
    | nil =>
      have hz : ((s.size - a : Nat) : Int) < 1 := by simp at hll; omega
      clear hl hll
      go_enter Tryd.func45, Tryd.ntmps45
      go_wp2_with fail
      refine (Ty.rleft_o r s a 0 ha hs _ hR).mono ?_
      rintro e w1 ⟨rfl, hR1, g1⟩
      go_wp2_with fail
      refine (Ty.fail_c r s a 2 _ hR1).mono ?_
      rintro e w2 ⟨rfl, hR2, g2⟩
      go_wp2
      go_ret
      exact ⟨rfl, ⟨a, ha, HL.out, hR2⟩, Ty.by_trans (Ty.by_some g1 r) g2⟩
    | cons x t =>
      have hlt : a < s.size := by simp at hll; omega
      have hz : ¬ ((s.size - a : Nat) : Int) < 1 := by omega
      have HX : Hid (s[a] = x) := Lib.hid (by have := Ty.at_drop s a 0 (by omega); simp only [Nat.add_zero] at this; rw [this, hl]; rfl)
      have HT : Hid (s.data.toList.drop (a + 1) = t) := Lib.hid (by rw [Ty.drop_at, hl]; rfl)
      have ew : IntKind.i64.wrap ((a : Int) + 1) = (a : Int) + 1 := IntWalk.i64_in _ (by omega)
      have ew2 : IntKind.i64.wrap ((a : Int) + 1 - 1) = (a : Int) := by rw [IntWalk.i64_in _ (by omega)]; omega
      clear hl hll c0 c1 c2
      go_enter Tryd.func45, Tryd.ntmps45
      have q2 := hR.cells.2.2.1
      go_wp2_with fail
      refine (Ty.rleft_o r s a 0 ha hs _ hR).mono ?_
      rintro e w1 ⟨rfl, hR1, g1⟩
      obtain ⟨c0, c1, c2, f1, _⟩ := hR1.cells
      go_wp2_with fail
      have hR2 : Ty.RC r (w1.setCell ⟨r, 1, none⟩ (.int .i64 ((a : Int) + 1))) s (a + 1) 0 := by
        have e : ((a : Int) + 1) = ((a + 1 : Nat) : Int) := by omega
        rw [e]
        exact Ty.rc_set1 hR1
      have g2 := Ty.by_set w1 r 1 (.int .i64 ((a : Int) + 1))
      generalize w1.setCell ⟨r, 1, none⟩ (.int .i64 ((a : Int) + 1)) = w2 at hR2 g2 ⊢
      clear c0 c1 c2 f1 q2
      obtain ⟨c0, c1, _, _, _⟩ := hR2.cells
      have e1 : ((a + 1 : Nat) : Int) = (a : Int) + 1 := by omega
      rw [e1] at c1
      have e2 : (a : Int) < (s.size : Int) := by omega
      clear e1
      go_quiet (fail)
      go_wp2
      go_ret
      exact ⟨Ty.ret_i ((IntWalk.wrap64_in _ (by have := s[a].toNat_lt; omega)).trans (by rw [HX.out]; rfl)), ⟨a + 1, hlt, HT.out, hR2.drewN _⟩, Ty.by_trans (Ty.by_some g1 r) (Ty.by_then g2 _)⟩
  · have hne : ((er : Int) != 0) = true := by rw [bne_iff_ne]; omega
    have HR : Hid (Ty.rdB l er = (0, l, er)) := Lib.hid (by simp [Ty.rdB, he])
    rw [HR.out]
    clear he hl
    go_enter Tryd.func45, Tryd.ntmps45
    go_wp2
    go_ret
    exact ⟨rfl, ⟨a, ha, HL.out, hR⟩, Ty.by_refl _ _⟩
set_option maxHeartbeats 400000 in
theorem Ty.rdone_m (r : Nat) (s : ByteArray) (hs : s.size ≤ 140737488351232) (l : List UInt8) (er : Nat) (w : World) (h : Ty.RS r s w l er) :
    Calls Tryd.prog 32 #[.pointer (some ⟨r, 0, none⟩)] w (Ty.RLeft r s w (.int .i64 (Ty.fin l er : Int)) l er) := by
  obtain ⟨a, ha, hl, hR⟩ := h
  obtain ⟨c0, c1, c2, _, _⟩ := hR.cells
  have hll : l.length = s.size - a := by rw [← hl, Ty.len_drop]
  have HL := Lib.hid hl
  clear hl
  by_cases he : er = 0
  · subst he
    by_cases hl : (0 : Int) < ((s.size - a : Nat) : Int)
    · have HF : Hid (Ty.fin l 0 = 5) := Lib.hid (by unfold Ty.fin; rw [if_pos ⟨rfl, by intro e; subst e; simp at hll; omega⟩])
      clear hll
      go_enter Tryd.func32, Tryd.ntmps32
      go_wp2_with fail
      refine (Ty.rleft_o r s a 0 ha hs _ hR).mono ?_
      rintro e w1 ⟨rfl, hR1, g1⟩
      go_wp2
      go_ret
      exact ⟨by rw [HF.out]; rfl, ⟨a, ha, HL.out, hR1⟩, Ty.by_some g1 r⟩
    · have HF : Hid (Ty.fin l 0 = 0) := Lib.hid (by unfold Ty.fin; rw [if_neg (by rintro ⟨_, h2⟩; exact h2 (List.eq_nil_of_length_eq_zero (by omega)))])
      clear hll
      go_enter Tryd.func32, Tryd.ntmps32
      go_wp2_with fail
      refine (Ty.rleft_o r s a 0 ha hs _ hR).mono ?_
      rintro e w1 ⟨rfl, hR1, g1⟩
      clear c0 c1 c2
      obtain ⟨c0, c1, c2, _, _⟩ := hR1.cells
      go_wp2
      go_ret
      exact ⟨by rw [HF.out]; rfl, ⟨a, ha, HL.out, hR1⟩, Ty.by_some g1 r⟩
  · have hne : ((er : Int) == 0) = false := by rw [beq_eq_false_iff_ne]; omega
    have HF : Hid (Ty.fin l er = er) := Lib.hid (by unfold Ty.fin; rw [if_neg (by rintro ⟨h1, _⟩; exact he h1)])
    clear he hll
    go_enter Tryd.func32, Tryd.ntmps32
    go_wp2
    go_ret
    exact ⟨by rw [HF.out]; rfl, ⟨a, ha, HL.out, hR⟩, Ty.by_refl _ _⟩
theorem Ty.rleft_m (r : Nat) (s : ByteArray) (hs : s.size ≤ 140737488351232) (l : List UInt8) (er : Nat) (w : World) (h : Ty.RS r s w l er) :
    Calls Tryd.prog 48 #[.pointer (some ⟨r, 0, none⟩)] w (Ty.RLeft r s w (.int .i64 (l.length : Int)) l er) := by
  obtain ⟨a, ha, hl, hR⟩ := h
  refine (Ty.rleft_o r s a er ha hs w hR).mono ?_
  rintro e w1 ⟨rfl, hR1, g1⟩
  exact ⟨by rw [← hl, Ty.len_drop], ⟨a, ha, hl, hR1⟩, Ty.by_some g1 r⟩
end Go.Proofs.YtccjfmjgkkpndaaDoor
