/-
  Contracts of the document's answers for tally: what the cursor sees next.
-/
import Derived.Test.YtccjfmjgkkpndaaDoorR2
namespace Go.Proofs.YtccjfmjgkkpndaaDoor
open Go.RowKit
theorem Ty.by_drewN (w : World) (n : Nat) (r : Option Nat) : w.grownBy (w.drewN n) r := ⟨rfl, rfl, rfl, Nat.le_refl _, fun _ _ _ => rfl⟩
theorem Ty.by_then {w w' : World} {r : Option Nat} (h : w.grownBy w' r) (n : Nat) : w.grownBy (w'.drewN n) r := Ty.by_trans h (Ty.by_drewN w' n r)
theorem Ty.by_below {w w' : World} (h : Below w.heap.size w w') : w.grownBy w' none := ⟨h.os, h.tape, h.output, h.size, fun k hk _ => h.block k hk⟩
/-- The same, of a world of which nothing else is said. -/
theorem Ty.rleft_o (r : Nat) (s : ByteArray) (a er : Nat) (ha : a ≤ s.size) (hs : s.size ≤ 140737488351232) (w : World) (h : Ty.RC r w s a er) :
    Calls Tryd.prog 48 #[.pointer (some ⟨r, 0, none⟩)] w fun e w' => e = .returned (.int .i64 ((s.size - a : Nat) : Int)) ∧ Ty.RC r w' s a er ∧ w.grownBy w' none :=
  (Ty.rleft_c r s a er ha hs w h).mono fun e w' ⟨he, n, hw⟩ => by subst hw; exact ⟨he, h, Ty.by_drewN w n none⟩
theorem Ty.at_drop (s : ByteArray) (a k : Nat) (h : a + k < s.size) : s[a + k] = (s.data.toList.drop a).getD k 0 := by
  rw [Ty.at_getD s (a + k) h, List.getD, List.getD, List.getElem?_drop]
theorem Ty.len_drop (s : ByteArray) (a : Nat) : (s.data.toList.drop a).length = s.size - a := by rw [List.length_drop, Ty.length_data]
theorem Ty.rstep (l : List UInt8) (b : UInt8) (k : Nat) (hk : 1 ≤ k) (hp : Ty.pv l k < 72057594037927936) (hb : b = l.getD k 0) :
    IntKind.u64.wrap (IntKind.u64.wrap (256 * (Ty.pv l k : Int)) + IntKind.u64.wrap (b.toNat : Int)) = (Ty.pv l (k + 1) : Int) := by
  have h2 := b.toNat_lt
  rw [Ty.wrapu64 (256 * (Ty.pv l k : Int)) (by omega) (by omega), Ty.wrapu64 (b.toNat : Int) (by omega) (by omega), Ty.wrapu64 _ (by omega) (by omega), Ty.pv_succ l k hk, ← hb]
  omega
theorem Ty.len_small (n f : Nat) (hf : f ≤ 3) (h : n < Ty.small f) : (Ty.encU n).length ≠ 1 + Ty.after f := by
  rw [Ty.encU_length]
  have hb := Ty.form_is n
  rcases (by omega : f = 0 ∨ f = 1 ∨ f = 2 ∨ f = 3) with rfl | rfl | rfl | rfl
  · simp [Ty.small] at h
  · simp only [Ty.small] at h
    rw [show Ty.form n = 0 by omega]; decide
  · simp only [Ty.small] at h
    rcases (by omega : Ty.form n = 0 ∨ Ty.form n = 1) with e | e <;> rw [e] <;> decide
  · simp only [Ty.small] at h
    rcases (by omega : Ty.form n = 0 ∨ Ty.form n = 1 ∨ Ty.form n = 2) with e | e | e <;> rw [e] <;> decide
/-- What peek leaves. -/
def Ty.Peeked (r : Nat) (s : ByteArray) (a er : Nat) (w : World) (e : Ending) (w' : World) : Prop := e = .returned (Ty.numV (s.data.toList.drop a)) ∧ Ty.RC r w' s a er ∧ w.grownBy w' none
set_option maxHeartbeats 1000000 in
theorem Ty.peek_end (r : Nat) (s : ByteArray) (a er : Nat) (ha : a = s.size) (hs : s.size ≤ 140737488351232) (w : World) (h : Ty.RC r w s a er) :
    Calls Tryd.prog 62 #[.pointer (some ⟨r, 0, none⟩)] w (Ty.Peeked r s a er w) := by
  have HN : Hid (Ty.num (s.data.toList.drop a) = (0, 0, 2)) := Lib.hid (by rw [List.drop_of_length_le (by rw [Ty.length_data]; omega)]; rfl)
  have hz : ((s.size - a : Nat) : Int) < 1 := by omega
  have hle : a ≤ s.size := by omega
  clear ha
  go_enter Tryd.func62, Tryd.ntmps62
  go_wp2_with fail
  refine (Ty.rleft_o r s a er hle hs _ h).mono ?_
  rintro e w1 ⟨rfl, hR1, g1⟩
  go_wp2
  go_ret3
  exact ⟨by unfold Ty.numV; rw [HN.out]; rfl, hR1, g1⟩
set_option maxHeartbeats 1000000 in
theorem Ty.peek_high (r : Nat) (s : ByteArray) (a er : Nat) (ha : a < s.size) (hs : s.size ≤ 140737488351232) (h1 : 192 < s[a].toNat) (w : World) (h : Ty.RC r w s a er) :
    Calls Tryd.prog 62 #[.pointer (some ⟨r, 0, none⟩)] w (Ty.Peeked r s a er w) := by
  have e0 := Ty.at_drop s a 0 (by omega)
  have HN : Hid (Ty.num (s.data.toList.drop a) = (0, 0, 5)) := Lib.hid (Ty.num_high (by rw [Ty.len_drop]; omega) (by rw [← e0]; exact h1))
  have hl8 := s[a].toNat_lt
  have HQ : Hid (s[a].toNat / 64 = 3) := Lib.hid (by omega)
  have hpos : (1 : Int) ≤ ((s.size - a : Nat) : Int) := by omega
  have hne : ((s[a].toNat : Int) != 192) = true := by rw [bne_iff_ne]; omega
  have hle : a ≤ s.size := by omega
  clear h1 e0
  go_enter Tryd.func62, Tryd.ntmps62
  go_wp2_with fail
  refine (Ty.rleft_o r s a er hle hs _ h).mono ?_
  rintro e w1 ⟨rfl, hR1, g1⟩
  obtain ⟨c0, c1, c2, _, _⟩ := hR1.cells
  go_wp2_with fail
  go_quiet ((go_at_call 69; exact Calls.quiet_of_same (Ty.size_c _ 3 HQ.out hl8 _)))
  have ea : ((1 + Ty.after 3 : Nat) : Int) = 9 := rfl
  rw [ea]
  go_wp2_with fail
  go_quiet (fail)
  go_wp2
  go_ret3
  exact ⟨by unfold Ty.numV; rw [HN.out]; rfl, by first | exact hR1.drewN _ | exact (hR1.drewN _).drewN _, by first | exact Ty.by_then g1 _ | exact Ty.by_then (Ty.by_then g1 _) _⟩
set_option maxHeartbeats 2000000 in
theorem Ty.peek_0 (r : Nat) (s : ByteArray) (a er : Nat) (ha : a < s.size) (hs : s.size ≤ 140737488351232) (h1 : s[a].toNat ≤ 192) (h2 : s[a].toNat / 64 = 0) (w : World) (h : Ty.RC r w s a er) :
    Calls Tryd.prog 62 #[.pointer (some ⟨r, 0, none⟩)] w (Ty.Peeked r s a er w) := by
  have e0 := Ty.at_drop s a 0 (by omega)
  simp only [Nat.add_zero] at e0
  have H0 : Hid (0 < (s.data.toList.drop a).length) := Lib.hid (by rw [Ty.len_drop]; omega)
  have Hb : Hid (¬ 192 < ((s.data.toList.drop a).getD 0 0).toNat) := Lib.hid (by rw [← e0]; omega)
  have Hf : Hid (((s.data.toList.drop a).getD 0 0).toNat / 64 = 0) := Lib.hid (by rw [← e0]; exact h2)
  have hl8 := s[a].toNat_lt
  have HQ := Lib.hid h2
  have E0 := Lib.hid e0
  have hpos : (1 : Int) ≤ ((s.size - a : Nat) : Int) := by omega
  have hle : a ≤ s.size := by omega
  clear h2 e0 h1
  obtain ⟨PV, HPV⟩ : ∃ f : Nat → Int, Hid (∀ k, f k = (Ty.pv (s.data.toList.drop a) k : Int)) := ⟨fun k => (Ty.pv (s.data.toList.drop a) k : Int), fun _ => rfl⟩
  have Hst : Hid (∀ k, 1 ≤ k → k < 1 → Ty.pv (s.data.toList.drop a) k < 72057594037927936) := Lib.hid fun k p b => Ty.pv_small4 _ k p (by omega)
  by_cases h4 : (1 : Int) ≤ ((s.size - a : Nat) : Int)
  · have Hl : Hid (¬ (s.data.toList.drop a).length < 1 + Ty.after 0) := Lib.hid (by rw [Ty.len_drop]; show ¬ s.size - a < 1; omega)
    go_enter Tryd.func62, Tryd.ntmps62
    go_wp2_with fail
    refine (Ty.rleft_o r s a er hle hs _ h).mono ?_
    rintro e w1 ⟨rfl, hR1, g1⟩
    obtain ⟨c0, c1, c2, _, _⟩ := hR1.cells
    go_wp2_with fail
    go_quiet ((go_at_call 69; exact Calls.quiet_of_same (Ty.size_c _ 0 HQ.out hl8 _)))
    have ea : ((1 + Ty.after 0 : Nat) : Int) = 1 := rfl
    rw [ea]
    go_wp2_with fail
    go_quiet (fail)
    go_wp2_with fail
    refine (Ty.rleft_o r s a er hle hs _ (hR1.drewN _)).mono ?_
    rintro e w2 ⟨rfl, hR2, g2⟩
    clear c0 c1 c2 ea
    obtain ⟨c0, c1, c2, _, _⟩ := hR2.cells
    go_wp2_with fail
    go_quiet (fail)
    have gg : w.grownBy (w2.drewN nq) none := Ty.by_then (Ty.by_trans g1 (Ty.by_trans (Ty.by_drewN _ _ _) g2)) nq
    have hR3 := hR2.drewN nq
    generalize w2.drewN nq = w3 at gg hR3 ⊢
    clear c0 c1 c2 g1 g2 hR1 hR2
    go_wp2_with fail
    go_loopw [6, 7] (fun x i wr => ∃ k : Nat, 1 ≤ k ∧ k ≤ 1 ∧ i = .int .i64 k ∧ x = .int .u64 (PV k) ∧ Ty.RC r wr s a er ∧ w.grownBy wr none) (fun _ i _ => 1 - (intOf i).toNat)
    case atStart => exact ⟨1, by omega, by omega, rfl, by rw [HPV.out]; simp [Ty.pv, E0.out], hR3, gg⟩
    case round =>
    obtain ⟨k, hk1, hk2, rfl, rfl, hR, hg⟩ := hrel
    obtain ⟨c0, c1, c2, _, _⟩ := hR.cells
    by_cases hk : k < 1
    · exact absurd hk (by omega)
    · obtain rfl : k = 1 := by omega
      have HN := Lib.hid (Ty.num_whole H0.out Hb.out Hf.out Hl.out (by show ¬ Ty.pv _ 1 < 0; have := HPV.out 1; omega))
      have hq : (((Ty.S (Ty.encU (Ty.pv (s.data.toList.drop a) 1))).size : Int) != 1) = false := by
        have hfm := Ty.pv_form (s.data.toList.drop a) 0 (by omega) (by intro h3; exact absurd h3 (by omega)) (by show 0 ≤ Ty.pv _ 1; have := HPV.out 1; omega)
        have hen := Ty.encU_length (Ty.pv (s.data.toList.drop a) 1)
        rw [show Ty.pv (s.data.toList.drop a) 1 = Ty.pv (s.data.toList.drop a) (1 + Ty.after 0) from rfl] at hen ⊢
        rw [hfm] at hen
        rw [bne_eq_false_iff_eq, Ty.size_S, hen]
        rfl
      go_wp2_with fail
      rw [HPV.out]
      refine (Ty.ruint_nat _ _).mono ?_
      rintro e w5 ⟨rfl, hb5⟩
      go_wp2
      go_ret3
      exact ⟨by unfold Ty.numV; rw [HN.out]; rfl, hR.below hb5 hR.lt, Ty.by_trans hg (Ty.by_below hb5)⟩
  · exact absurd hpos h4
set_option maxHeartbeats 2000000 in
theorem Ty.peek_1 (r : Nat) (s : ByteArray) (a er : Nat) (ha : a < s.size) (hs : s.size ≤ 140737488351232) (h1 : s[a].toNat ≤ 192) (h2 : s[a].toNat / 64 = 1) (w : World) (h : Ty.RC r w s a er) :
    Calls Tryd.prog 62 #[.pointer (some ⟨r, 0, none⟩)] w (Ty.Peeked r s a er w) := by
  have e0 := Ty.at_drop s a 0 (by omega)
  simp only [Nat.add_zero] at e0
  have H0 : Hid (0 < (s.data.toList.drop a).length) := Lib.hid (by rw [Ty.len_drop]; omega)
  have Hb : Hid (¬ 192 < ((s.data.toList.drop a).getD 0 0).toNat) := Lib.hid (by rw [← e0]; omega)
  have Hf : Hid (((s.data.toList.drop a).getD 0 0).toNat / 64 = 1) := Lib.hid (by rw [← e0]; exact h2)
  have hl8 := s[a].toNat_lt
  have HQ := Lib.hid h2
  have E0 := Lib.hid e0
  have hpos : (1 : Int) ≤ ((s.size - a : Nat) : Int) := by omega
  have hle : a ≤ s.size := by omega
  clear h2 e0 h1
  obtain ⟨PV, HPV⟩ : ∃ f : Nat → Int, Hid (∀ k, f k = (Ty.pv (s.data.toList.drop a) k : Int)) := ⟨fun k => (Ty.pv (s.data.toList.drop a) k : Int), fun _ => rfl⟩
  have Hst : Hid (∀ k, 1 ≤ k → k < 2 → Ty.pv (s.data.toList.drop a) k < 72057594037927936) := Lib.hid fun k p b => Ty.pv_small4 _ k p (by omega)
  by_cases h4 : (2 : Int) ≤ ((s.size - a : Nat) : Int)
  · have Hl : Hid (¬ (s.data.toList.drop a).length < 1 + Ty.after 1) := Lib.hid (by rw [Ty.len_drop]; show ¬ s.size - a < 2; omega)
    go_enter Tryd.func62, Tryd.ntmps62
    go_wp2_with fail
    refine (Ty.rleft_o r s a er hle hs _ h).mono ?_
    rintro e w1 ⟨rfl, hR1, g1⟩
    obtain ⟨c0, c1, c2, _, _⟩ := hR1.cells
    go_wp2_with fail
    go_quiet ((go_at_call 69; exact Calls.quiet_of_same (Ty.size_c _ 1 HQ.out hl8 _)))
    have ea : ((1 + Ty.after 1 : Nat) : Int) = 2 := rfl
    rw [ea]
    go_wp2_with fail
    go_quiet (fail)
    go_wp2_with fail
    refine (Ty.rleft_o r s a er hle hs _ (hR1.drewN _)).mono ?_
    rintro e w2 ⟨rfl, hR2, g2⟩
    clear c0 c1 c2 ea
    obtain ⟨c0, c1, c2, _, _⟩ := hR2.cells
    go_wp2_with fail
    go_quiet (fail)
    have gg : w.grownBy (w2.drewN nq) none := Ty.by_then (Ty.by_trans g1 (Ty.by_trans (Ty.by_drewN _ _ _) g2)) nq
    have hR3 := hR2.drewN nq
    generalize w2.drewN nq = w3 at gg hR3 ⊢
    clear c0 c1 c2 g1 g2 hR1 hR2
    go_wp2_with fail
    go_loopw [6, 7] (fun x i wr => ∃ k : Nat, 1 ≤ k ∧ k ≤ 2 ∧ i = .int .i64 k ∧ x = .int .u64 (PV k) ∧ Ty.RC r wr s a er ∧ w.grownBy wr none) (fun _ i _ => 2 - (intOf i).toNat)
    case atStart => exact ⟨1, by omega, by omega, rfl, by rw [HPV.out]; simp [Ty.pv, E0.out], hR3, gg⟩
    case round =>
    obtain ⟨k, hk1, hk2, rfl, rfl, hR, hg⟩ := hrel
    obtain ⟨c0, c1, c2, _, _⟩ := hR.cells
    by_cases hk : k < 2
    · have hks : a + k < s.size := by omega
      have e1 : IntKind.i64.wrap ((a : Int) + (k : Int)) = (a : Int) + (k : Int) := IntWalk.i64_in _ (by omega)
      have e2 : 0 ≤ (a : Int) + (k : Int) := by omega
      have e3 : ((a : Int) + (k : Int)).toNat = a + k := by omega
      have e4 : (a : Int) + (k : Int) < (s.size : Int) := by omega
      have hix : ∀ wx : World, (Instr.index 9 (.string s) (.int .i64 ((a : Int) + (k : Int)))).run Tryd.prog wx = .ok (.int .u8 (s[a + k].toNat : Int)) wx := fun wx => by
        simp [go_sem, Tryd.underlying9, e2, e3, e4]
      clear e2 e3 e4
      go_wp2_with fail
      go_quiet (fail)
      go_wp2_with fail
      go_roundw
      case rel => exact ⟨k + 1, by omega, by omega, by simp, by rw [HPV.out, HPV.out]; exact congrArg (Value.int .u64) (Ty.rstep _ _ k hk1 (Hst.out k hk1 hk) (Ty.at_drop s a k hks)), hR.drewN _, Ty.by_then hg _⟩
      case measure => simp [intOf]; omega
    · obtain rfl : k = 2 := by omega
      by_cases h5 : PV 2 < 64
      · have HN := Lib.hid (Ty.num_less H0.out Hb.out Hf.out Hl.out (by show Ty.pv _ 2 < 64; have := HPV.out 2; omega))
        have hq : (((Ty.S (Ty.encU (Ty.pv (s.data.toList.drop a) 2))).size : Int) != 2) = true := by
          have := Ty.len_small (Ty.pv (s.data.toList.drop a) 2) 1 (by omega) (by show _ < 64; have := HPV.out 2; omega)
          rw [bne_iff_ne, Ty.size_S]
          intro e
          exact this (by simp only [Ty.after]; omega)
        clear h5
        go_wp2_with fail
        rw [HPV.out]
        refine (Ty.ruint_nat _ _).mono ?_
        rintro e w5 ⟨rfl, hb5⟩
        go_wp2
        go_ret3
        exact ⟨by unfold Ty.numV; rw [HN.out]; rfl, hR.below hb5 hR.lt, Ty.by_trans hg (Ty.by_below hb5)⟩
      · have HN := Lib.hid (Ty.num_whole H0.out Hb.out Hf.out Hl.out (by show ¬ Ty.pv _ 2 < 64; have := HPV.out 2; omega))
        have hq : (((Ty.S (Ty.encU (Ty.pv (s.data.toList.drop a) 2))).size : Int) != 2) = false := by
          have hfm := Ty.pv_form (s.data.toList.drop a) 1 (by omega) (by intro h3; exact absurd h3 (by omega)) (by show 64 ≤ Ty.pv _ 2; have := HPV.out 2; omega)
          have hen := Ty.encU_length (Ty.pv (s.data.toList.drop a) 2)
          rw [show Ty.pv (s.data.toList.drop a) 2 = Ty.pv (s.data.toList.drop a) (1 + Ty.after 1) from rfl] at hen ⊢
          rw [hfm] at hen
          rw [bne_eq_false_iff_eq, Ty.size_S, hen]
          rfl
        clear h5
        go_wp2_with fail
        rw [HPV.out]
        refine (Ty.ruint_nat _ _).mono ?_
        rintro e w5 ⟨rfl, hb5⟩
        go_wp2
        go_ret3
        exact ⟨by unfold Ty.numV; rw [HN.out]; rfl, hR.below hb5 hR.lt, Ty.by_trans hg (Ty.by_below hb5)⟩
  · have HN := Lib.hid (Ty.num_cut H0.out Hb.out Hf.out (by rw [Ty.len_drop]; show s.size - a < 2; omega))
    go_enter Tryd.func62, Tryd.ntmps62
    go_wp2_with fail
    refine (Ty.rleft_o r s a er hle hs _ h).mono ?_
    rintro e w1 ⟨rfl, hR1, g1⟩
    obtain ⟨c0, c1, c2, _, _⟩ := hR1.cells
    go_wp2_with fail
    go_quiet ((go_at_call 69; exact Calls.quiet_of_same (Ty.size_c _ 1 HQ.out hl8 _)))
    have ea : ((1 + Ty.after 1 : Nat) : Int) = 2 := rfl
    rw [ea]
    go_wp2_with fail
    go_quiet (fail)
    go_wp2_with fail
    refine (Ty.rleft_o r s a er hle hs _ (hR1.drewN _)).mono ?_
    rintro e w2 ⟨rfl, hR2, g2⟩
    go_wp2
    go_ret3
    exact ⟨by unfold Ty.numV; rw [HN.out]; rfl, hR2, Ty.by_trans g1 (Ty.by_trans (Ty.by_drewN _ _ _) g2)⟩
set_option maxHeartbeats 2000000 in
theorem Ty.peek_2 (r : Nat) (s : ByteArray) (a er : Nat) (ha : a < s.size) (hs : s.size ≤ 140737488351232) (h1 : s[a].toNat ≤ 192) (h2 : s[a].toNat / 64 = 2) (w : World) (h : Ty.RC r w s a er) :
    Calls Tryd.prog 62 #[.pointer (some ⟨r, 0, none⟩)] w (Ty.Peeked r s a er w) := by
  have e0 := Ty.at_drop s a 0 (by omega)
  simp only [Nat.add_zero] at e0
  have H0 : Hid (0 < (s.data.toList.drop a).length) := Lib.hid (by rw [Ty.len_drop]; omega)
  have Hb : Hid (¬ 192 < ((s.data.toList.drop a).getD 0 0).toNat) := Lib.hid (by rw [← e0]; omega)
  have Hf : Hid (((s.data.toList.drop a).getD 0 0).toNat / 64 = 2) := Lib.hid (by rw [← e0]; exact h2)
  have hl8 := s[a].toNat_lt
  have HQ := Lib.hid h2
  have E0 := Lib.hid e0
  have hpos : (1 : Int) ≤ ((s.size - a : Nat) : Int) := by omega
  have hle : a ≤ s.size := by omega
  clear h2 e0 h1
  obtain ⟨PV, HPV⟩ : ∃ f : Nat → Int, Hid (∀ k, f k = (Ty.pv (s.data.toList.drop a) k : Int)) := ⟨fun k => (Ty.pv (s.data.toList.drop a) k : Int), fun _ => rfl⟩
  have Hst : Hid (∀ k, 1 ≤ k → k < 4 → Ty.pv (s.data.toList.drop a) k < 72057594037927936) := Lib.hid fun k p b => Ty.pv_small4 _ k p (by omega)
  by_cases h4 : (4 : Int) ≤ ((s.size - a : Nat) : Int)
  · have Hl : Hid (¬ (s.data.toList.drop a).length < 1 + Ty.after 2) := Lib.hid (by rw [Ty.len_drop]; show ¬ s.size - a < 4; omega)
    go_enter Tryd.func62, Tryd.ntmps62
    go_wp2_with fail
    refine (Ty.rleft_o r s a er hle hs _ h).mono ?_
    rintro e w1 ⟨rfl, hR1, g1⟩
    obtain ⟨c0, c1, c2, _, _⟩ := hR1.cells
    go_wp2_with fail
    go_quiet ((go_at_call 69; exact Calls.quiet_of_same (Ty.size_c _ 2 HQ.out hl8 _)))
    have ea : ((1 + Ty.after 2 : Nat) : Int) = 4 := rfl
    rw [ea]
    go_wp2_with fail
    go_quiet (fail)
    go_wp2_with fail
    refine (Ty.rleft_o r s a er hle hs _ (hR1.drewN _)).mono ?_
    rintro e w2 ⟨rfl, hR2, g2⟩
    clear c0 c1 c2 ea
    obtain ⟨c0, c1, c2, _, _⟩ := hR2.cells
    go_wp2_with fail
    go_quiet (fail)
    have gg : w.grownBy (w2.drewN nq) none := Ty.by_then (Ty.by_trans g1 (Ty.by_trans (Ty.by_drewN _ _ _) g2)) nq
    have hR3 := hR2.drewN nq
    generalize w2.drewN nq = w3 at gg hR3 ⊢
    clear c0 c1 c2 g1 g2 hR1 hR2
    go_wp2_with fail
    go_loopw [6, 7] (fun x i wr => ∃ k : Nat, 1 ≤ k ∧ k ≤ 4 ∧ i = .int .i64 k ∧ x = .int .u64 (PV k) ∧ Ty.RC r wr s a er ∧ w.grownBy wr none) (fun _ i _ => 4 - (intOf i).toNat)
    case atStart => exact ⟨1, by omega, by omega, rfl, by rw [HPV.out]; simp [Ty.pv, E0.out], hR3, gg⟩
    case round =>
    obtain ⟨k, hk1, hk2, rfl, rfl, hR, hg⟩ := hrel
    obtain ⟨c0, c1, c2, _, _⟩ := hR.cells
    by_cases hk : k < 4
    · have hks : a + k < s.size := by omega
      have e1 : IntKind.i64.wrap ((a : Int) + (k : Int)) = (a : Int) + (k : Int) := IntWalk.i64_in _ (by omega)
      have e2 : 0 ≤ (a : Int) + (k : Int) := by omega
      have e3 : ((a : Int) + (k : Int)).toNat = a + k := by omega
      have e4 : (a : Int) + (k : Int) < (s.size : Int) := by omega
      have hix : ∀ wx : World, (Instr.index 9 (.string s) (.int .i64 ((a : Int) + (k : Int)))).run Tryd.prog wx = .ok (.int .u8 (s[a + k].toNat : Int)) wx := fun wx => by
        simp [go_sem, Tryd.underlying9, e2, e3, e4]
      clear e2 e3 e4
      go_wp2_with fail
      go_quiet (fail)
      go_wp2_with fail
      go_roundw
      case rel => exact ⟨k + 1, by omega, by omega, by simp, by rw [HPV.out, HPV.out]; exact congrArg (Value.int .u64) (Ty.rstep _ _ k hk1 (Hst.out k hk1 hk) (Ty.at_drop s a k hks)), hR.drewN _, Ty.by_then hg _⟩
      case measure => simp [intOf]; omega
    · obtain rfl : k = 4 := by omega
      by_cases h5 : PV 4 < 16384
      · have HN := Lib.hid (Ty.num_less H0.out Hb.out Hf.out Hl.out (by show Ty.pv _ 4 < 16384; have := HPV.out 4; omega))
        have hq : (((Ty.S (Ty.encU (Ty.pv (s.data.toList.drop a) 4))).size : Int) != 4) = true := by
          have := Ty.len_small (Ty.pv (s.data.toList.drop a) 4) 2 (by omega) (by show _ < 16384; have := HPV.out 4; omega)
          rw [bne_iff_ne, Ty.size_S]
          intro e
          exact this (by simp only [Ty.after]; omega)
        clear h5
        go_wp2_with fail
        rw [HPV.out]
        refine (Ty.ruint_nat _ _).mono ?_
        rintro e w5 ⟨rfl, hb5⟩
        go_wp2
        go_ret3
        exact ⟨by unfold Ty.numV; rw [HN.out]; rfl, hR.below hb5 hR.lt, Ty.by_trans hg (Ty.by_below hb5)⟩
      · have HN := Lib.hid (Ty.num_whole H0.out Hb.out Hf.out Hl.out (by show ¬ Ty.pv _ 4 < 16384; have := HPV.out 4; omega))
        have hq : (((Ty.S (Ty.encU (Ty.pv (s.data.toList.drop a) 4))).size : Int) != 4) = false := by
          have hfm := Ty.pv_form (s.data.toList.drop a) 2 (by omega) (by intro h3; exact absurd h3 (by omega)) (by show 16384 ≤ Ty.pv _ 4; have := HPV.out 4; omega)
          have hen := Ty.encU_length (Ty.pv (s.data.toList.drop a) 4)
          rw [show Ty.pv (s.data.toList.drop a) 4 = Ty.pv (s.data.toList.drop a) (1 + Ty.after 2) from rfl] at hen ⊢
          rw [hfm] at hen
          rw [bne_eq_false_iff_eq, Ty.size_S, hen]
          rfl
        clear h5
        go_wp2_with fail
        rw [HPV.out]
        refine (Ty.ruint_nat _ _).mono ?_
        rintro e w5 ⟨rfl, hb5⟩
        go_wp2
        go_ret3
        exact ⟨by unfold Ty.numV; rw [HN.out]; rfl, hR.below hb5 hR.lt, Ty.by_trans hg (Ty.by_below hb5)⟩
  · have HN := Lib.hid (Ty.num_cut H0.out Hb.out Hf.out (by rw [Ty.len_drop]; show s.size - a < 4; omega))
    go_enter Tryd.func62, Tryd.ntmps62
    go_wp2_with fail
    refine (Ty.rleft_o r s a er hle hs _ h).mono ?_
    rintro e w1 ⟨rfl, hR1, g1⟩
    obtain ⟨c0, c1, c2, _, _⟩ := hR1.cells
    go_wp2_with fail
    go_quiet ((go_at_call 69; exact Calls.quiet_of_same (Ty.size_c _ 2 HQ.out hl8 _)))
    have ea : ((1 + Ty.after 2 : Nat) : Int) = 4 := rfl
    rw [ea]
    go_wp2_with fail
    go_quiet (fail)
    go_wp2_with fail
    refine (Ty.rleft_o r s a er hle hs _ (hR1.drewN _)).mono ?_
    rintro e w2 ⟨rfl, hR2, g2⟩
    go_wp2
    go_ret3
    exact ⟨by unfold Ty.numV; rw [HN.out]; rfl, hR2, Ty.by_trans g1 (Ty.by_trans (Ty.by_drewN _ _ _) g2)⟩
set_option maxHeartbeats 2000000 in
theorem Ty.peek_3 (r : Nat) (s : ByteArray) (a er : Nat) (ha : a < s.size) (hs : s.size ≤ 140737488351232) (h1 : s[a].toNat ≤ 192) (h2 : s[a].toNat / 64 = 3) (w : World) (h : Ty.RC r w s a er) :
    Calls Tryd.prog 62 #[.pointer (some ⟨r, 0, none⟩)] w (Ty.Peeked r s a er w) := by
  have e0 := Ty.at_drop s a 0 (by omega)
  simp only [Nat.add_zero] at e0
  have H0 : Hid (0 < (s.data.toList.drop a).length) := Lib.hid (by rw [Ty.len_drop]; omega)
  have Hb : Hid (¬ 192 < ((s.data.toList.drop a).getD 0 0).toNat) := Lib.hid (by rw [← e0]; omega)
  have Hf : Hid (((s.data.toList.drop a).getD 0 0).toNat / 64 = 3) := Lib.hid (by rw [← e0]; exact h2)
  have hl8 := s[a].toNat_lt
  have HQ := Lib.hid h2
  have E0 := Lib.hid e0
  have hpos : (1 : Int) ≤ ((s.size - a : Nat) : Int) := by omega
  have hle : a ≤ s.size := by omega
  have hne : ((s[a].toNat : Int) != 192) = false := by rw [bne_eq_false_iff_eq]; omega
  clear h2 e0 h1
  obtain ⟨PV, HPV⟩ : ∃ f : Nat → Int, Hid (∀ k, f k = (Ty.pv (s.data.toList.drop a) k : Int)) := ⟨fun k => (Ty.pv (s.data.toList.drop a) k : Int), fun _ => rfl⟩
  have Hst : Hid (∀ k, 1 ≤ k → k < 9 → Ty.pv (s.data.toList.drop a) k < 72057594037927936) := Lib.hid fun k p b => Ty.pv_small8 _ (by have := Hb.out; have := Hf.out; omega) k p (by omega)
  by_cases h4 : (9 : Int) ≤ ((s.size - a : Nat) : Int)
  · have Hl : Hid (¬ (s.data.toList.drop a).length < 1 + Ty.after 3) := Lib.hid (by rw [Ty.len_drop]; show ¬ s.size - a < 9; omega)
    go_enter Tryd.func62, Tryd.ntmps62
    go_wp2_with fail
    refine (Ty.rleft_o r s a er hle hs _ h).mono ?_
    rintro e w1 ⟨rfl, hR1, g1⟩
    obtain ⟨c0, c1, c2, _, _⟩ := hR1.cells
    go_wp2_with fail
    go_quiet ((go_at_call 69; exact Calls.quiet_of_same (Ty.size_c _ 3 HQ.out hl8 _)))
    have ea : ((1 + Ty.after 3 : Nat) : Int) = 9 := rfl
    rw [ea]
    go_wp2_with fail
    go_quiet (fail)
    go_wp2_with fail
    refine (Ty.rleft_o r s a er hle hs _ (hR1.drewN _)).mono ?_
    rintro e w2 ⟨rfl, hR2, g2⟩
    clear c0 c1 c2 ea
    obtain ⟨c0, c1, c2, _, _⟩ := hR2.cells
    go_wp2_with fail
    go_quiet (fail)
    have gg : w.grownBy (w2.drewN nq) none := Ty.by_then (Ty.by_trans g1 (Ty.by_trans (Ty.by_drewN _ _ _) g2)) nq
    have hR3 := hR2.drewN nq
    generalize w2.drewN nq = w3 at gg hR3 ⊢
    clear c0 c1 c2 g1 g2 hR1 hR2
    go_wp2_with fail
    go_loopw [6, 7] (fun x i wr => ∃ k : Nat, 1 ≤ k ∧ k ≤ 9 ∧ i = .int .i64 k ∧ x = .int .u64 (PV k) ∧ Ty.RC r wr s a er ∧ w.grownBy wr none) (fun _ i _ => 9 - (intOf i).toNat)
    case atStart => exact ⟨1, by omega, by omega, rfl, by rw [HPV.out]; simp [Ty.pv, E0.out], hR3, gg⟩
    case round =>
    obtain ⟨k, hk1, hk2, rfl, rfl, hR, hg⟩ := hrel
    obtain ⟨c0, c1, c2, _, _⟩ := hR.cells
    by_cases hk : k < 9
    · have hks : a + k < s.size := by omega
      have e1 : IntKind.i64.wrap ((a : Int) + (k : Int)) = (a : Int) + (k : Int) := IntWalk.i64_in _ (by omega)
      have e2 : 0 ≤ (a : Int) + (k : Int) := by omega
      have e3 : ((a : Int) + (k : Int)).toNat = a + k := by omega
      have e4 : (a : Int) + (k : Int) < (s.size : Int) := by omega
      have hix : ∀ wx : World, (Instr.index 9 (.string s) (.int .i64 ((a : Int) + (k : Int)))).run Tryd.prog wx = .ok (.int .u8 (s[a + k].toNat : Int)) wx := fun wx => by
        simp [go_sem, Tryd.underlying9, e2, e3, e4]
      clear e2 e3 e4
      go_wp2_with fail
      go_quiet (fail)
      go_wp2_with fail
      go_roundw
      case rel => exact ⟨k + 1, by omega, by omega, by simp, by rw [HPV.out, HPV.out]; exact congrArg (Value.int .u64) (Ty.rstep _ _ k hk1 (Hst.out k hk1 hk) (Ty.at_drop s a k hks)), hR.drewN _, Ty.by_then hg _⟩
      case measure => simp [intOf]; omega
    · obtain rfl : k = 9 := by omega
      by_cases h5 : PV 9 < 1073741824
      · have HN := Lib.hid (Ty.num_less H0.out Hb.out Hf.out Hl.out (by show Ty.pv _ 9 < 1073741824; have := HPV.out 9; omega))
        have hq : (((Ty.S (Ty.encU (Ty.pv (s.data.toList.drop a) 9))).size : Int) != 9) = true := by
          have := Ty.len_small (Ty.pv (s.data.toList.drop a) 9) 3 (by omega) (by show _ < 1073741824; have := HPV.out 9; omega)
          rw [bne_iff_ne, Ty.size_S]
          intro e
          exact this (by simp only [Ty.after]; omega)
        clear h5
        go_wp2_with fail
        rw [HPV.out]
        refine (Ty.ruint_nat _ _).mono ?_
        rintro e w5 ⟨rfl, hb5⟩
        go_wp2
        go_ret3
        exact ⟨by unfold Ty.numV; rw [HN.out]; rfl, hR.below hb5 hR.lt, Ty.by_trans hg (Ty.by_below hb5)⟩
      · have HN := Lib.hid (Ty.num_whole H0.out Hb.out Hf.out Hl.out (by show ¬ Ty.pv _ 9 < 1073741824; have := HPV.out 9; omega))
        have hq : (((Ty.S (Ty.encU (Ty.pv (s.data.toList.drop a) 9))).size : Int) != 9) = false := by
          have hfm := Ty.pv_form (s.data.toList.drop a) 3 (by omega) (by intro h3; have := Hb.out; have := Hf.out; omega) (by show 1073741824 ≤ Ty.pv _ 9; have := HPV.out 9; omega)
          have hen := Ty.encU_length (Ty.pv (s.data.toList.drop a) 9)
          rw [show Ty.pv (s.data.toList.drop a) 9 = Ty.pv (s.data.toList.drop a) (1 + Ty.after 3) from rfl] at hen ⊢
          rw [hfm] at hen
          rw [bne_eq_false_iff_eq, Ty.size_S, hen]
          rfl
        clear h5
        go_wp2_with fail
        rw [HPV.out]
        refine (Ty.ruint_nat _ _).mono ?_
        rintro e w5 ⟨rfl, hb5⟩
        go_wp2
        go_ret3
        exact ⟨by unfold Ty.numV; rw [HN.out]; rfl, hR.below hb5 hR.lt, Ty.by_trans hg (Ty.by_below hb5)⟩
  · have HN := Lib.hid (Ty.num_cut H0.out Hb.out Hf.out (by rw [Ty.len_drop]; show s.size - a < 9; omega))
    go_enter Tryd.func62, Tryd.ntmps62
    go_wp2_with fail
    refine (Ty.rleft_o r s a er hle hs _ h).mono ?_
    rintro e w1 ⟨rfl, hR1, g1⟩
    obtain ⟨c0, c1, c2, _, _⟩ := hR1.cells
    go_wp2_with fail
    go_quiet ((go_at_call 69; exact Calls.quiet_of_same (Ty.size_c _ 3 HQ.out hl8 _)))
    have ea : ((1 + Ty.after 3 : Nat) : Int) = 9 := rfl
    rw [ea]
    go_wp2_with fail
    go_quiet (fail)
    go_wp2_with fail
    refine (Ty.rleft_o r s a er hle hs _ (hR1.drewN _)).mono ?_
    rintro e w2 ⟨rfl, hR2, g2⟩
    go_wp2
    go_ret3
    exact ⟨by unfold Ty.numV; rw [HN.out]; rfl, hR2, Ty.by_trans g1 (Ty.by_trans (Ty.by_drewN _ _ _) g2)⟩
/-- peek, whatever comes. -/
theorem Ty.peek_c (r : Nat) (s : ByteArray) (a er : Nat) (ha : a ≤ s.size) (hs : s.size ≤ 140737488351232) (w : World) (h : Ty.RC r w s a er) :
    Calls Tryd.prog 62 #[.pointer (some ⟨r, 0, none⟩)] w (Ty.Peeked r s a er w) := by
  rcases Nat.lt_or_eq_of_le ha with hl | he
  · by_cases h1 : s[a].toNat ≤ 192
    · rcases (by omega : s[a].toNat / 64 = 0 ∨ s[a].toNat / 64 = 1 ∨ s[a].toNat / 64 = 2 ∨ s[a].toNat / 64 = 3) with h2 | h2 | h2 | h2
      · exact Ty.peek_0 r s a er hl hs h1 h2 w h
      · exact Ty.peek_1 r s a er hl hs h1 h2 w h
      · exact Ty.peek_2 r s a er hl hs h1 h2 w h
      · exact Ty.peek_3 r s a er hl hs h1 h2 w h
    · exact Ty.peek_high r s a er hl hs (by omega) w h
  · exact Ty.peek_end r s a er he hs w h
end Go.Proofs.YtccjfmjgkkpndaaDoor
