/-
  Contracts of the document's answers for tally: the cursor's texts.
-/
import Derived.Test.YtccjfmjgkkpndaaDoorR4
namespace Go.Proofs.YtccjfmjgkkpndaaDoor
open Go.RowKit
set_option maxHeartbeats 1000000 in
theorem Ty.rtext_m (r : Nat) (s : ByteArray) (hs : s.size ≤ 140737488351232) (l : List UInt8) (er : Nat) (most : Int) (hm : -9223372036854775808 ≤ most ∧ most ≤ 9223372036854775807) (w : World) (h : Ty.RS r s w l er) :
    Calls Tryd.prog 47 #[.pointer (some ⟨r, 0, none⟩), .int .i64 most] w (Ty.RLeft r s w (.string (Ty.S (Ty.rdT most l er).1)) (Ty.rdT most l er).2.1 (Ty.rdT most l er).2.2) := by
  obtain ⟨a, ha, hl, hR⟩ := h
  obtain ⟨c0, c1, c2, _, _⟩ := hR.cells
  have HL := Lib.hid hl
  by_cases he : er = 0
  · subst he
    obtain ⟨n, sz, e1, hn⟩ : ∃ n sz e1, Ty.num l = (n, sz, e1) := ⟨_, _, _, rfl⟩
    have hll : l.length = s.size - a := by rw [← hl, Ty.len_drop]
    have hz : a + sz ≤ s.size := by have := Ty.num_size l; rw [hn] at this; simp only at this; omega
    have hz9 : sz ≤ 9 := by have := Ty.num_size9 l; rw [hn] at this; exact this
    have E1 : (Ty.num l).1 = n := by rw [hn]
    have E2 : (Ty.num l).2.1 = sz := by rw [hn]
    have E3 : (Ty.num l).2.2 = e1 := by rw [hn]
    have HN := Lib.hid hn
    obtain ⟨hm1, hm2⟩ := hm
    clear hn hl
    by_cases h1 : e1 = 0
    · subst h1
      by_cases h2 : most < 0 ∨ (¬ most < 0 ∧ most < (n : Int))
      · have HT := Lib.hid (Ty.rdT_of (Ty.txt_long (most := most) E3 (by rw [E1]; omega)))
        rw [HT.out]
        clear E1 E2 E3 hll
        rcases h2 with h2 | ⟨h2, h3⟩
        all_goals
          go_enter Tryd.func47, Tryd.ntmps47
          go_wp2_with fail
          refine (Ty.peek_c r s a 0 ha hs _ hR).mono ?_
          rintro e w1 ⟨rfl, hR1, g1⟩
          rw [HL.out]
          unfold Ty.numV
          rw [HN.out]
          go_wp2_with fail
          refine (Ty.fail_c r s a 3 _ hR1).mono ?_
          rintro e w2 ⟨rfl, hR2, g2⟩
          go_wp2
          go_ret
          exact ⟨rfl, ⟨a, ha, HL.out, hR2⟩, Ty.by_trans (Ty.by_some g1 r) g2⟩
      · have h2a : ¬ most < 0 := by omega
        have h2b : ¬ most < (n : Int) := by omega
        by_cases h3 : ((s.size - a : Nat) : Int) - (sz : Int) < (n : Int)
        · have HT := Lib.hid (Ty.rdT_of (Ty.txt_short (most := most) E3 (by rw [E1]; omega) (by rw [E1, E2, hll]; omega)))
          rw [HT.out]
          have hle : (sz : Int) ≤ ((s.size - a : Nat) : Int) := by omega
          clear E1 E2 E3 hll h2
          go_enter Tryd.func47, Tryd.ntmps47
          go_wp2_with fail
          refine (Ty.peek_c r s a 0 ha hs _ hR).mono ?_
          rintro e w1 ⟨rfl, hR1, g1⟩
          rw [HL.out]
          unfold Ty.numV
          rw [HN.out]
          go_wp2_with fail
          refine (Ty.rleft_o r s a 0 ha hs _ hR1).mono ?_
          rintro e w2 ⟨rfl, hR2, g2⟩
          go_wp2_with fail
          refine (Ty.fail_c r s a 2 _ hR2).mono ?_
          rintro e w3 ⟨rfl, hR3, g3⟩
          go_wp2
          go_ret
          exact ⟨rfl, ⟨a, ha, HL.out, hR3⟩, Ty.by_trans (Ty.by_some g1 r) (Ty.by_trans (Ty.by_some g2 r) g3)⟩
        · have HT := Lib.hid (Ty.rdT_of (Ty.txt_whole (most := most) E3 (by rw [E1]; omega) (by rw [E1, E2, hll]; omega)))
          have hle : (sz : Int) ≤ ((s.size - a : Nat) : Int) := by omega
          have hend : a + sz + n ≤ s.size := by omega
          have w1' : IntKind.i64.wrap ((a : Int) + (sz : Int)) = (a : Int) + (sz : Int) := IntWalk.i64_in _ (by omega)
          have w2' : IntKind.i64.wrap (n : Int) = (n : Int) := IntWalk.i64_in _ (by omega)
          have w3' : IntKind.i64.wrap ((a : Int) + (sz : Int) + (n : Int)) = (a : Int) + (sz : Int) + (n : Int) := IntWalk.i64_in _ (by omega)
          have z1 : 0 ≤ (a : Int) + (sz : Int) := by omega
          have z2 : (a : Int) + (sz : Int) ≤ (a : Int) + (sz : Int) + (n : Int) := by omega
          have z3 : (a : Int) + (sz : Int) + (n : Int) ≤ (s.size : Int) := by omega
          have t1 : ((a : Int) + (sz : Int)).toNat = a + sz := by omega
          have t2 : ((a : Int) + (sz : Int) + (n : Int)).toNat = a + sz + n := by omega
          have F1 := Lib.hid E1
          have F2 := Lib.hid E2
          clear E1 E2 E3 hll h2
          go_enter Tryd.func47, Tryd.ntmps47
          go_wp2_with fail
          refine (Ty.peek_c r s a 0 ha hs _ hR).mono ?_
          rintro e w1 ⟨rfl, hR1, g1⟩
          rw [HL.out]
          unfold Ty.numV
          rw [HN.out]
          go_wp2_with fail
          refine (Ty.rleft_o r s a 0 ha hs _ hR1).mono ?_
          rintro e w2 ⟨rfl, hR2, g2⟩
          clear c0 c1 c2
          obtain ⟨c0, c1, c2, f1, _⟩ := hR2.cells
          go_wp2_with fail
          go_quiet (fail)
          go_wp2
          go_ret
          have ex : s.extract (a + sz) (a + sz + n) = Ty.S ((l.drop sz).take n) := by rw [Ty.extract_S, Ty.drop_at, HL.out, Nat.add_sub_cancel_left]
          have ec : ((a : Int) + ((sz : Int) + (n : Int))) = ((a + (sz + n) : Nat) : Int) := by omega
          rw [HT.out, F1.out, F2.out, ec]
          exact ⟨congrArg (fun x => Ending.returned (.string x)) ex, ⟨a + (sz + n), by omega, by rw [Ty.drop_at, HL.out], Ty.rc_set1 (hR2.drewN nq)⟩, Ty.by_trans (Ty.by_some g1 r) (Ty.by_trans (Ty.by_some g2 r) (Ty.by_trans (Ty.by_drewN _ _ _) (Ty.by_set _ _ _ _)))⟩
    · have hne : ((e1 : Int) != 0) = true := by rw [bne_iff_ne]; omega
      have HT := Lib.hid (Ty.rdT_of (Ty.txt_bad (most := most) (by rw [E3]; exact h1)))
      rw [HT.out]
      have F3 := Lib.hid E3
      clear h1 E1 E2 E3 hll
      go_enter Tryd.func47, Tryd.ntmps47
      go_wp2_with fail
      refine (Ty.peek_c r s a 0 ha hs _ hR).mono ?_
      rintro e w1 ⟨rfl, hR1, g1⟩
      rw [HL.out]
      unfold Ty.numV
      rw [HN.out]
      go_wp2_with fail
      refine (Ty.fail_c r s a e1 _ hR1).mono ?_
      rintro e w2 ⟨rfl, hR2, g2⟩
      go_wp2
      go_ret
      exact ⟨rfl, ⟨a, ha, HL.out, by rw [F3.out]; exact hR2⟩, Ty.by_trans (Ty.by_some g1 r) g2⟩
  · have hne : ((er : Int) != 0) = true := by rw [bne_iff_ne]; omega
    have HR : Hid (Ty.rdT most l er = ([], l, er)) := Lib.hid (by simp [Ty.rdT, he])
    rw [HR.out]
    clear he hl
    go_enter Tryd.func47, Tryd.ntmps47
    go_wp2
    go_ret
    exact ⟨rfl, ⟨a, ha, HL.out, hR⟩, Ty.by_refl _ _⟩
end Go.Proofs.YtccjfmjgkkpndaaDoor
