/-
  The law FrameBurst.
-/
import Derived.Test.YtkbkhohknniibaaL81
import Derived.Test.YtkbkhohknniibaaF9
namespace Go.Proofs.Ytkbkhohknniibaa
open Go.RowKit
theorem Fr.frm_size (t : List UInt8) : (Ty.S (Fr.frm t)).size = t.length + 8 := Fr.frm_len t
theorem Fr.at_len {B : Nat} {w : World} {v : Value} {L : List Fr.Str} (h : Tx.At B w v L) : ∃ a c, v = .slice a L.length c := by
  obtain ⟨a, c, rfl, _⟩ := h
  exact ⟨a, c, rfl⟩
theorem Fr.Turned.zero {l m : List UInt8} {p : Nat} (h : Fr.Turned l m p 0) : m = l := by
  obtain ⟨hm, h⟩ := h
  refine List.ext_getElem hm fun j h1 h2 => ?_
  apply UInt8.toNat_inj.1
  refine Nat.eq_of_testBit_eq fun i => ?_
  by_cases hi : i < 8
  · have := h (8 * j + i) (by omega)
    rw [show (8 * j + i) / 8 = j by omega, show (8 * j + i) % 8 = i by omega] at this
    rw [List.getD, List.getElem?_eq_getElem h1, List.getD, List.getElem?_eq_getElem h2] at this
    simpa using this
  · have hp : (256 : Nat) ≤ 2 ^ i := Nat.le_trans (show 256 ≤ 2 ^ 8 by decide) (Nat.pow_le_pow_right (by omega) (by omega))
    rw [Nat.testBit_lt_two_pow (Nat.lt_of_lt_of_le (UInt8.toNat_lt _) hp), Nat.testBit_lt_two_pow (Nat.lt_of_lt_of_le (UInt8.toNat_lt _) hp)]
set_option maxHeartbeats 1000000 in
set_option maxRecDepth 100000 in
theorem Fr.lawBurst_w (ah s : ByteArray) (a : Int) (X : Nat) (_ : Ty.I64 a) (_ : X < 4294967296) (w : World) (hw : Fr.W w) :
    Calls Try.prog 7 #[.string ah, .string s, .agg #[.int .i64 a, .int .u32 (X : Int)]] w fun e w' => e = .returned (.bool true) ∧ Below w.heap.size w w' := by
  have HW := Lib.hid hw
  have HB0 : Hid (Below w.heap.size w (w.alloc (.cells #[.int .i64 a, .int .u32 (X : Int)] 39))) := Lib.hid ((Below.refl _ _).alloc (Nat.le_refl _) _)
  have HX0 := Lib.hid (Kn.cell_new w #[.int .i64 a, .int .u32 (X : Int)] 39 0 _ rfl)
  have HX1 := Lib.hid (Kn.cell_new w #[.int .i64 a, .int .u32 (X : Int)] 39 1 _ rfl)
  simp only [List.getElem_toArray, List.getElem_cons_zero, List.getElem_cons_succ] at HX0 HX1
  have hsz : (w.alloc (.cells #[.int .i64 a, .int .u32 (X : Int)] 39)).heap.size = w.heap.size + 1 := World.size_alloc ..
  clear hw
  by_cases hs1 : 1048576 < s.size
  · have hs1i : (1048576 : Int) < (s.size : Int) := by omega
    clear hs1
    go_enter Try.func7, Try.ntmps7
    go_wp2_with fail
    generalize hwo : w.alloc _ = wo at hsz HX0 HX1 HB0 ⊢
    clear hwo
    with_reducible refine (Fr.lives_c wo (HW.out.below HB0.out)).mono ?_
    rintro e w1 ⟨rfl, g1⟩
    have HB1 := Lib.hid (HB0.out.trans (g1.mono HB0.out.size))
    clear g1
    go_wp2_with fail
    with_reducible refine (Fr.lives_c w1 (HW.out.below HB1.out)).mono ?_
    rintro e w2 ⟨rfl, g2⟩
    have HB2 := Lib.hid (HB1.out.trans (g2.mono HB1.out.size))
    clear g2
    go_wp2
    go_ret
    exact ⟨rfl, HB2.out⟩
  · by_cases ha1 : 1048576 < ah.size
    · have hs1i : ¬ (1048576 : Int) < (s.size : Int) := by omega
      have ha1i : (1048576 : Int) < (ah.size : Int) := by omega
      clear hs1 ha1
      go_enter Try.func7, Try.ntmps7
      go_wp2_with fail
      generalize hwo : w.alloc _ = wo at hsz HX0 HX1 HB0 ⊢
      clear hwo
      with_reducible refine (Fr.lives_c wo (HW.out.below HB0.out)).mono ?_
      rintro e w1 ⟨rfl, g1⟩
      have HB1 := Lib.hid (HB0.out.trans (g1.mono HB0.out.size))
      clear g1
      go_wp2_with fail
      with_reducible refine (Fr.lives_c w1 (HW.out.below HB1.out)).mono ?_
      rintro e w2 ⟨rfl, g2⟩
      have HB2 := Lib.hid (HB1.out.trans (g2.mono HB1.out.size))
      clear g2
      go_wp2
      go_ret
      exact ⟨rfl, HB2.out⟩
    · have hs1i : ¬ (1048576 : Int) < (s.size : Int) := by omega
      have ha1i : ¬ (1048576 : Int) < (ah.size : Int) := by omega
      obtain ⟨M, hM⟩ : ∃ M, M = s.size + 4 := ⟨_, rfl⟩
      obtain ⟨A, hA⟩ : ∃ A, A = (IntKind.u64.wrap a).toNat % (8 * M) := ⟨_, rfl⟩
      have hAM : A < 8 * M := by rw [hA]; exact Nat.mod_lt _ (by omega)
      have hM2 : 4 ≤ M ∧ M ≤ 1048580 := by omega
      have hwr0 : 0 ≤ IntKind.u64.wrap a := by rw [IntKind.wrap_u64]; omega
      have hAi : IntKind.u64.wrap a % (8 * (M : Int)) = (A : Int) := by
        rw [hA]
        have e : IntKind.u64.wrap a = ((IntKind.u64.wrap a).toNat : Int) := by omega
        rw [e]
        simp
      have HMS := Lib.hid hM
      have cw1 := Lib.hid fun wz hT => Fr.write_c ah (by omega) wz hT
      have cw2 := Lib.hid fun wz hT => Fr.write_c s (by omega) wz hT
      have hN : (Ty.S (Fr.frm s.data.toList)).size = M + 4 := by rw [Fr.frm_size, Ty.length_data]; omega
      have hcv := fun wz => Fr.run_bytes (Ty.S (Fr.frm s.data.toList)) wz
      simp only [hN] at hcv
      clear hs1 ha1 hA hM
      go_enter Try.func7, Try.ntmps7
      go_wp2_with fail
      generalize hwo : w.alloc _ = wo at hsz HX0 HX1 HB0 ⊢
      clear hwo
      with_reducible refine (Fr.lives_c wo (HW.out.below HB0.out)).mono ?_
      rintro e w1 ⟨rfl, g1⟩
      have HB1 := Lib.hid (HB0.out.trans (g1.mono HB0.out.size))
      have x0 := (g1.cell (p := ⟨w.heap.size, 0, none⟩) (by simp [hsz])).trans HX0.out
      have x1 := (g1.cell (p := ⟨w.heap.size, 1, none⟩) (by simp [hsz])).trans HX1.out
      have hsz1 : w.heap.size < w1.heap.size := by have := g1.size; omega
      have HX0 := Lib.hid x0
      have HX1 := Lib.hid x1
      clear g1 x0 x1
      go_wp2_with fail
      with_reducible refine (cw1.out w1 (HW.out.below HB1.out)).mono ?_
      rintro e w2 ⟨rfl, g2⟩
      have HB2 := Lib.hid (HB1.out.trans (g2.mono HB1.out.size))
      have HX0 := Lib.hid ((g2.cell (p := ⟨w.heap.size, 0, none⟩) hsz1).trans HX0.out)
      have HX1 := Lib.hid ((g2.cell (p := ⟨w.heap.size, 1, none⟩) hsz1).trans HX1.out)
      have hsz2 : w.heap.size < w2.heap.size := by have := g2.size; omega
      clear g2
      go_wp2_with fail
      with_reducible refine (cw2.out w2 (HW.out.below HB2.out)).mono ?_
      rintro e w3 ⟨rfl, g3⟩
      have HB3 := Lib.hid (HB2.out.trans (g3.mono HB2.out.size))
      have HX0 := Lib.hid ((g3.cell (p := ⟨w.heap.size, 0, none⟩) hsz2).trans HX0.out)
      have HX1 := Lib.hid ((g3.cell (p := ⟨w.heap.size, 1, none⟩) hsz2).trans HX1.out)
      have hsz3 : w.heap.size < w3.heap.size := by have := g3.size; omega
      clear g3
      have x0 := ((Fr.bytes_below w3 (Ty.S (Fr.frm s.data.toList))).cell (p := ⟨w.heap.size, 0, none⟩) hsz3).trans HX0.out
      go_wp2
      have HBT : Hid (Fr.Bts (Lib.bytesWorld w3 5 (Ty.S (Fr.frm s.data.toList))) w3.heap.size (Fr.four s.size ++ (s.data.toList ++ Fr.four (Fr.sum s.data.toList)))) := Lib.hid (by
        have := Fr.Bts.made w3 (Fr.frm s.data.toList)
        unfold Fr.frm at this ⊢
        rwa [Ty.length_data] at this)
      have hb4 := Fr.bytes_below w3 (Ty.S (Fr.frm s.data.toList))
      have HB4 := Lib.hid (HB3.out.trans (hb4.mono HB3.out.size))
      have HX1 := Lib.hid ((hb4.cell (p := ⟨w.heap.size, 1, none⟩) hsz3).trans HX1.out)
      have hlM : (s.data.toList ++ Fr.four (Fr.sum s.data.toList)).length = M := by rw [List.length_append, Fr.four_len, Ty.length_data]; have := HMS.out; omega
      have HSC0 : Hid (Fr.scan (Fr.frm ah.data.toList ++ (Fr.four s.size ++ (s.data.toList ++ Fr.four (Fr.sum s.data.toList)))) = (0, [ah.data.toList, s.data.toList], Fr.size [ah.data.toList, s.data.toList])) := Lib.hid (by
        have := Fr.two_behind (a := ah.data.toList) (t := s.data.toList) (by rw [Ty.length_data]; omega) (by rw [Ty.length_data]; omega)
        unfold Fr.frm at this ⊢
        rwa [Ty.length_data s] at this)
      have HSC1 : Hid (∀ (m : List UInt8) (B : Nat), 0 < B → B < 2 ^ 32 → B < 2 ^ (8 * M - A) → Fr.Turned (s.data.toList ++ Fr.four (Fr.sum s.data.toList)) m A B → Fr.scan (Fr.frm ah.data.toList ++ (Fr.four s.size ++ m)) = (8, [], 0)) := Lib.hid fun m B h1 h2 h3 h4 => by
        have hMM := HMS.out
        have := Fr.burst_behind (a := ah.data.toList) (t := s.data.toList) (m := m) (p := A) (B := B) (by rw [Ty.length_data]; omega) (by rw [Ty.length_data]; omega) h1 h2 (by rw [Ty.length_data, ← hMM]; exact h3) (by rw [Ty.length_data]; omega) h4
        rwa [Ty.length_data s] at this
      generalize s.data.toList ++ Fr.four (Fr.sum s.data.toList) = l at HBT hlM HSC0 HSC1
      generalize Lib.bytesWorld w3 _ _ = w4 at HBT HB4 HX1 x0 ⊢
      generalize grownCap _ _ _ _ = cap
      obtain ⟨g, hg⟩ : ∃ g, g = w3.heap.size := ⟨_, rfl⟩
      rw [← hg] at HBT ⊢
      have hwg : w.heap.size < g := by omega
      have HGW : Hid (w.heap.size ≤ g) := Lib.hid (by omega)
      clear hcv x0 hb4 hg cw1 cw2
      go_loopw [11, 12] (fun tv i wr => ∃ (k : Nat) (m : List UInt8), k ≤ 32 ∧ A + k ≤ 8 * M ∧ i = .int .i64 k ∧ tv = .bool (decide (0 < X % 2 ^ k)) ∧ Fr.Turned l m A (X % 2 ^ k) ∧ Fr.Bts wr g (Fr.four s.size ++ m) ∧ Below g w4 wr) (fun _ i _ => 32 - (intOf i).toNat)
      case atStart => exact ⟨0, l, by omega, by omega, rfl, by rw [Nat.pow_zero, Nat.mod_one]; rfl, by rw [Nat.pow_zero, Nat.mod_one]; exact Fr.Turned.refl _ _, HBT.out, Below.refl _ _⟩
      case round =>
        obtain ⟨k, m, hk, hAk, rfl, rfl, hT, hBt, hB⟩ := hrel
        have HT := Lib.hid hT
        have HBT2 := Lib.hid hBt
        have HB := Lib.hid hB
        have hml : m.length = M := hT.1.trans hlM
        have hk0 : (0 : Int) ≤ (k : Int) := by omega
        have x1 := (hB.cell (p := ⟨w.heap.size, 1, none⟩) hwg).trans HX1.out
        clear hT hBt hB HBT
        by_cases hl1 : k < 32
        · have hl1i : (k : Int) < 32 := by omega
          by_cases hl2 : A + k < 8 * M
          · obtain ⟨K, hK⟩ : ∃ K, K = A + k := ⟨_, rfl⟩
            have hKi : (A : Int) + (k : Int) = (K : Int) := by omega
            have hl2i : (K : Int) < 8 * (M : Int) := by omega
            obtain ⟨Q, hQ⟩ : ∃ Q, Q = X / 2 ^ k := ⟨_, rfl⟩
            have hq : (X : Int) / 2 ^ k = (Q : Int) := by rw [hQ]; simp
            rcases Nat.mod_two_eq_zero_or_one Q with hm | hm
            · have hmi : (Q : Int) % 2 = 0 := by omega
              have HE := Lib.hid (Fr.mod_not (X := X) (i := k) (by rw [← hQ]; exact hm))
              clear hQ hm
              clear hK
              go_wp2
              go_roundw
              case rel => exact ⟨k + 1, m, by omega, by omega, by simp, by rw [HE.out], by rw [HE.out]; exact HT.out, HBT2.out, HB.out⟩
              case measure => simp [intOf]; omega
            · have hmi : (Q : Int) % 2 = 1 := by omega
              have HE := Lib.hid (Fr.mod_set (X := X) (i := k) (by rw [← hQ]; exact hm))
              clear hQ hm
              obtain ⟨J, hJ⟩ : ∃ J, J = K / 8 := ⟨_, rfl⟩
              obtain ⟨r, hr⟩ : ∃ r, r = K % 8 := ⟨_, rfl⟩
              have hJi : (K : Int) / 8 = (J : Int) := by omega
              have hri : (K : Int) % 8 = (r : Int) := by omega
              have hr8 : r < 8 := by omega
              have hJM : J < m.length := by omega
              have hJMi : (4 : Int) + (J : Int) < (M : Int) + 4 := by omega
              have hJu : (J : Int) ≤ 1048580 := by omega
              have hJ0 : (0 : Int) ≤ (J : Int) := by omega
              have c0 := HBT2.out.cell_behind hJM
              have f0 := HBT2.out.frozen (j := 4 + J) (by rw [List.length_append, Fr.four_len]; omega)
              rw [Fr.four_len] at c0
              have HKJ := Lib.hid (And.intro hK (And.intro hJ hr))
              clear hK hJ hr
              obtain ⟨u, hu⟩ : ∃ u, u = m.getD J 0 := ⟨_, rfl⟩
              rw [← hu] at c0
              obtain ⟨Z, hZ⟩ : ∃ Z, Z = u ^^^ UInt8.ofNat (2 ^ r) := ⟨_, rfl⟩
              have hx : bits .xor .u8 (u.toNat : Int) (2 ^ r % 256) = (Z.toNat : Int) := by
                have h2 : 2 ^ r < 256 := Nat.pow_lt_pow_right (show 1 < 2 by omega) (show r < 8 by omega)
                have hz : Z.toNat = u.toNat ^^^ 2 ^ r := by rw [hZ, UInt8.toNat_xor, UInt8.toNat_ofNat', Nat.mod_eq_of_lt h2]
                have e : (2 ^ r % 256 : Int) = ((2 ^ r : Nat) : Int) := by
                  have : ((2 ^ r % 256 : Nat) : Int) = (2 ^ r % 256 : Int) := by simp
                  rw [← this, Nat.mod_eq_of_lt h2]
                rw [e, hz]
                exact u8_xor_nat u.toNat (2 ^ r) u.toNat_lt h2
              have HST : Hid (Fr.Turned l (m.set J Z) A (X % 2 ^ (k + 1)) ∧ Fr.Bts (wr.setCell ⟨g, 4 + J, none⟩ (.int .u8 (Z.toNat : Int))) g (Fr.four s.size ++ m.set J Z)) := Lib.hid (by
                obtain ⟨hK, hJ, hr⟩ := HKJ.out
                refine ⟨?_, HBT2.out.set_behind hJM Z⟩
                have := Fr.Turned.step HT.out (i := k) (Nat.mod_lt _ (Nat.two_pow_pos k)) (by omega)
                rwa [← hK, ← hJ, ← hr, ← hu, ← hZ, ← HE.out] at this)
              have HPOS : Hid (decide (0 < X % 2 ^ (k + 1)) = true) := Lib.hid (by
                rw [decide_eq_true_iff, HE.out]
                have := Nat.two_pow_pos k
                omega)
              have HAK : Hid (A + (k + 1) ≤ 8 * M) := Lib.hid (by have := HKJ.out.1; omega)
              clear hu hZ
              go_wp2
              go_roundw
              case rel => exact ⟨k + 1, m.set J Z, by omega, HAK.out, by simp, by rw [HPOS.out], HST.out.1, HST.out.2, HB.out.trans (Bt.below_set (Nat.le_refl _) _)⟩
              case measure => simp [intOf]; omega
          · have hl2i : ¬ (A : Int) + (k : Int) < 8 * (M : Int) := by omega
            have hlen : (Fr.four s.size ++ m).length = M + 4 := by rw [List.length_append, Fr.four_len]; omega
            obtain ⟨B, hBB⟩ : ∃ B, B = X % 2 ^ k := ⟨_, rfl⟩
            have hB32 : B < 2 ^ 32 := by rw [hBB]; exact Nat.lt_of_lt_of_le (Nat.mod_lt _ (Nat.two_pow_pos k)) (Nat.pow_le_pow_right (by omega) hk)
            have hBM : B < 2 ^ (8 * M - A) := by rw [hBB]; exact Nat.lt_of_lt_of_le (Nat.mod_lt _ (Nat.two_pow_pos k)) (Nat.pow_le_pow_right (by omega) (by omega))
            have hstr := HBT2.out.string cap
            rw [hlen] at hstr
            have hcat : Ty.S (Fr.frm ah.data.toList) ++ Ty.S (Fr.four s.size ++ m) = Ty.S (Fr.frm ah.data.toList ++ (Fr.four s.size ++ m)) := Fr.S_add _ _
            have hn0 : ¬ 9223372036854775807 < (Ty.S (Fr.frm ah.data.toList)).size + (Ty.S (Fr.four s.size ++ m)).size := by
              rw [Fr.frm_size, Ty.size_S, hlen, Ty.length_data]; omega
            have HBW := Lib.hid (HB4.out.trans (HB.out.mono HGW.out))
            have cs := Fr.scan_c (Ty.S (Fr.frm ah.data.toList ++ (Fr.four s.size ++ m))) (by rw [Ty.size_S, List.length_append, Fr.frm_len, hlen, Ty.length_data]; omega) wr (HW.out.below HBW.out)
            rw [Ty.data_S] at cs
            rw [← hBB]
            rw [← hBB] at HT
            by_cases hB0 : 0 < B
            · rw [HSC1.out m B hB0 hB32 hBM HT.out] at cs
              have hdec : decide (0 < B) = true := by simp [hB0]
              rw [hdec]
              generalize Ty.S (Fr.frm ah.data.toList) = SA at hcat hn0 ⊢
              generalize Ty.S (Fr.four s.size ++ m) = SB at hcat hn0 hstr
              generalize Ty.S (Fr.frm ah.data.toList ++ (Fr.four s.size ++ m)) = SC at hcat cs
              clear hB0 hdec hBB hB32 hBM hlen HSC1 HSC0 x1
              go_wp2_with fail
              with_reducible refine cs.mono ?_
              rintro e w5 ⟨v5, rfl, hV5, g5⟩
              have HB5 := Lib.hid (HBW.out.trans (g5.mono HBW.out.size))
              obtain ⟨c5, a5, rfl⟩ : ∃ a5 c5, v5 = .slice a5 0 c5 := Fr.at_len hV5
              clear cs hV5 g5
              go_wp2
              go_ret
              exact ⟨rfl, HB5.out⟩
            · obtain rfl : B = 0 := by omega
              obtain rfl : m = l := Fr.Turned.zero HT.out
              rw [HSC0.out] at cs
              have hdec : decide (0 < 0) = false := rfl
              rw [hdec]
              generalize Ty.S (Fr.frm ah.data.toList) = SA at hcat hn0 ⊢
              generalize Ty.S (Fr.four s.size ++ m) = SB at hcat hn0 hstr
              generalize Ty.S (Fr.frm ah.data.toList ++ (Fr.four s.size ++ m)) = SC at hcat cs
              clear hB0 hdec hBB hB32 hBM hlen HSC1 HSC0 x1
              go_wp2_with fail
              with_reducible refine cs.mono ?_
              rintro e w5 ⟨v5, rfl, hV5, g5⟩
              have HB5 := Lib.hid (HBW.out.trans (g5.mono HBW.out.size))
              obtain ⟨c5, a5, rfl⟩ : ∃ a5 c5, v5 = .slice a5 2 c5 := Fr.at_len hV5
              clear cs hV5 g5
              go_wp2
              go_ret
              exact ⟨rfl, HB5.out⟩
        · have hl1i : ¬ (k : Int) < 32 := by omega
          have hlen : (Fr.four s.size ++ m).length = M + 4 := by rw [List.length_append, Fr.four_len]; omega
          obtain ⟨B, hBB⟩ : ∃ B, B = X % 2 ^ k := ⟨_, rfl⟩
          have hB32 : B < 2 ^ 32 := by rw [hBB]; exact Nat.lt_of_lt_of_le (Nat.mod_lt _ (Nat.two_pow_pos k)) (Nat.pow_le_pow_right (by omega) hk)
          have hBM : B < 2 ^ (8 * M - A) := by rw [hBB]; exact Nat.lt_of_lt_of_le (Nat.mod_lt _ (Nat.two_pow_pos k)) (Nat.pow_le_pow_right (by omega) (by omega))
          have hstr := HBT2.out.string cap
          rw [hlen] at hstr
          have hcat : Ty.S (Fr.frm ah.data.toList) ++ Ty.S (Fr.four s.size ++ m) = Ty.S (Fr.frm ah.data.toList ++ (Fr.four s.size ++ m)) := Fr.S_add _ _
          have hn0 : ¬ 9223372036854775807 < (Ty.S (Fr.frm ah.data.toList)).size + (Ty.S (Fr.four s.size ++ m)).size := by
            rw [Fr.frm_size, Ty.size_S, hlen, Ty.length_data]; omega
          have HBW := Lib.hid (HB4.out.trans (HB.out.mono HGW.out))
          have cs := Fr.scan_c (Ty.S (Fr.frm ah.data.toList ++ (Fr.four s.size ++ m))) (by rw [Ty.size_S, List.length_append, Fr.frm_len, hlen, Ty.length_data]; omega) wr (HW.out.below HBW.out)
          rw [Ty.data_S] at cs
          rw [← hBB]
          rw [← hBB] at HT
          by_cases hB0 : 0 < B
          · rw [HSC1.out m B hB0 hB32 hBM HT.out] at cs
            have hdec : decide (0 < B) = true := by simp [hB0]
            rw [hdec]
            generalize Ty.S (Fr.frm ah.data.toList) = SA at hcat hn0 ⊢
            generalize Ty.S (Fr.four s.size ++ m) = SB at hcat hn0 hstr
            generalize Ty.S (Fr.frm ah.data.toList ++ (Fr.four s.size ++ m)) = SC at hcat cs
            clear hB0 hdec hBB hB32 hBM hlen HSC1 HSC0 x1
            go_wp2_with fail
            with_reducible refine cs.mono ?_
            rintro e w5 ⟨v5, rfl, hV5, g5⟩
            have HB5 := Lib.hid (HBW.out.trans (g5.mono HBW.out.size))
            obtain ⟨c5, a5, rfl⟩ : ∃ a5 c5, v5 = .slice a5 0 c5 := Fr.at_len hV5
            clear cs hV5 g5
            go_wp2
            go_ret
            exact ⟨rfl, HB5.out⟩
          · obtain rfl : B = 0 := by omega
            obtain rfl : m = l := Fr.Turned.zero HT.out
            rw [HSC0.out] at cs
            have hdec : decide (0 < 0) = false := rfl
            rw [hdec]
            generalize Ty.S (Fr.frm ah.data.toList) = SA at hcat hn0 ⊢
            generalize Ty.S (Fr.four s.size ++ m) = SB at hcat hn0 hstr
            generalize Ty.S (Fr.frm ah.data.toList ++ (Fr.four s.size ++ m)) = SC at hcat cs
            clear hB0 hdec hBB hB32 hBM hlen HSC1 HSC0 x1
            go_wp2_with fail
            with_reducible refine cs.mono ?_
            rintro e w5 ⟨v5, rfl, hV5, g5⟩
            have HB5 := Lib.hid (HBW.out.trans (g5.mono HBW.out.size))
            obtain ⟨c5, a5, rfl⟩ : ∃ a5 c5, v5 = .slice a5 2 c5 := Fr.at_len hV5
            clear cs hV5 g5
            go_wp2
            go_ret
            exact ⟨rfl, HB5.out⟩
end Go.Proofs.Ytkbkhohknniibaa
