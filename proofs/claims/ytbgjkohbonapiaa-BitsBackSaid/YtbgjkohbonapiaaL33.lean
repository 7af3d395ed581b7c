/-
  The walks of the laws BitsOnly, BitsLeast, BitsBack.
-/
import Derived.Test.YtbgjkohbonapiaaL32
namespace Go.Proofs.Ytbgjkohbonapiaa
open Go.RowKit
theorem Bt.up_ok {s : ByteArray} {z y : Int} (h : Bt.upE s z y = 0) : ∃ n q : Nat, z = n ∧ y = q ∧ n ≤ 65536 ∧ q ≤ 64 ∧ Bt.chk s (n * q) = 0 := by
  unfold Bt.upE at h
  split at h
  · rename_i h1
    obtain ⟨n, rfl⟩ := Int.eq_ofNat_of_zero_le h1.2.1
    obtain ⟨q, rfl⟩ := Int.eq_ofNat_of_zero_le h1.1.1
    exact ⟨n, q, rfl, rfl, by omega, by omega, h⟩
  · cases h
theorem Bt.nums_lt (s : ByteArray) (q i : Nat) (hq : q ≤ 64) : Bt.nums s q i < 2 ^ 64 := Nat.lt_of_lt_of_le (Bt.num_lt q _) (Nat.pow_le_pow_right (by decide) hq)
set_option maxHeartbeats 1000000 in
theorem Bt.lawOnly_w (s : ByteArray) (z y : Int) (w : World) (hs : s.size ≤ 140737488355328) :
    Calls Try.prog 7 #[.string s, .int .i64 z, .int .i64 y] w fun e w' => e = .returned (.bool true) ∧ Below w.heap.size w w' := by
  have c1 := fun w => Bt.unpack_c s z y w hs
  by_cases hE : Bt.upE s z y = 0
  · obtain ⟨n, q, rfl, rfl, hn, hq, hc⟩ := Bt.up_ok hE
    have e2 : Bt.upN s (n : Int) (q : Int) = n := by unfold Bt.upN; rw [if_pos hE]; rfl
    rw [hE, e2, Int.toNat_natCast] at c1
    have hw : Bt.wid n (Bt.nums s q) ≤ q := (Bt.wid_le _ _ _).2 fun i _ => Bt.num_lt q _
    have c2 := fun v w h => Bt.pack_ok v n (Bt.nums s q) q w h (fun i => Bt.nums_lt s q i hq) (by omega) hq hw
    have e3 : Bt.bytes (Bt.need (n * q)) (Bt.pk n (Bt.nums s q) q) = s := Bt.only hc
    rw [e3] at c2
    clear hE e2 hc hw e3 hs hn hq
    go_enter Try.func7, Try.ntmps7
    go_wp2_with fail
    refine (Bt.lives_c _).mono ?_
    rintro e w1 ⟨rfl, hb1⟩
    go_wp2_with fail
    refine (c1 _).mono ?_
    rintro e w2 ⟨v1, rfl, k1, g2⟩
    have hb2 := hb1.trans (g2.mono hb1.size)
    have d2 := c2 v1 _ k1
    obtain ⟨a, c, rfl, h⟩ := k1
    clear c1 c2 hb1 g2 h
    go_wp2_with fail
    refine d2.mono ?_
    rintro e w3 ⟨rfl, g3⟩
    have hb3 := hb2.trans (g3.mono hb2.size)
    clear d2 hb2 g3
    go_wp2
    go_ret
    exact ⟨rfl, hb3⟩
  · have e2 : Bt.upN s z y = 0 := by unfold Bt.upN; rw [if_neg hE]
    rw [e2] at c1
    generalize Bt.upE s z y = E at hE c1
    have hE2 : ((E : Int) != 0) = true := by rw [bne_iff_ne]; omega
    clear hE e2 hs
    go_enter Try.func7, Try.ntmps7
    go_wp2_with fail
    refine (Bt.lives_c _).mono ?_
    rintro e w1 ⟨rfl, hb1⟩
    go_wp2_with fail
    refine (c1 _).mono ?_
    rintro e w2 ⟨v1, rfl, k1, g2⟩
    have hb2 := hb1.trans (g2.mono hb1.size)
    obtain ⟨a, c, rfl, h⟩ := k1
    clear c1 hb1 g2 h
    go_wp2
    go_ret
    exact ⟨rfl, hb2⟩
set_option maxHeartbeats 1000000 in
theorem Bt.lawLeast_w (v : Value) (n : Nat) (X : Nat → Nat) (w : World) (h : Bt.Sl w v n (Bt.nv X)) (hX : ∀ i, X i < 2 ^ 64) (hn : n ≤ 17592186044416) :
    Calls Try.prog 8 #[v] w fun e w' => e = .returned (.bool true) ∧ Below w.heap.size w w' := by
  have c0 := fun w h => Bt.width_c v n X w h hX (by omega)
  have h64 := Bt.wid_64 (n := n) hX
  have c1 := fun w h => Bt.pack_ok v n X _ w h hX hn h64 (Nat.le_refl _)
  have c2 := fun w h => Bt.pack_c v n X ((Bt.wid n X : Nat) - 1 : Int) w h hX hn
  by_cases hz : Bt.wid n X = 0
  · have e2 : Bt.packV n X ((Bt.wid n X : Nat) - 1 : Int) = .tuple #[.string ⟨#[]⟩, .int .i64 1] := by
      unfold Bt.packV
      rw [if_neg (by omega)]
    rw [e2] at c2
    rw [hz] at c0 c1 c2
    clear e2 hz h64 hX hn
    go_enter Try.func8, Try.ntmps8
    go_wp2_with fail
    refine (Bt.lives_c _).mono ?_
    rintro e w1 ⟨rfl, hb1⟩
    have h1 := h.later hb1
    have d0 := c0 _ h1
    have d1 := c1 _ h1
    clear c0 c1 h
    go_wp2_with fail
    refine d0.mono ?_
    rintro e w2 ⟨rfl, rfl⟩
    go_wp2_with fail
    refine d1.mono ?_
    rintro e w3 ⟨rfl, g3⟩
    have h3 := h1.later g3
    have d2 := c2 _ h3
    have hb3 := hb1.trans (g3.mono hb1.size)
    clear d0 d1 c2 h1 hb1 g3 h3
    go_wp2_with fail
    refine d2.mono ?_
    rintro e w4 ⟨rfl, g4⟩
    have hb4 := hb3.trans (g4.mono hb3.size)
    clear d2 hb3 g4
    go_wp2
    go_ret
    exact ⟨rfl, hb4⟩
  · have e2 : Bt.packV n X ((Bt.wid n X : Nat) - 1 : Int) = .tuple #[.string ⟨#[]⟩, .int .i64 4] := by
      unfold Bt.packV
      rw [if_pos (by omega), if_pos (by omega)]
    rw [e2] at c2
    generalize Bt.wid n X = q at c0 c1 c2 h64 hz
    have hq0 : ((q : Int) == 0) = false := by rw [beq_eq_false_iff_ne]; omega
    have hq1 : (0 : Int) < (q : Int) := by omega
    clear e2 hz hX hn
    go_enter Try.func8, Try.ntmps8
    go_wp2_with fail
    refine (Bt.lives_c _).mono ?_
    rintro e w1 ⟨rfl, hb1⟩
    have h1 := h.later hb1
    have d0 := c0 _ h1
    have d1 := c1 _ h1
    clear c0 c1 h
    go_wp2_with fail
    refine d0.mono ?_
    rintro e w2 ⟨rfl, rfl⟩
    go_wp2_with fail
    refine d1.mono ?_
    rintro e w3 ⟨rfl, g3⟩
    have h3 := h1.later g3
    have d2 := c2 _ h3
    have hb3 := hb1.trans (g3.mono hb1.size)
    clear d0 d1 c2 h1 hb1 g3 h3
    go_wp2_with fail
    refine d2.mono ?_
    rintro e w4 ⟨rfl, g4⟩
    have hb4 := hb3.trans (g4.mono hb3.size)
    clear d2 hb3 g4
    go_wp2
    go_ret
    exact ⟨rfl, hb4⟩
theorem Bt.Sl.congr {w : World} {v : Value} {n : Nat} {f g : Nat → Value} (h : Bt.Sl w v n f) (e : ∀ i, i < n → f i = g i) : Bt.Sl w v n g := by
  obtain ⟨a, c, rfl, h⟩ := h
  refine ⟨a, c, rfl, ?_⟩
  rcases h with h | ⟨b, o, rfl, hlt, h⟩
  · exact .inl h
  · exact .inr ⟨b, o, rfl, hlt, fun i hi => by rw [h i hi, e i hi]⟩
/-- The bits more than are needed. -/
theorem Bt.more_is (z : Int) : ∃ m : Nat, m < 65 ∧ ((IntKind.u64.wrap z).tmod 65 = (m : Int)) := by
  have h := IntKind.wrap_u64 z
  refine ⟨(z % 18446744073709551616 % 65).toNat, by omega, ?_⟩
  rw [h, Int.tmod_eq_emod_of_nonneg (by omega)]
  omega
set_option maxHeartbeats 2000000 in
theorem Bt.lawBack_w (v : Value) (n : Nat) (X : Nat → Nat) (z : Int) (u : Value) (m : Nat) (T : Nat → Bool) (w : World) (h : Bt.Sl w v n (Bt.nv X)) (hX : ∀ i, X i < 2 ^ 64) (hu : Bt.Sl w u m (Bt.bv T)) (hn : n ≤ 140737488355328) (hm : m ≤ 140737488355328) :
    Calls Try.prog 6 #[v, .int .i64 z, u] w fun e w' => e = .returned (.bool true) ∧ Below w.heap.size w w' := by
  by_cases hn1 : 65536 < n
  · obtain ⟨a, c, rfl, h⟩ := h
    obtain ⟨a2, c2, rfl, hu⟩ := hu
    have hn2 : (65536 : Int) < (n : Int) := by omega
    clear h hX hu
    go_enter Try.func6, Try.ntmps6
    go_wp2_with fail
    refine (Bt.lives_c _).mono ?_
    rintro e w1 ⟨rfl, hb1⟩
    go_wp2_with fail
    refine (Bt.lives_c _).mono ?_
    rintro e w2 ⟨rfl, g2⟩
    have hb2 := hb1.trans (g2.mono hb1.size)
    clear hb1 g2
    go_wp2
    go_ret
    exact ⟨rfl, hb2⟩
  · by_cases hm1 : 65536 < m
    · obtain ⟨a, c, rfl, h⟩ := h
      obtain ⟨a2, c2, rfl, hu⟩ := hu
      have hm2 : (65536 : Int) < (m : Int) := by omega
      clear h hX hu
      go_enter Try.func6, Try.ntmps6
      go_wp2_with fail
      refine (Bt.lives_c _).mono ?_
      rintro e w1 ⟨rfl, hb1⟩
      go_wp2_with fail
      refine (Bt.lives_c _).mono ?_
      rintro e w2 ⟨rfl, g2⟩
      have hb2 := hb1.trans (g2.mono hb1.size)
      clear hb1 g2
      go_wp2
      go_ret
      exact ⟨rfl, hb2⟩
    · have h64 := Bt.wid_64 (n := n) hX
      obtain ⟨d, hd, hdi⟩ := Bt.more_is z
      have c0 := fun w h => Bt.width_c v n X w h hX (by omega)
      obtain ⟨q, eq⟩ : ∃ q, q = min (Bt.wid n X + d) 64 := ⟨_, rfl⟩
      have hq : q ≤ 64 := by omega
      have hwq : Bt.wid n X ≤ q := by omega
      have c1 := fun w h => Bt.pack_ok v n X q w h hX (by omega) hq hwq
      have hmul := Bt.mul_le n q hq
      have c2 := fun w => Bt.unpack_c (Bt.bytes (Bt.need (n * q)) (Bt.pk n X q)) n q w (by rw [Bt.size_bytes]; unfold Bt.need; omega)
      have e1 : Bt.upE (Bt.bytes (Bt.need (n * q)) (Bt.pk n X q)) (n : Int) (q : Int) = 0 := by
        unfold Bt.upE
        rw [if_pos (by omega)]
        exact Bt.chk_pack n X q
      have e2 : Bt.upN (Bt.bytes (Bt.need (n * q)) (Bt.pk n X q)) (n : Int) (q : Int) = n := by unfold Bt.upN; rw [if_pos e1]; rfl
      rw [e1, e2, Int.toNat_natCast] at c2
      have hbk : ∀ i, i < n → Bt.nv (Bt.nums (Bt.bytes (Bt.need (n * q)) (Bt.pk n X q)) q) i = Bt.nv X i := fun i hi => by
        unfold Bt.nv Bt.nums
        rw [Bt.back hi ((Bt.wid_le n X q).1 hwq i hi)]
      have c3 := fun w h => Bt.truths_c u m T w h (by omega)
      have c4 := fun w => Bt.untruths_c (Bt.bytes (Bt.need m) (Bt.tr m T)) m w (by rw [Bt.size_bytes]; unfold Bt.need; omega)
      have e3 : Bt.utE (Bt.bytes (Bt.need m) (Bt.tr m T)) (m : Int) = 0 := by
        unfold Bt.utE
        rw [if_pos (by omega)]
        exact Bt.chk_truths m T
      have e4 : Bt.utN (Bt.bytes (Bt.need m) (Bt.tr m T)) (m : Int) = m := by unfold Bt.utN; rw [if_pos e3]; rfl
      rw [e3, e4] at c4
      have hbt : ∀ i, i < m → Bt.bv (Bt.bit (Bt.bytes (Bt.need m) (Bt.tr m T))) i = Bt.bv T i := fun i hi => by
        unfold Bt.bv
        rw [Bt.bit_truths T hi]
      generalize Bt.bytes (Bt.need (n * q)) (Bt.pk n X q) = S at c1 c2 hbk
      generalize Bt.bytes (Bt.need m) (Bt.tr m T) = R at c3 c4 hbt
      have HBK := Lib.hid hbk
      have HBT := Lib.hid hbt
      have hn2 : ¬ (65536 : Int) < (n : Int) := by omega
      have hm2 : ¬ (65536 : Int) < (m : Int) := by omega
      obtain ⟨x, ex⟩ : ∃ x, x = Bt.wid n X := ⟨_, rfl⟩
      rw [← ex] at c0 eq h64
      have hway : ((x : Int) + (d : Int) ≤ 64 ∧ (q : Int) = (x : Int) + (d : Int)) ∨ (64 < (x : Int) + (d : Int) ∧ (q : Int) = 64) := by omega
      have d0 := fun v' w' (k : Bt.Sl w' v' n (Bt.nums S q |> Bt.nv)) (k2 : Bt.Sl w' v n (Bt.nv X)) => Bt.sameN_c v' v n X w' (k.congr HBK.out) k2 (by omega)
      have d1 := fun v' w' (k : Bt.Sl w' v' m (Bt.bit R |> Bt.bv)) (k2 : Bt.Sl w' u m (Bt.bv T)) => Bt.sameT_c v' u m T w' (k.congr HBT.out) k2 (by omega)
      have HH := Lib.hid h
      have HU := Lib.hid hu
      obtain ⟨a, c, rfl, h⟩ := h
      obtain ⟨a2, c2', rfl, hu⟩ := hu
      clear e1 e2 e3 e4 hbk hbt ex hX hwq hmul h hu eq hn hm hn1 hm1
      rcases hway with ⟨hxd, hqy⟩ | ⟨hxd, hqy⟩
      all_goals
        rw [hqy] at c1 c2
        clear hqy
        go_enter Try.func6, Try.ntmps6
        go_wp2_with fail
        refine (Bt.lives_c _).mono ?_
        rintro e w1 ⟨rfl, hb1⟩
        have h1 := HH.out.later hb1
        have u1 := HU.out.later hb1
        have f0 := c0 _ h1
        have f1 := c1 _ h1
        have H1 := Lib.hid h1
        have U1 := Lib.hid u1
        clear HH HU h1 u1 c0 c1
        go_wp2_with fail
        refine f0.mono ?_
        rintro e w2 ⟨rfl, rfl⟩
        clear f0
        go_wp2_with fail
        refine f1.mono ?_
        rintro e w3 ⟨rfl, g3⟩
        have H3 := Lib.hid (H1.out.later g3)
        have U3 := Lib.hid (U1.out.later g3)
        have hb3 := hb1.trans (g3.mono hb1.size)
        clear f1 H1 U1 hb1 g3
        go_wp2_with fail
        refine (c2 _).mono ?_
        rintro e w4 ⟨v4, rfl, k4, g4⟩
        have K4 := Lib.hid k4
        have H4 := Lib.hid (H3.out.later g4)
        have u4 := U3.out.later g4
        have hb4 := hb3.trans (g4.mono hb3.size)
        have f3 := c3 _ u4
        have U4 := Lib.hid u4
        clear c2 c3 H3 U3 hb3 g4 k4 u4
        go_wp2_with fail
        refine f3.mono ?_
        rintro e w5 ⟨rfl, g5⟩
        have K5 := Lib.hid (K4.out.later g5)
        have H5 := Lib.hid (H4.out.later g5)
        have U5 := Lib.hid (U4.out.later g5)
        have hb5 := hb4.trans (g5.mono hb4.size)
        clear f3 K4 H4 U4 hb4 g5
        go_wp2_with fail
        refine (c4 _).mono ?_
        rintro e w6 ⟨v6, rfl, k6, g6⟩
        have K6 := Lib.hid k6
        have f4 := d0 v4 _ (K5.out.later g6) (H5.out.later g6)
        have U6 := Lib.hid (U5.out.later g6)
        have hb6 := hb5.trans (g6.mono hb5.size)
        clear c4 K5 H5 U5 hb5 g6 k6 d0
        go_wp2_with fail
        refine f4.mono ?_
        rintro e w7 ⟨rfl, g7⟩
        have f5 := d1 v6 _ (K6.out.later g7) (U6.out.later g7)
        have hb7 := hb6.trans (g7.mono hb6.size)
        clear f4 K6 U6 hb6 g7 d1
        go_wp2_with fail
        refine f5.mono ?_
        rintro e w8 ⟨rfl, g8⟩
        have hb8 := hb7.trans (g8.mono hb7.size)
        clear f5 hb7 g8
        go_wp2
        go_ret
        exact ⟨rfl, hb8⟩
end Go.Proofs.Ytbgjkohbonapiaa
