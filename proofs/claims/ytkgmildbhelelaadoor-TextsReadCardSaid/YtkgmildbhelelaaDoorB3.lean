/-
  Contracts of package bits: 'get', 'check' and the library's Len64.
-/
import Derived.Test.YtkgmildbhelelaaDoorB2
import Derived.Lib.BitFns
namespace Go.Proofs.YtkgmildbhelelaaDoor
open Go.RowKit
theorem Bt.wraps_u64 (n : Int) (h₀ : 0 ≤ n) (h₁ : n < 2 ^ 64) : IntKind.u64.wrap n = n := by rw [IntKind.wrap_u64]; omega
theorem Bt.or64 (m b r k : Nat) (hm : m < 2 ^ 64) (hb : b < 256) :
    bits .or .u64 (m : Int) (IntKind.u64.wrap (IntKind.u64.wrap ((b : Int) / 2 ^ r) * 2 ^ k)) = ((m ||| (b / 2 ^ r * 2 ^ k % 2 ^ 64) : Nat) : Int) := by
  have e1 : (b : Int) / 2 ^ r = ((b / 2 ^ r : Nat) : Int) := by simp
  have hx : b / 2 ^ r < 256 := Nat.lt_of_le_of_lt (Nat.div_le_self _ _) hb
  rw [e1, Bt.wraps_u64 ((b / 2 ^ r : Nat) : Int) (Int.natCast_nonneg _) (Int.lt_trans (Int.ofNat_lt.2 hx) (by decide))]
  have e2 : ((b / 2 ^ r : Nat) : Int) * 2 ^ k = ((b / 2 ^ r * 2 ^ k : Nat) : Int) := by simp
  rw [e2, IntKind.wrap_u64]
  have e3 : ((b / 2 ^ r * 2 ^ k : Nat) : Int) % 18446744073709551616 = ((b / 2 ^ r * 2 ^ k % 2 ^ 64 : Nat) : Int) := by omega
  rw [e3, (bits_nat .u64 64 (by decide) Bt.wraps_u64 _ _ hm (Nat.mod_lt _ (Nat.two_pow_pos _))).2]
theorem Bt.and64 (m n : Nat) (hm : m < 2 ^ 64) (hn : n ≤ 64) :
    bits .and .u64 (m : Int) (IntKind.u64.wrap (IntKind.u64.wrap (2 ^ n) - 1)) = ((m &&& (2 ^ n - 1) : Nat) : Int) := by
  have h1 : 2 ^ n - 1 < 2 ^ 64 := Nat.lt_of_lt_of_le (Nat.sub_lt (Nat.two_pow_pos _) (by decide)) (Nat.pow_le_pow_right (by decide) hn)
  have e : IntKind.u64.wrap (IntKind.u64.wrap (2 ^ n) - 1) = ((2 ^ n - 1 : Nat) : Int) := by
    have hp := Nat.two_pow_pos n
    have e0 : (2 : Int) ^ n = ((2 ^ n : Nat) : Int) := by simp
    rw [e0]
    by_cases h : n = 64
    · subst h
      rw [IntKind.wrap_u64, IntKind.wrap_u64]
      decide
    · have h2 : 2 ^ n ≤ 2 ^ 63 := Nat.pow_le_pow_right (by decide) (by omega)
      have e1 : IntKind.u64.wrap ((2 ^ n : Nat) : Int) = ((2 ^ n : Nat) : Int) := Bt.wraps_u64 _ (by omega) (by omega)
      rw [e1, Bt.wraps_u64 _ (by omega) (by omega)]
      omega
  rw [e, (bits_nat .u64 64 (by decide) Bt.wraps_u64 _ _ hm h1).1]
theorem Bt.reti {k : IntKind} {x y : Int} (h : x = y) : Ending.returned (.int k x) = Ending.returned (.int k y) := by rw [h]
set_option maxHeartbeats 1000000 in
theorem Bt.get_c (s : ByteArray) (p n : Nat) (w : World) (hn : n ≤ 64) (hs : p + n ≤ 8 * s.size) (hp : p ≤ 9007199254740992) :
    Calls Tryd.prog 130 #[.string s, .int .i64 p, .int .i64 n] w fun e w' => e = .returned (.int .u64 (Bt.num n (fun j => Bt.bit s (p + j)) : Nat)) ∧ w' = w := by
  go_enter Tryd.func130, Tryd.ntmps130
  go_wp2
  go_loop [7, 8] (fun v d => ∃ m k : Nat, v = .int .u64 m ∧ d = .int .i64 k ∧ k ≤ 72 ∧ Bt.Got s p k m) (fun _ d => 72 - (intOf d).toNat)
  case atStart => exact ⟨0, 0, rfl, rfl, by omega, Bt.Got.zero s p⟩
  case round =>
    obtain ⟨m, k, rfl, rfl, hk, hG⟩ := hrel
    have HG := Lib.hid hG
    clear hG
    by_cases hl : k < n
    · obtain ⟨q, eq⟩ : ∃ q, q = (p + k) / 8 := ⟨_, rfl⟩
      obtain ⟨r, er⟩ : ∃ r, r = (p + k) % 8 := ⟨_, rfl⟩
      have hi : q < s.size := by omega
      have hq : ((p : Int) + (k : Int)) / 8 = (q : Int) := by omega
      have hr : ((p : Int) + (k : Int)) % 8 = (r : Int) := by omega
      have hr8 : r < 8 := by omega
      have HE := Lib.hid (And.intro eq er)
      have HS := Lib.hid hs
      clear eq er hs
      go_wp2
      obtain ⟨eq, er⟩ := HE.out
      go_round
      case rel =>
        have h1 := HG.out.next (by rw [← eq]; exact hi)
        have hb := s[q].toNat_lt
        refine ⟨m ||| (s[q].toNat / 2 ^ r * 2 ^ k % 2 ^ 64), k + (8 - r), ?_, ?_, by omega, ?_⟩
        · rw [Bt.or64 m _ r k HG.out.1 hb]
        · congr 1; omega
        · subst eq er
          exact h1
      case measure => simp [intOf]; omega
    · go_wp2
      go_ret
      exact ⟨Bt.reti (by rw [Bt.and64 m n HG.out.1 hn, HG.out.last (by omega) hn]), rfl⟩
set_option maxHeartbeats 1000000 in
theorem Bt.check_c (s : ByteArray) (n : Nat) (w : World) (hn : n ≤ 9007199254740992) (hs : s.size ≤ 9007199254740992) :
    Calls Tryd.prog 129 #[.string s, .int .i64 n] w fun e w' => e = .returned (.int .i64 (Bt.chk s n : Nat)) ∧ w' = w := by
  generalize hC : Bt.chk s n = C
  have HC := Lib.hid hC
  have HN : Hid (Bt.need n ≤ 9007199254740992) := Lib.hid (by unfold Bt.need; omega)
  have c1 := fun w => Bt.size_c n (by omega) w
  obtain ⟨d, ed⟩ : ∃ d, d = Bt.need n := ⟨_, rfl⟩
  rw [← ed] at c1 HN
  have ED := Lib.hid ed
  clear hC ed
  by_cases h1 : s.size < d
  · have e : C = 2 := by rw [← HC.out, Bt.chk, ← ED.out, if_pos h1]
    subst e
    go_enter Tryd.func129, Tryd.ntmps129
    go_wp2_with fail
    refine (c1 _).mono ?_
    rintro e w' ⟨rfl, rfl⟩
    go_wp2
    go_ret
    exact ⟨rfl, rfl⟩
  · by_cases h2 : d < s.size
    · have e : C = 3 := by rw [← HC.out, Bt.chk, ← ED.out, if_neg h1, if_pos h2]
      subst e
      go_enter Tryd.func129, Tryd.ntmps129
      go_wp2_with fail
      refine (c1 _).mono ?_
      rintro e w' ⟨rfl, rfl⟩
      go_wp2_with fail
      refine (c1 _).mono ?_
      rintro e w' ⟨rfl, rfl⟩
      go_wp2
      go_ret
      exact ⟨rfl, rfl⟩
    · obtain ⟨r, er⟩ : ∃ r, r = n % 8 := ⟨_, rfl⟩
      have hr : (n : Int) % 8 = (r : Int) := by omega
      have ER := Lib.hid er
      clear er
      by_cases h3 : 0 < r
      · obtain ⟨q, eq⟩ : ∃ q, q = s.size - 1 := ⟨_, rfl⟩
        have hsz : s.size = Bt.need n := by have := ED.out; omega
        have hpos : 0 < s.size := by rw [hsz]; unfold Bt.need; have := ER.out; omega
        have hi : q < s.size := by omega
        have hq : (s.size : Int) - 1 = (q : Int) := by omega
        have HD : Hid (Bt.dirty s n = decide (s[q].toNat / 2 ^ r ≠ 0)) := Lib.hid (by
          subst eq
          rw [ER.out]
          exact Bt.dirty_last s n (by have := ER.out; omega) hsz hi)
        have h3i : (0 : Int) < (r : Int) := by omega
        clear hsz hpos eq
        by_cases h4 : s[q].toNat / 2 ^ r = 0
        · have e : C = 0 := by rw [← HC.out, Bt.chk, ← ED.out, if_neg h1, if_neg h2, HD.out, h4]; rfl
          subst e
          have hb : ((s[q].toNat : Int) / 2 ^ r != 0) = false := by
            rw [bne_eq_false_iff_eq]
            have e : (s[q].toNat : Int) / 2 ^ r = ((s[q].toNat / 2 ^ r : Nat) : Int) := by simp
            rw [e, h4]; rfl
          go_enter Tryd.func129, Tryd.ntmps129
          go_wp2_with fail
          refine (c1 _).mono ?_
          rintro e w' ⟨rfl, rfl⟩
          go_wp2_with fail
          refine (c1 _).mono ?_
          rintro e w' ⟨rfl, rfl⟩
          go_wp2
          go_ret
          exact ⟨rfl, rfl⟩
        · have e : C = 5 := by rw [← HC.out, Bt.chk, ← ED.out, if_neg h1, if_neg h2, HD.out, decide_eq_true h4]; rfl
          subst e
          have hb : ((s[q].toNat : Int) / 2 ^ r != 0) = true := by
            rw [bne_iff_ne]
            have e : (s[q].toNat : Int) / 2 ^ r = ((s[q].toNat / 2 ^ r : Nat) : Int) := by simp
            rw [e]; omega
          clear h4
          go_enter Tryd.func129, Tryd.ntmps129
          go_wp2_with fail
          refine (c1 _).mono ?_
          rintro e w' ⟨rfl, rfl⟩
          go_wp2_with fail
          refine (c1 _).mono ?_
          rintro e w' ⟨rfl, rfl⟩
          go_wp2
          go_ret
          exact ⟨rfl, rfl⟩
      · have e : C = 0 := by rw [← HC.out, Bt.chk, ← ED.out, if_neg h1, if_neg h2, Bt.dirty_none s n (by have := ER.out; omega)]; rfl
        subst e
        go_enter Tryd.func129, Tryd.ntmps129
        go_wp2_with fail
        refine (c1 _).mono ?_
        rintro e w' ⟨rfl, rfl⟩
        go_wp2_with fail
        refine (c1 _).mono ?_
        rintro e w' ⟨rfl, rfl⟩
        go_wp2
        go_ret
        exact ⟨rfl, rfl⟩
/-- How many bits: the table of 256 bytes. -/
theorem Bt.len8_all : ∀ x : Fin 256, Lib.len8 ((x.val : Nat) : Int) = ((bitLen x.val : Nat) : Int) := by decide +kernel
theorem Bt.len_end (k x : Nat) (hk : k ≤ 56) (h : x < 256) : wrap64 ((k : Int) + wrap64 (Lib.len8 ((x : Int) % 256))) = ((k + bitLen x : Nat) : Int) := by
  have e : (x : Int) % 256 = (x : Int) := by omega
  have e2 : Lib.len8 (x : Int) = ((bitLen x : Nat) : Int) := Bt.len8_all ⟨x, h⟩
  have h8 := bitLen_le8 x h
  have e3 : wrap64 ((bitLen x : Nat) : Int) = ((bitLen x : Nat) : Int) := IntWalk.wrap64_in _ (by omega)
  rw [e, e2, e3, IntWalk.wrap64_in _ (by omega)]
  simp
theorem Bt.len_end0 (x : Nat) (h : x < 256) : wrap64 (wrap64 (Lib.len8 ((x : Int) % 256))) = ((bitLen x : Nat) : Int) := by
  have := Bt.len_end 0 x (by decide) h
  simpa using this
set_option maxHeartbeats 2000000 in
set_option maxRecDepth 100000 in
theorem Bt.len64_c (n : Nat) (hn : n < 18446744073709551616) (w : World) :
    Calls Tryd.prog 121 #[.int .u64 n] w fun e w' => e = .returned (.int .i64 (bitLen n : Nat)) ∧ w' = w := by
  have H := Lib.hid hn
  clear hn
  by_cases h1 : (4294967296 : Int) ≤ (n : Int)
  · obtain ⟨x1, e1⟩ : ∃ x, x = n / 4294967296 := ⟨_, rfl⟩
    have q1 : (n : Int) / 4294967296 = (x1 : Int) := by omega
    have g1 : 1 ≤ x1 ∧ x1 < 4294967296 := by have := H.out; omega
    by_cases h2 : (65536 : Int) ≤ (x1 : Int)
    · obtain ⟨x2, e2⟩ : ∃ x, x = x1 / 65536 := ⟨_, rfl⟩
      have q2 : (x1 : Int) / 65536 = (x2 : Int) := by omega
      have g2 : 1 ≤ x2 ∧ x2 < 65536 := by have := H.out; omega
      by_cases h3 : (256 : Int) ≤ (x2 : Int)
      · obtain ⟨x3, e3⟩ : ∃ x, x = x2 / 256 := ⟨_, rfl⟩
        have q3 : (x2 : Int) / 256 = (x3 : Int) := by omega
        have g3 : 1 ≤ x3 ∧ x3 < 256 := by have := H.out; omega
        have hx8 : x3 < 256 := by omega
        have HB : Hid (bitLen n = 56 + bitLen x3) := Lib.hid (by have := H.out; have e : x3 = n / 2 ^ 56 := (by omega); rw [e]; exact bitLen_shift n 56 (by rw [← e]; omega))
        have HX := Lib.hid hx8
        clear hx8 g1 g2 g3 e1 e2 e3
        go_enter Tryd.func121, Tryd.ntmps121
        go_wp2
        go_ret
        exact ⟨Bt.reti (by rw [HB.out]; exact Bt.len_end 56 _ (by decide) HX.out), rfl⟩
      · have b3 : decide ((256 : Int) ≤ (x2 : Int)) = false := decide_eq_false h3
        have f3 : x2 < 256 := by omega
        clear h3
        have hx8 : x2 < 256 := by omega
        have HB : Hid (bitLen n = 48 + bitLen x2) := Lib.hid (by have := H.out; have e : x2 = n / 2 ^ 48 := (by omega); rw [e]; exact bitLen_shift n 48 (by rw [← e]; omega))
        have HX := Lib.hid hx8
        clear hx8 f3 g1 g2 e1 e2
        go_enter Tryd.func121, Tryd.ntmps121
        go_wp2
        go_ret
        exact ⟨Bt.reti (by rw [HB.out]; exact Bt.len_end 48 _ (by decide) HX.out), rfl⟩
    · have b2 : decide ((65536 : Int) ≤ (x1 : Int)) = false := decide_eq_false h2
      have f2 : x1 < 65536 := by omega
      clear h2
      by_cases h3 : (256 : Int) ≤ (x1 : Int)
      · obtain ⟨x3, e3⟩ : ∃ x, x = x1 / 256 := ⟨_, rfl⟩
        have q3 : (x1 : Int) / 256 = (x3 : Int) := by omega
        have g3 : 1 ≤ x3 ∧ x3 < 256 := by have := H.out; omega
        have hx8 : x3 < 256 := by omega
        have HB : Hid (bitLen n = 40 + bitLen x3) := Lib.hid (by have := H.out; have e : x3 = n / 2 ^ 40 := (by omega); rw [e]; exact bitLen_shift n 40 (by rw [← e]; omega))
        have HX := Lib.hid hx8
        clear hx8 f2 g1 g3 e1 e3
        go_enter Tryd.func121, Tryd.ntmps121
        go_wp2
        go_ret
        exact ⟨Bt.reti (by rw [HB.out]; exact Bt.len_end 40 _ (by decide) HX.out), rfl⟩
      · have b3 : decide ((256 : Int) ≤ (x1 : Int)) = false := decide_eq_false h3
        have f3 : x1 < 256 := by omega
        clear h3
        have hx8 : x1 < 256 := by omega
        have HB : Hid (bitLen n = 32 + bitLen x1) := Lib.hid (by have := H.out; have e : x1 = n / 2 ^ 32 := (by omega); rw [e]; exact bitLen_shift n 32 (by rw [← e]; omega))
        have HX := Lib.hid hx8
        clear hx8 f2 f3 g1 e1
        go_enter Tryd.func121, Tryd.ntmps121
        go_wp2
        go_ret
        exact ⟨Bt.reti (by rw [HB.out]; exact Bt.len_end 32 _ (by decide) HX.out), rfl⟩
  · have b1 : decide ((4294967296 : Int) ≤ (n : Int)) = false := decide_eq_false h1
    have f1 : n < 4294967296 := by omega
    clear h1
    by_cases h2 : (65536 : Int) ≤ (n : Int)
    · obtain ⟨x2, e2⟩ : ∃ x, x = n / 65536 := ⟨_, rfl⟩
      have q2 : (n : Int) / 65536 = (x2 : Int) := by omega
      have g2 : 1 ≤ x2 ∧ x2 < 65536 := by have := H.out; omega
      by_cases h3 : (256 : Int) ≤ (x2 : Int)
      · obtain ⟨x3, e3⟩ : ∃ x, x = x2 / 256 := ⟨_, rfl⟩
        have q3 : (x2 : Int) / 256 = (x3 : Int) := by omega
        have g3 : 1 ≤ x3 ∧ x3 < 256 := by have := H.out; omega
        have hx8 : x3 < 256 := by omega
        have HB : Hid (bitLen n = 24 + bitLen x3) := Lib.hid (by have := H.out; have e : x3 = n / 2 ^ 24 := (by omega); rw [e]; exact bitLen_shift n 24 (by rw [← e]; omega))
        have HX := Lib.hid hx8
        clear hx8 f1 g2 g3 e2 e3
        go_enter Tryd.func121, Tryd.ntmps121
        go_wp2
        go_ret
        exact ⟨Bt.reti (by rw [HB.out]; exact Bt.len_end 24 _ (by decide) HX.out), rfl⟩
      · have b3 : decide ((256 : Int) ≤ (x2 : Int)) = false := decide_eq_false h3
        have f3 : x2 < 256 := by omega
        clear h3
        have hx8 : x2 < 256 := by omega
        have HB : Hid (bitLen n = 16 + bitLen x2) := Lib.hid (by have := H.out; have e : x2 = n / 2 ^ 16 := (by omega); rw [e]; exact bitLen_shift n 16 (by rw [← e]; omega))
        have HX := Lib.hid hx8
        clear hx8 f1 f3 g2 e2
        go_enter Tryd.func121, Tryd.ntmps121
        go_wp2
        go_ret
        exact ⟨Bt.reti (by rw [HB.out]; exact Bt.len_end 16 _ (by decide) HX.out), rfl⟩
    · have b2 : decide ((65536 : Int) ≤ (n : Int)) = false := decide_eq_false h2
      have f2 : n < 65536 := by omega
      clear h2
      by_cases h3 : (256 : Int) ≤ (n : Int)
      · obtain ⟨x3, e3⟩ : ∃ x, x = n / 256 := ⟨_, rfl⟩
        have q3 : (n : Int) / 256 = (x3 : Int) := by omega
        have g3 : 1 ≤ x3 ∧ x3 < 256 := by have := H.out; omega
        have hx8 : x3 < 256 := by omega
        have HB : Hid (bitLen n = 8 + bitLen x3) := Lib.hid (by have := H.out; have e : x3 = n / 2 ^ 8 := (by omega); rw [e]; exact bitLen_shift n 8 (by rw [← e]; omega))
        have HX := Lib.hid hx8
        clear hx8 f1 f2 g3 e3
        go_enter Tryd.func121, Tryd.ntmps121
        go_wp2
        go_ret
        exact ⟨Bt.reti (by rw [HB.out]; exact Bt.len_end 8 _ (by decide) HX.out), rfl⟩
      · have b3 : decide ((256 : Int) ≤ (n : Int)) = false := decide_eq_false h3
        have f3 : n < 256 := by omega
        clear h3
        have hx8 : n < 256 := by omega
        have HB : Hid (bitLen n = bitLen n) := Lib.hid rfl
        have HX := Lib.hid hx8
        clear hx8 f1 f2 f3
        go_enter Tryd.func121, Tryd.ntmps121
        go_wp2
        go_ret
        exact ⟨Bt.reti (Bt.len_end0 _ HX.out), rfl⟩
end Go.Proofs.YtkgmildbhelelaaDoor
