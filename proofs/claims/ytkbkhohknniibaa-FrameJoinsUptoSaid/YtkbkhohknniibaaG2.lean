/-
  Package frame: the checksum half a byte at a time; four bytes of a number and back; the first frame.
-/
import Derived.Test.YtkbkhohknniibaaG1
import Derived.Test.YtkbkhohknniibaaF4
namespace Go.Proofs.Ytkbkhohknniibaa
open Go.RowKit
set_option maxHeartbeats 1000000 in
set_option maxRecDepth 100000 in
theorem Fr.tsum_c (g : Nat) (s : ByteArray) (hs : s.size ≤ 140737488355328) (w : World) (hT : Fr.Tab w g) :
    Calls Try.prog 21 #[.pointer (some ⟨g, 0, none⟩), .string s] w fun e w' => e = .returned (.int .u32 ((Fr.sum s.data.toList : Nat) : Int)) ∧ w' = w := by
  have HS := Lib.hid hs
  have HST : Hid (∀ k (h : k < s.size), Fr.reg Fr.ones (s.data.toList.take (k + 1)) = Fr.Tn 8 (Fr.reg Fr.ones (s.data.toList.take k) ^^^ (s[k]).toNat)) := Lib.hid fun k h => Fr.reg_step h _
  have HLT : Hid (∀ l, Fr.reg Fr.ones l < 4294967296) := Lib.hid fun l => Fr.reg_lt l Fr.ones (by decide)
  have HC : Hid (∀ X : Nat, X < 4294967296 → Calls Try.prog 27 #[.pointer (some ⟨g, 0, none⟩), .int .u32 (X : Int)] w fun e w' => e = .returned (.int .u32 ((Fr.Tn 4 X : Nat) : Int)) ∧ w' = w) := Lib.hid fun X hX => Fr.half_c g X hX w hT
  clear hs hT
  go_enter Try.func21, Try.ntmps21
  go_wp2
  go_loop [5, 6, 9] (fun r x i => ∃ k : Nat, k ≤ s.size ∧ i = .int .i64 k ∧ r = .int .u32 (Fr.reg Fr.ones (s.data.toList.take k) : Nat)) (fun _ _ i => s.size - (intOf i).toNat)
  case atStart => exact ⟨0, by omega, rfl, rfl⟩
  case round =>
    obtain ⟨k, hk, rfl, rfl⟩ := hrel
    have hk0 : (0 : Int) ≤ (k : Int) := by omega
    have hr := HLT.out (s.data.toList.take k)
    by_cases hl : k < s.size
    · have hki : (k : Int) < (s.size : Int) := by omega
      have hks : (k : Int) < 9223372036854775807 := by have := HS.out; omega
      have HN := Lib.hid (HST.out k hl)
      have hb := (s[k]).toNat_lt
      generalize Fr.reg Fr.ones (s.data.toList.take k) = R at hr HN ⊢
      generalize hbb : s[k] = b at hb HN
      obtain ⟨X, hX⟩ : ∃ X, X = R ^^^ b.toNat := ⟨_, rfl⟩
      have hx : bits .xor .u32 (R : Int) (b.toNat : Int) = (X : Int) := by rw [hX]; exact u32_xor_nat R b.toNat hr (by omega)
      have hXl : X < 4294967296 := by rw [hX]; exact Nat.xor_lt_two_pow (n := 32) hr (by omega)
      rw [← hX, Fr.Tn8] at HN
      have c1 := HC.out X hXl
      have hX1l : Fr.Tn 4 X < 4294967296 := Fr.Tn_lt hXl
      generalize Fr.Tn 4 X = X1 at c1 hX1l HN
      have c2 := HC.out X1 hX1l
      generalize Fr.Tn 4 X1 = X2 at c2 HN
      clear hX
      go_wp2_with fail
      with_reducible refine c1.mono ?_
      rintro e w1 ⟨rfl, h1⟩
      subst w1
      clear c1
      go_wp2_with fail
      with_reducible refine c2.mono ?_
      rintro e w1 ⟨rfl, h1⟩
      subst w1
      clear c2
      go_wp2
      go_round
      case rel => exact ⟨k + 1, by omega, by simp, by rw [HN.out]⟩
      case measure => simp [intOf]; omega
    · obtain rfl : k = s.size := by omega
      have hki : ¬ (s.size : Int) < (s.size : Int) := by omega
      have hta : s.data.toList.take s.size = s.data.toList := List.take_of_length_le (by rw [Ty.length_data]; exact Nat.le_refl _)
      have HSM : Hid (Fr.sum s.data.toList = Fr.reg Fr.ones (s.data.toList.take s.size) ^^^ 4294967295) := Lib.hid (by rw [hta]; rfl)
      generalize Fr.reg Fr.ones (s.data.toList.take s.size) = R at hr HSM ⊢
      have hx : bits .xor .u32 IntKind.u32.max (R : Int) = ((4294967295 ^^^ R : Nat) : Int) := u32_xor_nat 4294967295 R (by decide) hr
      go_wp2
      go_ret
      exact ⟨by rw [HSM.out, Nat.xor_comm]; rfl, rfl⟩
set_option maxHeartbeats 1000000 in
set_option maxRecDepth 100000 in
theorem Fr.four_c (n : Nat) (hn : n < 4294967296) (w : World) :
    Calls Try.prog 22 #[.int .u32 (n : Int)] w fun e w' => e = .returned (.string (Ty.S (Fr.four n))) ∧ Below w.heap.size w w' := by
  have hcv := (Fr.four_buf n hn w).str
  go_enter Try.func22, Try.ntmps22
  go_wp2
  go_ret
  exact ⟨rfl, (Below.refl _ _).alloc (Nat.le_refl _) _⟩
theorem Fr.or_add {a b k : Nat} (ha : a < 2 ^ k) : a ||| b * 2 ^ k = a + b * 2 ^ k := by
  rw [Nat.or_comm, ← Nat.shiftLeft_eq, Nat.add_comm, Nat.shiftLeft_add_eq_or_of_lt ha]
set_option maxHeartbeats 2000000 in
set_option maxRecDepth 100000 in
theorem Fr.numberOf_c (s : ByteArray) (h : 4 ≤ s.size) (w : World) :
    Calls Try.prog 28 #[.string s] w fun e w' => e = .returned (.int .u32 ((Fr.val (s.data.toList.take 4) : Nat) : Int)) ∧ ∃ n, w' = w.drewN n := by
  have hv := Fr.val4 h
  have h0 := (s[0]).toNat_lt
  have h1 := (s[1]).toNat_lt
  have h2 := (s[2]).toNat_lt
  have h3 := (s[3]).toNat_lt
  have z0 : (0 : Int) < (s.size : Int) := by omega
  have z1 : (1 : Int) < (s.size : Int) := by omega
  have z2 : (2 : Int) < (s.size : Int) := by omega
  have z3 : (3 : Int) < (s.size : Int) := by omega
  have n0 : 0 < s.size := by omega
  have n1 : 1 < s.size := by omega
  have n2 : 2 < s.size := by omega
  have n3 : 3 < s.size := by omega
  have o1 : bits .or .u32 ((s[0]).toNat : Int) (((s[1]).toNat : Int) * 256) = (((s[0]).toNat + (s[1]).toNat * 256 : Nat) : Int) := by
    have := u32_or_nat (s[0]).toNat ((s[1]).toNat * 256) (by omega) (by omega)
    rw [Fr.or_add (k := 8) (by omega)] at this
    exact this
  have o2 : bits .or .u32 (((s[0]).toNat + (s[1]).toNat * 256 : Nat) : Int) (((s[2]).toNat : Int) * 65536) = (((s[0]).toNat + (s[1]).toNat * 256 + (s[2]).toNat * 65536 : Nat) : Int) := by
    have := u32_or_nat ((s[0]).toNat + (s[1]).toNat * 256) ((s[2]).toNat * 65536) (by omega) (by omega)
    rw [Fr.or_add (k := 16) (by omega)] at this
    exact this
  have o3 : bits .or .u32 (((s[0]).toNat + (s[1]).toNat * 256 + (s[2]).toNat * 65536 : Nat) : Int) (((s[3]).toNat : Int) * 16777216) = ((Fr.val (s.data.toList.take 4) : Nat) : Int) := by
    have := u32_or_nat ((s[0]).toNat + (s[1]).toNat * 256 + (s[2]).toNat * 65536) ((s[3]).toNat * 16777216) (by omega) (by omega)
    rw [Fr.or_add (k := 24) (by omega), ← hv] at this
    exact this
  generalize Fr.val (s.data.toList.take 4) = V at o3 ⊢
  generalize (s[0]).toNat + (s[1]).toNat * 256 + (s[2]).toNat * 65536 = V2 at o2 o3
  generalize (s[0]).toNat + (s[1]).toNat * 256 = V1 at o1 o2
  clear hv
  go_enter Try.func28, Try.ntmps28
  go_wp2_with fail
  go_quiet (fail)
  go_wp2
  go_ret
  exact ⟨rfl, _, rfl⟩
end Go.Proofs.Ytkbkhohknniibaa
