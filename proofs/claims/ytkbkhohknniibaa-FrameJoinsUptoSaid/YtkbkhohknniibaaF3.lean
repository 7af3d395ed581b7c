/-
  The document's answers for package frame: the checksum; four bytes of a number and back.
-/
import Derived.Test.YtkbkhohknniibaaF2
import Derived.Test.YtkbkhohknniibaaW5
import Derived.Test.YtkbkhohknniibaaL3
import Derived.Laws.BitsAllLaws
import Derived.Deep.RegionWith
import Derived.BigQuiet
namespace Go.Proofs.Ytkbkhohknniibaa
open Go.RowKit
theorem Fr.Tn_last (j r : Nat) : Fr.Tn (j + 1) r = Fr.T (Fr.Tn j r) := Fr.Tn_add j 1 r
theorem Fr.T_odd {r : Nat} (h : r % 2 = 1) : Fr.T r = r / 2 ^^^ 2197175160 := by unfold Fr.T; rw [if_pos h]; rfl
theorem Fr.T_even {r : Nat} (h : r % 2 = 0) : Fr.T r = r / 2 := by unfold Fr.T; rw [if_neg (by omega), Nat.xor_zero]
theorem Fr.reg_snoc (l : List UInt8) (b : UInt8) (r : Nat) : Fr.reg r (l ++ [b]) = Fr.Tn 8 (Fr.reg r l ^^^ b.toNat) := by
  rw [Fr.reg_append]
  rfl
theorem Fr.reg_step {s : ByteArray} {k : Nat} (h : k < s.size) (r : Nat) : Fr.reg r (s.data.toList.take (k + 1)) = Fr.Tn 8 (Fr.reg r (s.data.toList.take k) ^^^ (s[k]).toNat) := by
  have hl : k < s.data.toList.length := by rw [Ty.length_data]; exact h
  rw [List.take_succ_eq_append_getElem hl, Fr.reg_snoc]
  rfl
set_option maxHeartbeats 4000000 in
set_option maxRecDepth 100000 in
theorem Fr.rsum_c (s : ByteArray) (hs : s.size ≤ 9223372036854775807) (w : World) :
    Calls Try.prog 11 #[.string s] w fun e w' => e = .returned (.int .u32 ((Fr.sum s.data.toList : Nat) : Int)) ∧ w' = w := by
  have HS := Lib.hid hs
  have HST : Hid (∀ k (h : k < s.size), Fr.reg Fr.ones (s.data.toList.take (k + 1)) = Fr.Tn 8 (Fr.reg Fr.ones (s.data.toList.take k) ^^^ (s[k]).toNat)) := Lib.hid fun k h => Fr.reg_step h _
  have HLT : Hid (∀ l, Fr.reg Fr.ones l < 4294967296) := Lib.hid fun l => Fr.reg_lt l Fr.ones (by decide)
  go_enter Try.func11, Try.ntmps11
  go_wp2
  go_loop [3, 4] (fun r i => ∃ k : Nat, k ≤ s.size ∧ i = .int .i64 k ∧ r = .int .u32 (Fr.reg Fr.ones (s.data.toList.take k) : Nat)) (fun _ i => s.size - (intOf i).toNat)
  case atStart => exact ⟨0, by omega, rfl, rfl⟩
  case round =>
    obtain ⟨k, hk, rfl, rfl⟩ := hrel
    have hk0 : (0 : Int) ≤ (k : Int) := by omega
    have hr := HLT.out (s.data.toList.take k)
    by_cases hl : k < s.size
    · have hki : (k : Int) < (s.size : Int) := by omega
      have hks : (k : Int) < 9223372036854775807 := by have := HS.out; omega
      have HN := Lib.hid (HST.out k hl)
      have hb := (s[k]).toNat_lt
      generalize Fr.reg Fr.ones (s.data.toList.take k) = R at hr HN ⊢
      generalize hbb : s[k] = b at hb HN
      obtain ⟨X, hX⟩ : ∃ X, X = R ^^^ b.toNat := ⟨_, rfl⟩
      have hx : bits .xor .u32 (R : Int) (b.toNat : Int) = (X : Int) := by rw [hX]; exact u32_xor_nat R b.toNat hr (by omega)
      have hXl : X < 4294967296 := by rw [hX]; exact Nat.xor_lt_two_pow (n := 32) hr (by omega)
      rw [← hX] at HN
      have HTL : Hid (∀ j, Fr.Tn j X < 4294967296) := Lib.hid fun j => Fr.Tn_lt hXl
      clear hX
      go_wp2_with fail
      go_loop [3, 5] (fun r j => ∃ i : Nat, i ≤ 8 ∧ j = .int .i64 i ∧ r = .int .u32 (Fr.Tn i X : Nat)) (fun _ j => 8 - (intOf j).toNat)
      case atStart => exact ⟨0, by omega, rfl, rfl⟩
      case round =>
        obtain ⟨i, hi, rfl, rfl⟩ := hrel
        have hi0 : (0 : Int) ≤ (i : Int) := by omega
        by_cases hi8 : i < 8
        · have hii : (i : Int) < 8 := by omega
          have hT := HTL.out i
          have HTN := Lib.hid (Fr.Tn_last i X)
          generalize Fr.Tn i X = Y at hT HTN ⊢
          obtain ⟨Z, hZ⟩ : ∃ Z, Z = Y / 2 := ⟨_, rfl⟩
          have hd : (Y : Int) / 2 = (Z : Int) := by omega
          have hZl : Z < 4294967296 := by omega
          rcases Nat.mod_two_eq_zero_or_one Y with hm | hm
          · have hmi : (Y : Int) % 2 = 0 := by omega
            have HE := Lib.hid (HTN.out.trans (Fr.T_even hm))
            rw [← hZ] at HE
            clear hZ hm
            go_wp2
            go_round
            case rel => exact ⟨i + 1, by omega, by simp, by rw [HE.out]⟩
            case measure => simp [intOf]; omega
          · have hmi : (Y : Int) % 2 = 1 := by omega
            have HE := Lib.hid (HTN.out.trans (Fr.T_odd hm))
            rw [← hZ] at HE
            have hx2 : bits .xor .u32 (Z : Int) 2197175160 = ((Z ^^^ 2197175160 : Nat) : Int) := u32_xor_nat Z 2197175160 hZl (by decide)
            clear hZ hm
            go_wp2
            go_round
            case rel => exact ⟨i + 1, by omega, by simp, by rw [HE.out]⟩
            case measure => simp [intOf]; omega
        · obtain rfl : i = 8 := by omega
          go_wp2
          go_round
          case rel => exact ⟨k + 1, by omega, by simp, by rw [HN.out]⟩
          case measure => simp [intOf]; omega
    · obtain rfl : k = s.size := by omega
      have hki : ¬ (s.size : Int) < (s.size : Int) := by omega
      have hta : s.data.toList.take s.size = s.data.toList := List.take_of_length_le (by rw [Ty.length_data]; exact Nat.le_refl _)
      have HSM : Hid (Fr.sum s.data.toList = Fr.reg Fr.ones (s.data.toList.take s.size) ^^^ 4294967295) := Lib.hid (by rw [hta]; rfl)
      generalize Fr.reg Fr.ones (s.data.toList.take s.size) = R at hr HSM ⊢
      have hx : bits .xor .u32 IntKind.u32.max (R : Int) = ((4294967295 ^^^ R : Nat) : Int) := u32_xor_nat 4294967295 R (by decide) hr
      go_wp2
      go_ret
      exact ⟨by rw [HSM.out, Nat.xor_comm]; rfl, rfl⟩
theorem Fr.four_buf (n : Nat) (hn : n < 4294967296) (w : World) : Ty.Buf w.heap.size (w.alloc (.cells #[.int .u8 ((n : Int) % 256), .int .u8 ((n : Int) / 256 % 256), .int .u8 ((n : Int) / 65536 % 256), .int .u8 ((n : Int) / 16777216)] 5)) (.slice (some ⟨w.heap.size, 0, none⟩) 4 4) (Fr.four n) := by
  refine ⟨by simp, .inr ⟨w.heap.size, 4, _, rfl, Nat.le_refl _, heap_alloc_new w _, Nat.le_refl _, by unfold maxLen; omega, by simp, ?_⟩⟩
  have e0 := Ty.toNat_ofNat8 (n % 256) (by omega)
  have e1 := Ty.toNat_ofNat8 (n / 256 % 256) (by omega)
  have e2 := Ty.toNat_ofNat8 (n / 65536 % 256) (by omega)
  have e3 := Ty.toNat_ofNat8 (n / 16777216 % 256) (by omega)
  have i3 : ((n / 16777216 % 256 : Nat) : Int) = (n : Int) / 16777216 := by omega
  simp only [Fr.four, List.map_cons, List.map_nil, Ty.B, e0, e1, e2, e3, i3]
  simp
set_option maxHeartbeats 1000000 in
set_option maxRecDepth 100000 in
theorem Fr.rfour_c (n : Nat) (hn : n < 4294967296) (w : World) :
    Calls Try.prog 23 #[.int .u32 (n : Int)] w fun e w' => e = .returned (.string (Ty.S (Fr.four n))) ∧ Below w.heap.size w w' := by
  have hcv := (Fr.four_buf n hn w).str
  go_enter Try.func23, Try.ntmps23
  go_wp2
  go_ret
  exact ⟨rfl, (Below.refl _ _).alloc (Nat.le_refl _) _⟩
/-- Four bytes at a place of a string. -/
def Fr.at4 (s : ByteArray) : Nat := Fr.val (s.data.toList.take 4)
theorem Fr.val4 {s : ByteArray} (h : 4 ≤ s.size) : Fr.val (s.data.toList.take 4) = s[0].toNat + s[1].toNat * 256 + s[2].toNat * 65536 + s[3].toNat * 16777216 := by
  have hl : 4 ≤ s.data.toList.length := by rw [Ty.length_data]; exact h
  have e : s.data.toList.take 4 = [s[0], s[1], s[2], s[3]] := by
    refine List.ext_getElem (by rw [List.length_take]; simp; omega) fun i h1 h2 => ?_
    have hi : i < 4 := by simpa using h2
    rw [List.getElem_take]
    rcases (by omega : i = 0 ∨ i = 1 ∨ i = 2 ∨ i = 3) with rfl | rfl | rfl | rfl <;> rfl
  rw [e]
  simp only [Fr.val]
  omega
set_option maxHeartbeats 2000000 in
set_option maxRecDepth 100000 in
theorem Fr.rnumber_c (s : ByteArray) (h : 4 ≤ s.size) (w : World) :
    Calls Try.prog 26 #[.string s] w fun e w' => e = .returned (.int .u32 ((Fr.val (s.data.toList.take 4) : Nat) : Int)) ∧ ∃ n, w' = w.drewN n := by
  have hv := Fr.val4 h
  have h0 := (s[0]).toNat_lt
  have h1 := (s[1]).toNat_lt
  have h2 := (s[2]).toNat_lt
  have h3 := (s[3]).toNat_lt
  have z0 : (0 : Int) < (s.size : Int) := by omega
  have z1 : (1 : Int) < (s.size : Int) := by omega
  have z2 : (2 : Int) < (s.size : Int) := by omega
  have z3 : (3 : Int) < (s.size : Int) := by omega
  have n0 : 0 < s.size := by omega
  have n1 : 1 < s.size := by omega
  have n2 : 2 < s.size := by omega
  have n3 : 3 < s.size := by omega
  have HV := Lib.hid hv
  clear hv
  go_enter Try.func26, Try.ntmps26
  go_wp2_with fail
  go_quiet (fail)
  go_wp2
  go_ret
  refine ⟨?_, _, rfl⟩
  rw [HV.out]
  exact congrArg (fun x : Int => Ending.returned (Value.int IntKind.u32 x)) (by omega)
theorem Fr.S_add (a b : List UInt8) : Ty.S a ++ Ty.S b = Ty.S (a ++ b) := by
  apply ByteArray.ext
  apply Array.toList_inj.1
  rw [ByteArray.data_append, Array.toList_append]
  simp [Ty.S]
theorem Fr.four_mod (n : Nat) : Fr.four (n % 4294967296) = Fr.four n := by
  unfold Fr.four
  rw [show n % 4294967296 % 256 = n % 256 by omega, show n % 4294967296 / 256 % 256 = n / 256 % 256 by omega, show n % 4294967296 / 65536 % 256 = n / 65536 % 256 by omega, show n % 4294967296 / 16777216 % 256 = n / 16777216 % 256 by omega]
set_option maxHeartbeats 2000000 in
set_option maxRecDepth 100000 in
/-- WRITE, as the document has it. -/
theorem Fr.rwrite_c (s : ByteArray) (hs : s.size ≤ 9223372036854775000) (w : World) :
    Calls Try.prog 13 #[.string s] w fun e w' => e = .returned (.string (Ty.S (Fr.frm s.data.toList))) ∧ Below w.heap.size w w' := by
  have hN : s.size % 4294967296 < 4294967296 := Nat.mod_lt _ (by decide)
  have hw : IntKind.u32.wrap (s.size : Int) = ((s.size % 4294967296 : Nat) : Int) := by rw [IntKind.wrap_u32]; omega
  have c1 := fun wz => Fr.rfour_c (s.size % 4294967296) hN wz
  have c2 := fun wz => Fr.rsum_c s (by omega) wz
  have c3 := fun wz => Fr.rfour_c (Fr.sum s.data.toList) (Fr.sum_lt _) wz
  have HF : Hid (Ty.S (Fr.frm s.data.toList) = (Ty.S (Fr.four (s.size % 4294967296)) ++ s) ++ Ty.S (Fr.four (Fr.sum s.data.toList))) := Lib.hid (by
    unfold Fr.frm
    rw [Fr.four_mod, Ty.length_data]
    conv => rhs; lhs; rhs; rw [← Ty.S_data s]
    rw [Fr.S_add, Fr.S_add, List.append_assoc])
  have e1 : (Ty.S (Fr.four (s.size % 4294967296))).size = 4 := rfl
  have e3 : (Ty.S (Fr.four (Fr.sum s.data.toList))).size = 4 := rfl
  obtain ⟨A, hA⟩ : ∃ A, A = Ty.S (Fr.four (s.size % 4294967296)) := ⟨_, rfl⟩
  obtain ⟨B, hB⟩ : ∃ B, B = Ty.S (Fr.four (Fr.sum s.data.toList)) := ⟨_, rfl⟩
  rw [← hA] at c1 HF e1
  rw [← hB] at c3 HF e3
  generalize Fr.sum s.data.toList = M at c2 c3
  generalize s.size % 4294967296 = N at c1 hw
  have n1 : ¬ 9223372036854775807 < A.size + s.size := by omega
  have n2 : ¬ 9223372036854775807 < A.size + s.size + B.size := by omega
  clear hA hB e1 e3 hN
  go_enter Try.func13, Try.ntmps13
  go_wp2_with fail
  with_reducible refine (c1 _).mono ?_
  rintro e w1 ⟨rfl, g1⟩
  have HB1 := Lib.hid g1
  clear g1 c1
  go_wp2_with fail
  with_reducible refine (c2 _).mono ?_
  rintro e w2 ⟨rfl, h2⟩
  subst w2
  clear c2
  go_wp2_with fail
  with_reducible refine (c3 _).mono ?_
  rintro e w3 ⟨rfl, g3⟩
  have HB3 := Lib.hid (HB1.out.trans (g3.mono HB1.out.size))
  clear g3 c3
  go_wp2
  go_ret
  exact ⟨by rw [HF.out]; rfl, HB3.out⟩
end Go.Proofs.Ytkbkhohknniibaa
