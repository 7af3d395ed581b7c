/-
  Package frame: the table of sixteen; half a byte of the register.
  Package frame: the checksum half a byte at a time; four bytes of a number and back; the first frame.
  Package frame: the first frame of a text.
-/
import Derived.Test.YtkbkhohknniibaaF3
import Derived.Test.YtkbkhohknniibaaB5
import Derived.Laws.Rows
import Derived.Laws.Tables
import Derived.Laws.CopyOwn
import Derived.Test.YtkbkhohknniibaaFA
namespace Go.Proofs.Ytkbkhohknniibaa
open Go.RowKit
def Fr.half (j : Nat) : Value := .int .u32 ((Fr.Tn 4 j : Nat) : Int)
theorem Fr.nib (r : Nat) : Fr.Tn 4 r = r / 16 ^^^ Fr.Tn 4 (r % 16) := Fr.Tn_split 4 r
theorem Fr.Tn8 (r : Nat) : Fr.Tn 8 r = Fr.Tn 4 (Fr.Tn 4 r) := Fr.Tn_add 4 4 r
/-- Half a byte of the register. -/
theorem Fr.nib_eq {X Y Z : Nat} (hX : X < 4294967296) (hY : Y = X / 16) (hZ : Z = X % 16) : bits .xor .u32 (Y : Int) ((Fr.Tn 4 Z : Nat) : Int) = ((Fr.Tn 4 X : Nat) : Int) := by
  have h : bits .xor .u32 (Y : Int) ((Fr.Tn 4 Z : Nat) : Int) = ((Y ^^^ Fr.Tn 4 Z : Nat) : Int) := u32_xor_nat _ _ (by omega) (Fr.Tn_lt (by omega))
  rw [h, hY, hZ, ← Fr.nib]
/-- Sixteen cells, all zero. -/
def Fr.zeros : Array Value := #[.int .u32 0, .int .u32 0, .int .u32 0, .int .u32 0, .int .u32 0, .int .u32 0, .int .u32 0, .int .u32 0, .int .u32 0, .int .u32 0, .int .u32 0, .int .u32 0, .int .u32 0, .int .u32 0, .int .u32 0, .int .u32 0]
/-- The table lies in block g. -/
def Fr.Tab (w : World) (g : Nat) : Prop := g < w.heap.size ∧ ∀ j, j < 16 → w.cell? ⟨g, j, none⟩ = some (.int .u32 ((Fr.Tn 4 j : Nat) : Int))
theorem Fr.Tab.kept {w w' : World} {g : Nat} (h : Fr.Tab w g) (b : Below w.heap.size w w') : Fr.Tab w' g := by
  refine ⟨Nat.lt_of_lt_of_le h.1 b.size, fun j hj => ?_⟩
  have := h.2 j hj
  unfold World.cell? at this ⊢
  rw [b.block g h.1]
  exact this
set_option maxHeartbeats 1000000 in
set_option maxRecDepth 100000 in
theorem Fr.half_c (g X : Nat) (hX : X < 4294967296) (w : World) (hT : Fr.Tab w g) :
    Calls Try.prog 27 #[.pointer (some ⟨g, 0, none⟩), .int .u32 (X : Int)] w fun e w' => e = .returned (.int .u32 ((Fr.Tn 4 X : Nat) : Int)) ∧ w' = w := by
  obtain ⟨Y, hY⟩ : ∃ Y, Y = X / 16 := ⟨_, rfl⟩
  obtain ⟨Z, hZ⟩ : ∃ Z, Z = X % 16 := ⟨_, rfl⟩
  have hd : (X : Int) / 16 = (Y : Int) := by omega
  have ha : bits .and .u32 (X : Int) 15 = (Z : Int) := by
    have := u32_and_nat X 15 hX (by decide)
    refine this.trans ?_
    rw [hZ, show (15 : Nat) = 2 ^ 4 - 1 from rfl, Nat.and_two_pow_sub_one_eq_mod]
  have hZ16 : Z < 16 := by omega
  have hZi : (Z : Int) < 16 := by omega
  have hZ0 : (0 : Int) ≤ (Z : Int) := by omega
  have c0 := hT.2 Z hZ16
  have hn := Fr.nib_eq hX hY hZ
  generalize Fr.Tn 4 Z = U at c0 hn
  generalize Fr.Tn 4 X = X1 at hn ⊢
  clear hY hZ hT
  go_enter Try.func27, Try.ntmps27
  go_wp2
  go_ret
  exact ⟨rfl, rfl⟩
set_option maxHeartbeats 1000000 in
set_option maxRecDepth 100000 in
theorem Fr.steps_c (w : World) : Calls Try.prog 20 #[] w fun e w' => ∃ g, e = .returned (.pointer (some ⟨g, 0, none⟩)) ∧ Fr.Tab w' g ∧ Below w.heap.size w w' := by
  have hb2 : Below w.heap.size w (w.alloc (.cells Fr.zeros 49)) := (Below.refl _ w).alloc (Nat.le_refl _) _
  have h1 : (w.alloc (.cells Fr.zeros 49)).rowIs w.heap.size 49 16 (Bt.upTo 0 Fr.half (.int .u32 0)) := by
    refine ⟨Fr.zeros, heap_alloc_new w (.cells Fr.zeros 49), rfl, fun i hi => ?_⟩
    have e : Bt.upTo 0 Fr.half (.int .u32 0) i = .int .u32 0 := by unfold Bt.upTo; rw [if_neg (by omega)]
    rw [e]
    rcases (by omega : i = 0 ∨ i = 1 ∨ i = 2 ∨ i = 3 ∨ i = 4 ∨ i = 5 ∨ i = 6 ∨ i = 7 ∨ i = 8 ∨ i = 9 ∨ i = 10 ∨ i = 11 ∨ i = 12 ∨ i = 13 ∨ i = 14 ∨ i = 15) with rfl | rfl | rfl | rfl | rfl | rfl | rfl | rfl | rfl | rfl | rfl | rfl | rfl | rfl | rfl | rfl <;> rfl
  have HLT : Hid (∀ j k, k < 16 → Fr.Tn j k < 4294967296) := Lib.hid fun j k hk => Fr.Tn_lt (by omega)
  have HB2 := Lib.hid hb2
  have H1 := Lib.hid h1
  clear hb2 h1
  go_enter Try.func20, Try.ntmps20
  go_wp2
  change Code.wp _ _ _ _ (w.alloc (.cells Fr.zeros 49))
  generalize w.alloc (.cells Fr.zeros 49) = w2 at HB2 H1 ⊢
  go_loopw [7] (fun i wr => ∃ k : Nat, k ≤ 16 ∧ i = .int .i64 k ∧ wr.rowIs w.heap.size 49 16 (Bt.upTo k Fr.half (.int .u32 0)) ∧ Below w.heap.size w wr) (fun i _ => 16 - (intOf i).toNat)
  case atStart => exact ⟨0, by omega, rfl, H1.out, HB2.out⟩
  case round =>
    obtain ⟨k, hk, rfl, hR, hB⟩ := hrel
    have HR := Lib.hid hR
    have HB := Lib.hid hB
    clear hR hB HB2 H1
    have hk0 : (0 : Int) ≤ (k : Int) := by omega
    by_cases hl : k < 16
    · have hki : (k : Int) < 16 := by omega
      have HTL : Hid (∀ j, Fr.Tn j k < 4294967296) := Lib.hid fun j => HLT.out j k hl
      have HHF : Hid (Fr.half k = .int .u32 ((Fr.Tn 4 k : Nat) : Int)) := Lib.hid rfl
      go_wp2_with fail
      go_loop [3, 4, 12] (fun r o j => ∃ i : Nat, i ≤ 4 ∧ j = .int .i64 i ∧ r = .int .u32 (Fr.Tn i k : Nat)) (fun _ _ j => 4 - (intOf j).toNat)
      case atStart => exact ⟨0, by omega, rfl, rfl⟩
      case round =>
        obtain ⟨i, hi, rfl, rfl⟩ := hrel
        have hi0 : (0 : Int) ≤ (i : Int) := by omega
        by_cases hi4 : i < 4
        · have hii : (i : Int) < 4 := by omega
          have hT := HTL.out i
          have HTN := Lib.hid (Fr.Tn_last i k)
          generalize Fr.Tn i k = Y at hT HTN ⊢
          obtain ⟨Z, hZ⟩ : ∃ Z, Z = Y / 2 := ⟨_, rfl⟩
          have hd : (Y : Int) / 2 = (Z : Int) := by omega
          have hZl : Z < 4294967296 := by omega
          have hand : bits .and .u32 (Y : Int) 1 = ((Y % 2 : Nat) : Int) := by
            have := u32_and_nat Y 1 hT (by decide)
            rwa [Nat.and_one_is_mod] at this
          rcases Nat.mod_two_eq_zero_or_one Y with hm | hm
          · rw [hm] at hand
            have HE := Lib.hid (HTN.out.trans (Fr.T_even hm))
            rw [← hZ] at HE
            clear hZ hm
            go_wp2
            go_round
            case rel => exact ⟨i + 1, by omega, by simp, by rw [HE.out]⟩
            case measure => simp [intOf]; omega
          · rw [hm] at hand
            have HE := Lib.hid (HTN.out.trans (Fr.T_odd hm))
            rw [← hZ] at HE
            have hx2 : bits .xor .u32 (Z : Int) 2197175160 = ((Z ^^^ 2197175160 : Nat) : Int) := u32_xor_nat Z 2197175160 hZl (by decide)
            clear hZ hm
            go_wp2
            go_round
            case rel => exact ⟨i + 1, by omega, by simp, by rw [HE.out]⟩
            case measure => simp [intOf]; omega
        · obtain rfl : i = 4 := by omega
          have c0 := HR.out.cell hl
          have f0 := HR.out.frozen k
          go_wp2
          go_roundw
          case rel => exact ⟨k + 1, by omega, by simp, Bt.upTo_next HR.out rfl, HB.out.trans (Bt.below_set (Nat.le_refl _) _)⟩
          case measure => simp [intOf]; omega
    · obtain rfl : k = 16 := by omega
      have hall : Fr.Tab wr w.heap.size := ⟨HR.out.lt, fun j hj => by
        have hc := HR.out.cell hj
        rw [hc]
        unfold Bt.upTo
        rw [if_pos hj]
        rfl⟩
      have HA := Lib.hid hall
      clear hall
      have h16 : (16 : Int) < 16 ↔ False := by simp
      go_wp2
      go_ret
      exact ⟨_, rfl, HA.out, HB.out⟩
end Go.Proofs.Ytkbkhohknniibaa

namespace Go.Proofs.Ytkbkhohknniibaa
open Go.RowKit
set_option maxHeartbeats 1000000 in
set_option maxRecDepth 100000 in
theorem Fr.tsum_c (g : Nat) (s : ByteArray) (hs : s.size ≤ 140737488355328) (w : World) (hT : Fr.Tab w g) :
    Calls Try.prog 21 #[.pointer (some ⟨g, 0, none⟩), .string s] w fun e w' => e = .returned (.int .u32 ((Fr.sum s.data.toList : Nat) : Int)) ∧ w' = w := by
  have HS := Lib.hid hs
  have HST : Hid (∀ k (h : k < s.size), Fr.reg Fr.ones (s.data.toList.take (k + 1)) = Fr.Tn 8 (Fr.reg Fr.ones (s.data.toList.take k) ^^^ (s[k]).toNat)) := Lib.hid fun k h => Fr.reg_step h _
  have HLT : Hid (∀ l, Fr.reg Fr.ones l < 4294967296) := Lib.hid fun l => Fr.reg_lt l Fr.ones (by decide)
  have HC : Hid (∀ X : Nat, X < 4294967296 → Calls Try.prog 27 #[.pointer (some ⟨g, 0, none⟩), .int .u32 (X : Int)] w fun e w' => e = .returned (.int .u32 ((Fr.Tn 4 X : Nat) : Int)) ∧ w' = w) := Lib.hid fun X hX => Fr.half_c g X hX w hT
  clear hs hT
  go_enter Try.func21, Try.ntmps21
  go_wp2
  go_loop [5, 6, 9] (fun r x i => ∃ k : Nat, k ≤ s.size ∧ i = .int .i64 k ∧ r = .int .u32 (Fr.reg Fr.ones (s.data.toList.take k) : Nat)) (fun _ _ i => s.size - (intOf i).toNat)
  case atStart => exact ⟨0, by omega, rfl, rfl⟩
  case round =>
    obtain ⟨k, hk, rfl, rfl⟩ := hrel
    have hk0 : (0 : Int) ≤ (k : Int) := by omega
    have hr := HLT.out (s.data.toList.take k)
    by_cases hl : k < s.size
    · have hki : (k : Int) < (s.size : Int) := by omega
      have hks : (k : Int) < 9223372036854775807 := by have := HS.out; omega
      have HN := Lib.hid (HST.out k hl)
      have hb := (s[k]).toNat_lt
      generalize Fr.reg Fr.ones (s.data.toList.take k) = R at hr HN ⊢
      generalize hbb : s[k] = b at hb HN
      obtain ⟨X, hX⟩ : ∃ X, X = R ^^^ b.toNat := ⟨_, rfl⟩
      have hx : bits .xor .u32 (R : Int) (b.toNat : Int) = (X : Int) := by rw [hX]; exact u32_xor_nat R b.toNat hr (by omega)
      have hXl : X < 4294967296 := by rw [hX]; exact Nat.xor_lt_two_pow (n := 32) hr (by omega)
      rw [← hX, Fr.Tn8] at HN
      have c1 := HC.out X hXl
      have hX1l : Fr.Tn 4 X < 4294967296 := Fr.Tn_lt hXl
      generalize Fr.Tn 4 X = X1 at c1 hX1l HN
      have c2 := HC.out X1 hX1l
      generalize Fr.Tn 4 X1 = X2 at c2 HN
      clear hX
      go_wp2_with fail
      with_reducible refine c1.mono ?_
      rintro e w1 ⟨rfl, h1⟩
      subst w1
      clear c1
      go_wp2_with fail
      with_reducible refine c2.mono ?_
      rintro e w1 ⟨rfl, h1⟩
      subst w1
      clear c2
      go_wp2
      go_round
      case rel => exact ⟨k + 1, by omega, by simp, by rw [HN.out]⟩
      case measure => simp [intOf]; omega
    · obtain rfl : k = s.size := by omega
      have hki : ¬ (s.size : Int) < (s.size : Int) := by omega
      have hta : s.data.toList.take s.size = s.data.toList := List.take_of_length_le (by rw [Ty.length_data]; exact Nat.le_refl _)
      have HSM : Hid (Fr.sum s.data.toList = Fr.reg Fr.ones (s.data.toList.take s.size) ^^^ 4294967295) := Lib.hid (by rw [hta]; rfl)
      generalize Fr.reg Fr.ones (s.data.toList.take s.size) = R at hr HSM ⊢
      have hx : bits .xor .u32 IntKind.u32.max (R : Int) = ((4294967295 ^^^ R : Nat) : Int) := u32_xor_nat 4294967295 R (by decide) hr
      go_wp2
      go_ret
      exact ⟨by rw [HSM.out, Nat.xor_comm]; rfl, rfl⟩
set_option maxHeartbeats 1000000 in
set_option maxRecDepth 100000 in
theorem Fr.four_c (n : Nat) (hn : n < 4294967296) (w : World) :
    Calls Try.prog 22 #[.int .u32 (n : Int)] w fun e w' => e = .returned (.string (Ty.S (Fr.four n))) ∧ Below w.heap.size w w' := by
  have hcv := (Fr.four_buf n hn w).str
  go_enter Try.func22, Try.ntmps22
  go_wp2
  go_ret
  exact ⟨rfl, (Below.refl _ _).alloc (Nat.le_refl _) _⟩
theorem Fr.or_add {a b k : Nat} (ha : a < 2 ^ k) : a ||| b * 2 ^ k = a + b * 2 ^ k := by
  rw [Nat.or_comm, ← Nat.shiftLeft_eq, Nat.add_comm, Nat.shiftLeft_add_eq_or_of_lt ha]
set_option maxHeartbeats 2000000 in
set_option maxRecDepth 100000 in
theorem Fr.numberOf_c (s : ByteArray) (h : 4 ≤ s.size) (w : World) :
    Calls Try.prog 28 #[.string s] w fun e w' => e = .returned (.int .u32 ((Fr.val (s.data.toList.take 4) : Nat) : Int)) ∧ ∃ n, w' = w.drewN n := by
  have hv := Fr.val4 h
  have h0 := (s[0]).toNat_lt
  have h1 := (s[1]).toNat_lt
  have h2 := (s[2]).toNat_lt
  have h3 := (s[3]).toNat_lt
  have z0 : (0 : Int) < (s.size : Int) := by omega
  have z1 : (1 : Int) < (s.size : Int) := by omega
  have z2 : (2 : Int) < (s.size : Int) := by omega
  have z3 : (3 : Int) < (s.size : Int) := by omega
  have n0 : 0 < s.size := by omega
  have n1 : 1 < s.size := by omega
  have n2 : 2 < s.size := by omega
  have n3 : 3 < s.size := by omega
  have o1 : bits .or .u32 ((s[0]).toNat : Int) (((s[1]).toNat : Int) * 256) = (((s[0]).toNat + (s[1]).toNat * 256 : Nat) : Int) := by
    have := u32_or_nat (s[0]).toNat ((s[1]).toNat * 256) (by omega) (by omega)
    rw [Fr.or_add (k := 8) (by omega)] at this
    exact this
  have o2 : bits .or .u32 (((s[0]).toNat + (s[1]).toNat * 256 : Nat) : Int) (((s[2]).toNat : Int) * 65536) = (((s[0]).toNat + (s[1]).toNat * 256 + (s[2]).toNat * 65536 : Nat) : Int) := by
    have := u32_or_nat ((s[0]).toNat + (s[1]).toNat * 256) ((s[2]).toNat * 65536) (by omega) (by omega)
    rw [Fr.or_add (k := 16) (by omega)] at this
    exact this
  have o3 : bits .or .u32 (((s[0]).toNat + (s[1]).toNat * 256 + (s[2]).toNat * 65536 : Nat) : Int) (((s[3]).toNat : Int) * 16777216) = ((Fr.val (s.data.toList.take 4) : Nat) : Int) := by
    have := u32_or_nat ((s[0]).toNat + (s[1]).toNat * 256 + (s[2]).toNat * 65536) ((s[3]).toNat * 16777216) (by omega) (by omega)
    rw [Fr.or_add (k := 24) (by omega), ← hv] at this
    exact this
  generalize Fr.val (s.data.toList.take 4) = V at o3 ⊢
  generalize (s[0]).toNat + (s[1]).toNat * 256 + (s[2]).toNat * 65536 = V2 at o2 o3
  generalize (s[0]).toNat + (s[1]).toNat * 256 = V1 at o1 o2
  clear hv
  go_enter Try.func28, Try.ntmps28
  go_wp2_with fail
  go_quiet (fail)
  go_wp2
  go_ret
  exact ⟨rfl, _, rfl⟩
end Go.Proofs.Ytkbkhohknniibaa

namespace Go.Proofs.Ytkbkhohknniibaa
open Go.RowKit
/-- The first frame: its text and what is wrong. -/
def Fr.fst (l : List UInt8) : List UInt8 × Nat :=
  if l.length < 4 then ([], 2) else if 1048576 < Fr.val (l.take 4) then ([], 8) else if l.length < Fr.val (l.take 4) + 8 then ([], 2)
  else if Fr.val ((l.drop (4 + Fr.val (l.take 4))).take 4) ≠ Fr.sum ((l.drop 4).take (Fr.val (l.take 4))) then ([], 8) else ((l.drop 4).take (Fr.val (l.take 4)), 0)
theorem Fr.Mid.fst {l : List UInt8} {a : Nat} {L : List Fr.Str} (h : Fr.Mid l a L) :
    ((Fr.fst (l.drop a)).2 = 2 ∧ Fr.scan l = (0, L, a)) ∨ ((Fr.fst (l.drop a)).2 = 8 ∧ Fr.scan l = (8, [], 0)) ∨
    ((Fr.fst (l.drop a)).2 = 0 ∧ (Fr.fst (l.drop a)).1.length ≤ 1048576 ∧ a + ((Fr.fst (l.drop a)).1.length + 8) ≤ l.length ∧ Fr.Mid l (a + ((Fr.fst (l.drop a)).1.length + 8)) (L ++ [(Fr.fst (l.drop a)).1])) := by
  by_cases h4 : (l.drop a).length < 4
  · have e : Fr.fst (l.drop a) = ([], 2) := if_pos h4
    rw [e]
    exact .inl ⟨rfl, h.short h4⟩
  · by_cases hb : 1048576 < Fr.val ((l.drop a).take 4)
    · have e : Fr.fst (l.drop a) = ([], 8) := (if_neg h4).trans (if_pos hb)
      rw [e]
      exact .inr (.inl ⟨rfl, h.big h4 hb⟩)
    · by_cases ht : (l.drop a).length < Fr.val ((l.drop a).take 4) + 8
      · have e : Fr.fst (l.drop a) = ([], 2) := (if_neg h4).trans ((if_neg hb).trans (if_pos ht))
        rw [e]
        exact .inl ⟨rfl, h.torn h4 hb ht⟩
      · by_cases hs : Fr.val (((l.drop a).drop (4 + Fr.val ((l.drop a).take 4))).take 4) = Fr.sum (((l.drop a).drop 4).take (Fr.val ((l.drop a).take 4)))
        · have e : Fr.fst (l.drop a) = (((l.drop a).drop 4).take (Fr.val ((l.drop a).take 4)), 0) := (if_neg h4).trans ((if_neg hb).trans ((if_neg ht).trans (if_neg (fun h => h hs))))
          have hlen : (l.drop a).length = l.length - a := List.length_drop
          have hk : (((l.drop a).drop 4).take (Fr.val ((l.drop a).take 4))).length = Fr.val ((l.drop a).take 4) := by
            rw [List.length_take, List.length_drop]; omega
          have hn := h.next h4 hb ht hs
          have := h.1
          rw [e]
          refine .inr (.inr ⟨rfl, ?_⟩)
          rw [show (((l.drop a).drop 4).take (Fr.val ((l.drop a).take 4)), (0 : Nat)).1 = ((l.drop a).drop 4).take (Fr.val ((l.drop a).take 4)) from rfl, hk]
          exact ⟨by omega, by omega, hn⟩
        · have e : Fr.fst (l.drop a) = ([], 8) := (if_neg h4).trans ((if_neg hb).trans ((if_neg ht).trans (if_pos hs)))
          rw [e]
          exact .inr (.inl ⟨rfl, h.wrong h4 hb ht hs⟩)
set_option maxHeartbeats 2000000 in
set_option maxRecDepth 100000 in
theorem Fr.first_c (g : Nat) (s : ByteArray) (hs : s.size ≤ 140737488355328) (w : World) (hT : Fr.Tab w g) :
    Calls Try.prog 24 #[.pointer (some ⟨g, 0, none⟩), .string s] w fun e w' => e = .returned (.tuple #[.string (Ty.S (Fr.fst s.data.toList).1), .int .i64 (((Fr.fst s.data.toList).2 : Nat) : Int)]) ∧ ∃ n, w' = w.drewN n := by
  obtain ⟨l, hl⟩ : ∃ l, l = s.data.toList := ⟨_, rfl⟩
  have hll : l.length = s.size := by rw [hl, Ty.length_data]
  rw [← hl]
  have HL := Lib.hid hl
  obtain ⟨R, hR⟩ : ∃ R, R = Fr.fst l := ⟨_, rfl⟩
  rw [← hR]
  have HRR := Lib.hid hR
  have HT := Lib.hid hT
  clear hR hT
  by_cases h4 : s.size < 4
  · have h4i : (s.size : Int) < 4 := by omega
    have HE : Hid (R = ([], 2)) := Lib.hid (HRR.out.trans (if_pos (by omega)))
    clear hl hll h4
    go_enter Try.func24, Try.ntmps24
    go_wp2
    go_ret2
    exact ⟨by rw [HE.out]; rfl, 0, rfl⟩
  · have h4i : ¬ (s.size : Int) < 4 := by omega
    have cn := Fr.numberOf_c s (by omega) w
    rw [← hl] at cn
    have hN32 : Fr.val (l.take 4) < 4294967296 := by
      have := Fr.val_lt (l.take 4)
      rw [List.length_take, Nat.min_eq_left (by omega)] at this
      exact this
    have FB : Hid (1048576 < Fr.val (l.take 4) → R = ([], 8)) := Lib.hid fun h => HRR.out.trans ((if_neg (by omega)).trans (if_pos h))
    have FT : Hid (¬ 1048576 < Fr.val (l.take 4) → s.size < Fr.val (l.take 4) + 8 → R = ([], 2)) := Lib.hid fun h h2 => HRR.out.trans ((if_neg (by omega)).trans ((if_neg h).trans (if_pos (by omega))))
    have FW : Hid (¬ 1048576 < Fr.val (l.take 4) → ¬ s.size < Fr.val (l.take 4) + 8 → Fr.val ((l.drop (4 + Fr.val (l.take 4))).take 4) ≠ Fr.sum ((l.drop 4).take (Fr.val (l.take 4))) → R = ([], 8)) := Lib.hid fun h h2 h3 => HRR.out.trans ((if_neg (by omega)).trans ((if_neg h).trans ((if_neg (by omega)).trans (if_pos h3))))
    have FN : Hid (¬ 1048576 < Fr.val (l.take 4) → ¬ s.size < Fr.val (l.take 4) + 8 → Fr.val ((l.drop (4 + Fr.val (l.take 4))).take 4) = Fr.sum ((l.drop 4).take (Fr.val (l.take 4))) → R = ((l.drop 4).take (Fr.val (l.take 4)), 0)) := Lib.hid fun h h2 h3 => HRR.out.trans ((if_neg (by omega)).trans ((if_neg h).trans ((if_neg (by omega)).trans (if_neg (fun hh => hh h3)))))
    generalize Fr.val (l.take 4) = N at cn hN32 FB FT FW FN
    clear hl h4
    go_enter Try.func24, Try.ntmps24
    go_wp2_with fail
    with_reducible refine cn.mono ?_
    rintro e w1 ⟨rfl, n1, hw1⟩
    have HT1 : Hid (Fr.Tab w1 g) := Lib.hid (Fr.Tab.kept HT.out (by rw [hw1]; exact Bt.drewN_below w n1))
    have HW1 := Lib.hid hw1
    clear hw1 cn HT
    by_cases hb : 1048576 < N
    · have hbi : (1048576 : Int) < (N : Int) := by omega
      have HE := Lib.hid (FB.out hb)
      clear hb FT FW FN hll
      go_wp2
      go_ret2
      exact ⟨by rw [HE.out]; rfl, n1, HW1.out⟩
    · have hbi : ¬ (1048576 : Int) < (N : Int) := by omega
      by_cases ht : s.size < N + 8
      · have hti : (s.size : Int) < 4 + (N : Int) + 4 := by omega
        have HE := Lib.hid (FT.out hb (by omega))
        clear hb ht FW FN FB hll
        go_wp2
        go_ret2
        exact ⟨by rw [HE.out]; rfl, n1, HW1.out⟩
      · have hti : ¬ (s.size : Int) < 4 + (N : Int) + 4 := by omega
        have hT : s.extract 4 (4 + N) = Ty.S ((l.drop 4).take N) := by rw [Fr.ext_at, HL.out, Nat.add_sub_cancel_left]
        have hY : s.extract (4 + N) s.size = Ty.S (l.drop (4 + N)) := by
          rw [Fr.ext_at, HL.out, List.take_of_length_le (by rw [List.length_drop, Ty.length_data]; omega)]
        have hTs : (Ty.S ((l.drop 4).take N)).size ≤ 1048576 := by rw [Ty.size_S, List.length_take]; omega
        have hYs : 4 ≤ (Ty.S (l.drop (4 + N))).size := by rw [Ty.size_S, List.length_drop]; omega
        have C1 : Hid (∀ m, Calls Try.prog 21 #[.pointer (some ⟨g, 0, none⟩), .string (Ty.S ((l.drop 4).take N))] (w1.drewN m) fun e w' => e = .returned (.int .u32 ((Fr.sum ((l.drop 4).take N) : Nat) : Int)) ∧ w' = w1.drewN m) := Lib.hid fun m => by
          have := Fr.tsum_c g (Ty.S ((l.drop 4).take N)) (by omega) (w1.drewN m) (Fr.Tab.kept HT1.out (Bt.drewN_below w1 m))
          rwa [Ty.data_S] at this
        have C2 : Hid (∀ m, Calls Try.prog 28 #[.string (Ty.S (l.drop (4 + N)))] (w1.drewN m) fun e w' => e = .returned (.int .u32 ((Fr.val ((l.drop (4 + N)).take 4) : Nat) : Int)) ∧ ∃ n, w' = (w1.drewN m).drewN n) := Lib.hid fun m => by
          have := Fr.numberOf_c (Ty.S (l.drop (4 + N))) hYs (w1.drewN m)
          rwa [Ty.data_S] at this
        have FW := Lib.hid (FW.out hb ht)
        have FN := Lib.hid (FN.out hb ht)
        generalize Fr.val ((l.drop (4 + N)).take 4) = V at C2 FW FN
        generalize Fr.sum ((l.drop 4).take N) = M at C1 FW FN
        generalize (l.drop 4).take N = K at hT hTs C1 FN
        generalize Ty.S (l.drop (4 + N)) = Y at hY hYs C2
        obtain ⟨T, hTT⟩ : ∃ T, T = Ty.S K := ⟨_, rfl⟩
        rw [← hTT] at hT hTs C1
        have HTT := Lib.hid hTT
        have t2 : (4 + (N : Int)).toNat = 4 + N := by omega
        have hN2 : N + 8 ≤ s.size := by omega
        have hN2i : (4 + (N : Int)) ≤ (s.size : Int) := by omega
        have hN4i : (4 : Int) ≤ 4 + (N : Int) := by omega
        clear hTT hb ht hll FB FT
        go_wp2_with fail
        go_quiet (first | (go_at_call 21; exact Calls.quiet_of_same (C1.out _)) | (go_at_call 28; exact Calls.quiet_of (C2.out _)))
        by_cases hv : V = M
        · have hvi : ((M : Nat) : Int) = ((V : Nat) : Int) := by rw [hv]
          have HE := Lib.hid (FN.out hv)
          clear FW FN hv
          go_wp2
          go_ret2
          refine ⟨by rw [HE.out, HTT.out]; rfl, n1 + nq, ?_⟩
          rw [HW1.out]
          exact World.drewN_drewN _ _ _
        · have hvi : ¬ ((M : Nat) : Int) = ((V : Nat) : Int) := by omega
          have HE := Lib.hid (FW.out hv)
          clear FW FN hv
          go_wp2
          go_ret2
          refine ⟨by rw [HE.out]; rfl, n1 + nq, ?_⟩
          rw [HW1.out]
          exact World.drewN_drewN _ _ _
end Go.Proofs.Ytkbkhohknniibaa
