/-
  Package frame: the first frame of a text.
-/
import Derived.Test.YtkbkhohknniibaaG2
namespace Go.Proofs.Ytkbkhohknniibaa
open Go.RowKit
/-- The first frame: its text and what is wrong. -/
def Fr.fst (l : List UInt8) : List UInt8 × Nat :=
  if l.length < 4 then ([], 2) else if 1048576 < Fr.val (l.take 4) then ([], 8) else if l.length < Fr.val (l.take 4) + 8 then ([], 2)
  else if Fr.val ((l.drop (4 + Fr.val (l.take 4))).take 4) ≠ Fr.sum ((l.drop 4).take (Fr.val (l.take 4))) then ([], 8) else ((l.drop 4).take (Fr.val (l.take 4)), 0)
theorem Fr.Mid.fst {l : List UInt8} {a : Nat} {L : List Fr.Str} (h : Fr.Mid l a L) :
    ((Fr.fst (l.drop a)).2 = 2 ∧ Fr.scan l = (0, L, a)) ∨ ((Fr.fst (l.drop a)).2 = 8 ∧ Fr.scan l = (8, [], 0)) ∨
    ((Fr.fst (l.drop a)).2 = 0 ∧ (Fr.fst (l.drop a)).1.length ≤ 1048576 ∧ a + ((Fr.fst (l.drop a)).1.length + 8) ≤ l.length ∧ Fr.Mid l (a + ((Fr.fst (l.drop a)).1.length + 8)) (L ++ [(Fr.fst (l.drop a)).1])) := by
  by_cases h4 : (l.drop a).length < 4
  · have e : Fr.fst (l.drop a) = ([], 2) := if_pos h4
    rw [e]
    exact .inl ⟨rfl, h.short h4⟩
  · by_cases hb : 1048576 < Fr.val ((l.drop a).take 4)
    · have e : Fr.fst (l.drop a) = ([], 8) := (if_neg h4).trans (if_pos hb)
      rw [e]
      exact .inr (.inl ⟨rfl, h.big h4 hb⟩)
    · by_cases ht : (l.drop a).length < Fr.val ((l.drop a).take 4) + 8
      · have e : Fr.fst (l.drop a) = ([], 2) := (if_neg h4).trans ((if_neg hb).trans (if_pos ht))
        rw [e]
        exact .inl ⟨rfl, h.torn h4 hb ht⟩
      · by_cases hs : Fr.val (((l.drop a).drop (4 + Fr.val ((l.drop a).take 4))).take 4) = Fr.sum (((l.drop a).drop 4).take (Fr.val ((l.drop a).take 4)))
        · have e : Fr.fst (l.drop a) = (((l.drop a).drop 4).take (Fr.val ((l.drop a).take 4)), 0) := (if_neg h4).trans ((if_neg hb).trans ((if_neg ht).trans (if_neg (fun h => h hs))))
          have hlen : (l.drop a).length = l.length - a := List.length_drop
          have hk : (((l.drop a).drop 4).take (Fr.val ((l.drop a).take 4))).length = Fr.val ((l.drop a).take 4) := by
            rw [List.length_take, List.length_drop]; omega
          have hn := h.next h4 hb ht hs
          have := h.1
          rw [e]
          refine .inr (.inr ⟨rfl, ?_⟩)
          rw [show (((l.drop a).drop 4).take (Fr.val ((l.drop a).take 4)), (0 : Nat)).1 = ((l.drop a).drop 4).take (Fr.val ((l.drop a).take 4)) from rfl, hk]
          exact ⟨by omega, by omega, hn⟩
        · have e : Fr.fst (l.drop a) = ([], 8) := (if_neg h4).trans ((if_neg hb).trans ((if_neg ht).trans (if_pos hs)))
          rw [e]
          exact .inr (.inl ⟨rfl, h.wrong h4 hb ht hs⟩)
set_option maxHeartbeats 2000000 in
set_option maxRecDepth 100000 in
theorem Fr.first_c (g : Nat) (s : ByteArray) (hs : s.size ≤ 140737488355328) (w : World) (hT : Fr.Tab w g) :
    Calls Try.prog 24 #[.pointer (some ⟨g, 0, none⟩), .string s] w fun e w' => e = .returned (.tuple #[.string (Ty.S (Fr.fst s.data.toList).1), .int .i64 (((Fr.fst s.data.toList).2 : Nat) : Int)]) ∧ ∃ n, w' = w.drewN n := by
  obtain ⟨l, hl⟩ : ∃ l, l = s.data.toList := ⟨_, rfl⟩
  have hll : l.length = s.size := by rw [hl, Ty.length_data]
  rw [← hl]
  have HL := Lib.hid hl
  obtain ⟨R, hR⟩ : ∃ R, R = Fr.fst l := ⟨_, rfl⟩
  rw [← hR]
  have HRR := Lib.hid hR
  have HT := Lib.hid hT
  clear hR hT
  by_cases h4 : s.size < 4
  · have h4i : (s.size : Int) < 4 := by omega
    have HE : Hid (R = ([], 2)) := Lib.hid (HRR.out.trans (if_pos (by omega)))
    clear hl hll h4
    go_enter Try.func24, Try.ntmps24
    go_wp2
    go_ret2
    exact ⟨by rw [HE.out]; rfl, 0, rfl⟩
  · have h4i : ¬ (s.size : Int) < 4 := by omega
    have cn := Fr.numberOf_c s (by omega) w
    rw [← hl] at cn
    have hN32 : Fr.val (l.take 4) < 4294967296 := by
      have := Fr.val_lt (l.take 4)
      rw [List.length_take, Nat.min_eq_left (by omega)] at this
      exact this
    have FB : Hid (1048576 < Fr.val (l.take 4) → R = ([], 8)) := Lib.hid fun h => HRR.out.trans ((if_neg (by omega)).trans (if_pos h))
    have FT : Hid (¬ 1048576 < Fr.val (l.take 4) → s.size < Fr.val (l.take 4) + 8 → R = ([], 2)) := Lib.hid fun h h2 => HRR.out.trans ((if_neg (by omega)).trans ((if_neg h).trans (if_pos (by omega))))
    have FW : Hid (¬ 1048576 < Fr.val (l.take 4) → ¬ s.size < Fr.val (l.take 4) + 8 → Fr.val ((l.drop (4 + Fr.val (l.take 4))).take 4) ≠ Fr.sum ((l.drop 4).take (Fr.val (l.take 4))) → R = ([], 8)) := Lib.hid fun h h2 h3 => HRR.out.trans ((if_neg (by omega)).trans ((if_neg h).trans ((if_neg (by omega)).trans (if_pos h3))))
    have FN : Hid (¬ 1048576 < Fr.val (l.take 4) → ¬ s.size < Fr.val (l.take 4) + 8 → Fr.val ((l.drop (4 + Fr.val (l.take 4))).take 4) = Fr.sum ((l.drop 4).take (Fr.val (l.take 4))) → R = ((l.drop 4).take (Fr.val (l.take 4)), 0)) := Lib.hid fun h h2 h3 => HRR.out.trans ((if_neg (by omega)).trans ((if_neg h).trans ((if_neg (by omega)).trans (if_neg (fun hh => hh h3)))))
    generalize Fr.val (l.take 4) = N at cn hN32 FB FT FW FN
    clear hl h4
    go_enter Try.func24, Try.ntmps24
    go_wp2_with fail
    with_reducible refine cn.mono ?_
    rintro e w1 ⟨rfl, n1, hw1⟩
    have HT1 : Hid (Fr.Tab w1 g) := Lib.hid (Fr.Tab.kept HT.out (by rw [hw1]; exact Bt.drewN_below w n1))
    have HW1 := Lib.hid hw1
    clear hw1 cn HT
    by_cases hb : 1048576 < N
    · have hbi : (1048576 : Int) < (N : Int) := by omega
      have HE := Lib.hid (FB.out hb)
      clear hb FT FW FN hll
      go_wp2
      go_ret2
      exact ⟨by rw [HE.out]; rfl, n1, HW1.out⟩
    · have hbi : ¬ (1048576 : Int) < (N : Int) := by omega
      by_cases ht : s.size < N + 8
      · have hti : (s.size : Int) < 4 + (N : Int) + 4 := by omega
        have HE := Lib.hid (FT.out hb (by omega))
        clear hb ht FW FN FB hll
        go_wp2
        go_ret2
        exact ⟨by rw [HE.out]; rfl, n1, HW1.out⟩
      · have hti : ¬ (s.size : Int) < 4 + (N : Int) + 4 := by omega
        have hT : s.extract 4 (4 + N) = Ty.S ((l.drop 4).take N) := by rw [Fr.ext_at, HL.out, Nat.add_sub_cancel_left]
        have hY : s.extract (4 + N) s.size = Ty.S (l.drop (4 + N)) := by
          rw [Fr.ext_at, HL.out, List.take_of_length_le (by rw [List.length_drop, Ty.length_data]; omega)]
        have hTs : (Ty.S ((l.drop 4).take N)).size ≤ 1048576 := by rw [Ty.size_S, List.length_take]; omega
        have hYs : 4 ≤ (Ty.S (l.drop (4 + N))).size := by rw [Ty.size_S, List.length_drop]; omega
        have C1 : Hid (∀ m, Calls Try.prog 21 #[.pointer (some ⟨g, 0, none⟩), .string (Ty.S ((l.drop 4).take N))] (w1.drewN m) fun e w' => e = .returned (.int .u32 ((Fr.sum ((l.drop 4).take N) : Nat) : Int)) ∧ w' = w1.drewN m) := Lib.hid fun m => by
          have := Fr.tsum_c g (Ty.S ((l.drop 4).take N)) (by omega) (w1.drewN m) (Fr.Tab.kept HT1.out (Bt.drewN_below w1 m))
          rwa [Ty.data_S] at this
        have C2 : Hid (∀ m, Calls Try.prog 28 #[.string (Ty.S (l.drop (4 + N)))] (w1.drewN m) fun e w' => e = .returned (.int .u32 ((Fr.val ((l.drop (4 + N)).take 4) : Nat) : Int)) ∧ ∃ n, w' = (w1.drewN m).drewN n) := Lib.hid fun m => by
          have := Fr.numberOf_c (Ty.S (l.drop (4 + N))) hYs (w1.drewN m)
          rwa [Ty.data_S] at this
        have FW := Lib.hid (FW.out hb ht)
        have FN := Lib.hid (FN.out hb ht)
        generalize Fr.val ((l.drop (4 + N)).take 4) = V at C2 FW FN
        generalize Fr.sum ((l.drop 4).take N) = M at C1 FW FN
        generalize (l.drop 4).take N = K at hT hTs C1 FN
        generalize Ty.S (l.drop (4 + N)) = Y at hY hYs C2
        obtain ⟨T, hTT⟩ : ∃ T, T = Ty.S K := ⟨_, rfl⟩
        rw [← hTT] at hT hTs C1
        have HTT := Lib.hid hTT
        have t2 : (4 + (N : Int)).toNat = 4 + N := by omega
        have hN2 : N + 8 ≤ s.size := by omega
        have hN2i : (4 + (N : Int)) ≤ (s.size : Int) := by omega
        have hN4i : (4 : Int) ≤ 4 + (N : Int) := by omega
        clear hTT hb ht hll FB FT
        go_wp2_with fail
        go_quiet (first | (go_at_call 21; exact Calls.quiet_of_same (C1.out _)) | (go_at_call 28; exact Calls.quiet_of (C2.out _)))
        by_cases hv : V = M
        · have hvi : ((M : Nat) : Int) = ((V : Nat) : Int) := by rw [hv]
          have HE := Lib.hid (FN.out hv)
          clear FW FN hv
          go_wp2
          go_ret2
          refine ⟨by rw [HE.out, HTT.out]; rfl, n1 + nq, ?_⟩
          rw [HW1.out]
          exact World.drewN_drewN _ _ _
        · have hvi : ¬ ((M : Nat) : Int) = ((V : Nat) : Int) := by omega
          have HE := Lib.hid (FW.out hv)
          clear FW FN hv
          go_wp2
          go_ret2
          refine ⟨by rw [HE.out]; rfl, n1 + nq, ?_⟩
          rw [HW1.out]
          exact World.drewN_drewN _ _ _
end Go.Proofs.Ytkbkhohknniibaa
