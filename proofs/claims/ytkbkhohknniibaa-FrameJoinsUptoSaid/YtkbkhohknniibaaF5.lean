/-
  The document's answers for package frame: Scan, the walk.
-/
import Derived.Test.YtkbkhohknniibaaF4
namespace Go.Proofs.Ytkbkhohknniibaa
open Go.RowKit
set_option maxHeartbeats 4000000 in
set_option maxRecDepth 100000 in
/-- SCAN, as the document has it. -/
theorem Fr.rscan_c (s : ByteArray) (hs : s.size ≤ 70368744177664) (w : World) :
    Calls Try.prog 15 #[.string s] w (Fr.Got w (Fr.scan s.data.toList)) := by
  obtain ⟨l, hl⟩ : ∃ l, l = s.data.toList := ⟨_, rfl⟩
  have hll : l.length = s.size := by rw [hl, Ty.length_data]
  rw [← hl]
  have HL := Lib.hid hl
  have HLL := Lib.hid hll
  have HM0 := Lib.hid (Fr.Mid.start l)
  obtain ⟨R, hR⟩ : ∃ R, R = Fr.scan l := ⟨_, rfl⟩
  rw [← hR]
  have HRR := Lib.hid hR
  clear hR hl hll
  go_enter Try.func15, Try.ntmps15
  go_wp2
  go_loopw [5, 6] (fun ov av wr => ∃ (a : Nat) (L : List Fr.Str), av = .int .i64 a ∧ Fr.Mid l a L ∧ Tx.Own w.heap.size wr ov L ∧ Below w.heap.size w wr) (fun _ av _ => s.size - (intOf av).toNat)
  case atStart => exact ⟨0, [], rfl, HM0.out, Tx.Own.nil _ _, Below.refl _ _⟩
  case round =>
    obtain ⟨a, L, rfl, hM, hO, hb⟩ := hrel
    have has : a ≤ s.size := by have := hM.1; rw [HLL.out] at this; exact this
    have hL8 : 8 * L.length ≤ a := hM.2.1
    have hdl : (l.drop a).length = s.size - a := by rw [List.length_drop, HLL.out]
    have HM := Lib.hid hM
    have HO := Lib.hid hO
    have HB := Lib.hid hb
    have hws := hb.size
    have ha0 : (0 : Int) ≤ (a : Int) := by omega
    clear hM hO hb HM0
    by_cases h4 : s.size - a < 4
    · have hti : ¬ (4 : Int) ≤ (s.size : Int) - (a : Int) := by omega
      have HE := Lib.hid (HRR.out.trans (HM.out.short (by omega)))
      have HAT := Lib.hid (Tx.Own.at HO.out)
      clear h4 hdl
      go_wp2
      go_ret3
      exact Fr.Got.good HE.out HAT.out HB.out
    · have hti : (4 : Int) ≤ (s.size : Int) - (a : Int) := by omega
      have h4' : ¬ (l.drop a).length < 4 := by omega
      have hx : s.extract a (a + 4) = Ty.S ((l.drop a).take 4) := by rw [Fr.ext_at, HL.out, Nat.add_sub_cancel_left]
      have hxs : (Ty.S ((l.drop a).take 4)).size = 4 := by rw [Ty.size_S, List.length_take]; omega
      have cn := fun wz => Fr.rnumber_c (Ty.S ((l.drop a).take 4)) (by omega) wz
      rw [Ty.data_S, List.take_take, Nat.min_self] at cn
      have hN32 : Fr.val ((l.drop a).take 4) < 4294967296 := by
        have := Fr.val_lt ((l.drop a).take 4)
        rw [List.length_take, Nat.min_eq_left (by omega)] at this
        exact this
      have FB := Lib.hid fun h => HRR.out.trans (HM.out.big h4' h)
      have FT := Lib.hid fun h h2 => HRR.out.trans (HM.out.torn h4' h h2)
      have FW := Lib.hid fun h h2 h3 => HRR.out.trans (HM.out.wrong h4' h h2 h3)
      have FN := Lib.hid fun h h2 h3 => HM.out.next h4' h h2 h3
      generalize Fr.val ((l.drop a).take 4) = N at cn hN32 FB FT FW FN
      generalize hX4 : Ty.S ((l.drop a).take 4) = X4 at hx hxs cn
      have t1 : ((a : Int) + 4).toNat = a + 4 := by omega
      clear hX4 h4 h4'
      go_wp2_with fail
      with_reducible refine (cn _).mono ?_
      rintro e w1 ⟨rfl, n1, hw1⟩
      have HB1 : Hid (Below w.heap.size w w1) := Lib.hid (by rw [hw1]; exact HB.out.trans ((Bt.drewN_below _ _).mono hws))
      have HO1 : Hid (Tx.Own w.heap.size w1 u5 L) := Lib.hid (by rw [hw1]; exact Bt.Buf.kept HO.out (Bt.drewN_below _ _))
      clear hw1 cn HO HB
      by_cases hb : 1048576 < N
      · have hbi : (1048576 : Int) < (N : Int) := by omega
        have HE := Lib.hid (FB.out hb)
        clear hb FT FW FN
        go_wp2
        go_ret3
        exact Fr.Got.bad HE.out HB1.out
      · have hbi : ¬ (1048576 : Int) < (N : Int) := by omega
        clear FB
        by_cases ht : s.size - a < N + 8
        · have hti2 : (s.size : Int) - (a : Int) < (N : Int) + 8 := by omega
          have HE := Lib.hid (FT.out hb (by omega))
          have HAT := Lib.hid (Tx.Own.at HO1.out)
          clear hb ht FW FN FT hdl
          go_wp2
          go_ret3
          exact Fr.Got.good HE.out HAT.out HB1.out
        · have hti2 : ¬ (s.size : Int) - (a : Int) < (N : Int) + 8 := by omega
          have ht' : ¬ (l.drop a).length < N + 8 := by omega
          have hT : s.extract (a + 4) (a + 4 + N) = Ty.S (((l.drop a).drop 4).take N) := by rw [Fr.ext_at, HL.out, List.drop_drop, Nat.add_sub_cancel_left]
          have hY : s.extract (a + 4 + N) (a + 8 + N) = Ty.S (((l.drop a).drop (4 + N)).take 4) := by rw [Fr.ext_at, HL.out, List.drop_drop, show a + 8 + N - (a + 4 + N) = 4 by omega, Nat.add_assoc]
          have hTs : (Ty.S (((l.drop a).drop 4).take N)).size ≤ 1048576 := by rw [Ty.size_S, List.length_take]; omega
          have hYs : (Ty.S (((l.drop a).drop (4 + N)).take 4)).size = 4 := by rw [Ty.size_S, List.length_take, List.length_drop]; omega
          have cs := fun wz => Fr.rsum_c (Ty.S (((l.drop a).drop 4).take N)) (by omega) wz
          have cn := fun wz => Fr.rnumber_c (Ty.S (((l.drop a).drop (4 + N)).take 4)) (by omega) wz
          rw [Ty.data_S, List.take_take, Nat.min_self] at cn
          rw [Ty.data_S] at cs
          have FW := Lib.hid (FW.out hb ht')
          have FN := Lib.hid (FN.out hb ht')
          have HTS : Hid (Ty.S (((l.drop a).drop 4).take N) = Ty.S (((l.drop a).drop 4).take N)) := Lib.hid rfl
          generalize Fr.val (((l.drop a).drop (4 + N)).take 4) = V at cn FW FN
          generalize Fr.sum (((l.drop a).drop 4).take N) = M at cs FW FN
          generalize ((l.drop a).drop 4).take N = K at hT hTs cs FN HTS
          generalize hX5 : Ty.S (((l.drop a).drop (4 + N)).take 4) = Y at hY hYs cn
          obtain ⟨T, hTT⟩ : ∃ T, T = Ty.S K := ⟨_, rfl⟩
          rw [← hTT] at hT hTs cs
          have HTT := Lib.hid hTT
          have t2 : ((a : Int) + 4 + (N : Int)).toNat = a + 4 + N := by omega
          have t3 : ((a : Int) + 8 + (N : Int)).toNat = a + 8 + N := by omega
          have hN2 : a + N + 8 ≤ s.size := by omega
          clear hX5 hTT HTS hb ht ht' hdl
          go_wp2_with fail
          with_reducible refine (cn _).mono ?_
          rintro e w2 ⟨rfl, n2, hw2⟩
          have HB2 : Hid (Below w.heap.size w w2) := Lib.hid (by rw [hw2]; exact HB1.out.trans ((Bt.drewN_below _ _).mono HB1.out.size))
          have HO2 : Hid (Tx.Own w.heap.size w2 u5 L) := Lib.hid (by rw [hw2]; exact Bt.Buf.kept HO1.out (Bt.drewN_below _ _))
          clear hw2 cn HO1 HB1
          go_wp2_with fail
          with_reducible refine (cs _).mono ?_
          rintro e w3 ⟨rfl, hw3⟩
          subst w3
          clear cs
          by_cases hv : V = M
          · have hvi : ((V : Nat) : Int) = ((M : Nat) : Int) := by rw [hv]
            have HNX := Lib.hid (FN.out hv)
            clear FW FN hv
            have hws2 := HB2.out.size
            have hLL : (L.length + 1) * 16 ≤ 140737488355328 := by omega
            have hO2 := HO2.out
            go_wp2_with (at_builtin; refine Bt.wpList_append_one 9 27 (.string ⟨#[]⟩) 16 Try.underlying27 Tx.infoS rfl (hO2.pre K) hws2 hLL (by omega) (.tmp 55) (.tmp 57) _ rfl rfl rfl rfl rfl ?_; intro v3 w3 h3 g3)
            have HO3 := Lib.hid (Tx.Own.post (h3 (by rw [← Tx.sv_snoc, ← HTT.out])))
            have HB3 := Lib.hid (Tx.grew_below HB2.out hO2 g3)
            clear h3 g3 hO2 hLL
            go_wp2
            go_roundw
            case rel => exact ⟨a + (N + 8), L ++ [K], by congr 1, HNX.out, HO3.out, HB3.out⟩
            case measure => simp [intOf]; omega
          · have hvi : ¬ ((V : Nat) : Int) = ((M : Nat) : Int) := by omega
            have HE := Lib.hid (HRR.out.trans (HRR.out.symm.trans (FW.out hv)))
            clear FW FN hv
            go_wp2
            go_ret3
            exact Fr.Got.bad HE.out HB2.out
end Go.Proofs.Ytkbkhohknniibaa
