/-
  The document's answers for package frame: Scan, step by step (mathematics).
  The document's answers for package frame: Scan, the walk.
  The document's answers for package frame: All.
-/
import Derived.Test.YtkbkhohknniibaaF3
import Derived.Test.YtkbkhohknniibaaQ2
namespace Go.Proofs.Ytkbkhohknniibaa
open Go.RowKit
/-- So far: the frames L are scanned, they have a bytes. -/
def Fr.Mid (l : List UInt8) (a : Nat) (L : List Fr.Str) : Prop :=
  a ≤ l.length ∧ 8 * L.length ≤ a ∧ Fr.scan l = if (Fr.scan (l.drop a)).1 ≠ 0 then (8, [], 0) else (0, L ++ (Fr.scan (l.drop a)).2.1, a + (Fr.scan (l.drop a)).2.2)
theorem Fr.Mid.start (l : List UInt8) : Fr.Mid l 0 [] := by
  refine ⟨Nat.zero_le _, by simp, ?_⟩
  rw [List.drop_zero]
  rcases Fr.scan_err l with e | e
  · rw [if_neg (by rw [e]; simp)]
    exact Prod.ext e (Prod.ext (by simp) (by simp))
  · rw [e]; rfl
theorem Fr.Mid.short {l : List UInt8} {a : Nat} {L : List Fr.Str} (h : Fr.Mid l a L) (h4 : (l.drop a).length < 4) : Fr.scan l = (0, L, a) := by
  rw [h.2.2, Fr.scan_is (l.drop a), if_pos h4]
  simp
theorem Fr.Mid.big {l : List UInt8} {a : Nat} {L : List Fr.Str} (h : Fr.Mid l a L) (h4 : ¬ (l.drop a).length < 4) (hb : 1048576 < Fr.val ((l.drop a).take 4)) : Fr.scan l = (8, [], 0) := by
  rw [h.2.2, Fr.scan_is (l.drop a), if_neg h4, if_pos hb]
  rfl
theorem Fr.Mid.torn {l : List UInt8} {a : Nat} {L : List Fr.Str} (h : Fr.Mid l a L) (h4 : ¬ (l.drop a).length < 4) (hb : ¬ 1048576 < Fr.val ((l.drop a).take 4)) (ht : (l.drop a).length < Fr.val ((l.drop a).take 4) + 8) : Fr.scan l = (0, L, a) := by
  rw [h.2.2, Fr.scan_is (l.drop a), if_neg h4, if_neg hb, if_pos ht]
  simp
theorem Fr.Mid.wrong {l : List UInt8} {a : Nat} {L : List Fr.Str} (h : Fr.Mid l a L) (h4 : ¬ (l.drop a).length < 4) (hb : ¬ 1048576 < Fr.val ((l.drop a).take 4)) (ht : ¬ (l.drop a).length < Fr.val ((l.drop a).take 4) + 8)
    (hs : Fr.val (((l.drop a).drop (4 + Fr.val ((l.drop a).take 4))).take 4) ≠ Fr.sum (((l.drop a).drop 4).take (Fr.val ((l.drop a).take 4)))) : Fr.scan l = (8, [], 0) := by
  rw [h.2.2, Fr.scan_is (l.drop a), if_neg h4, if_neg hb, if_neg ht, if_pos hs]
  rfl
theorem Fr.Mid.next {l : List UInt8} {a : Nat} {L : List Fr.Str} (h : Fr.Mid l a L) (h4 : ¬ (l.drop a).length < 4) (hb : ¬ 1048576 < Fr.val ((l.drop a).take 4)) (ht : ¬ (l.drop a).length < Fr.val ((l.drop a).take 4) + 8)
    (hs : Fr.val (((l.drop a).drop (4 + Fr.val ((l.drop a).take 4))).take 4) = Fr.sum (((l.drop a).drop 4).take (Fr.val ((l.drop a).take 4)))) : Fr.Mid l (a + (Fr.val ((l.drop a).take 4) + 8)) (L ++ [((l.drop a).drop 4).take (Fr.val ((l.drop a).take 4))]) := by
  have hlen : (l.drop a).length = l.length - a := List.length_drop
  refine ⟨by omega, by rw [List.length_append, List.length_singleton]; have := h.2.1; omega, ?_⟩
  have e := Fr.scan_is (l.drop a)
  rw [if_neg h4, if_neg hb, if_neg ht, if_neg (fun h => h hs), show (l.drop a).drop (Fr.val ((l.drop a).take 4) + 8) = l.drop (a + (Fr.val ((l.drop a).take 4) + 8)) from List.drop_drop] at e
  rw [h.2.2, e]
  generalize Fr.scan (l.drop (a + (Fr.val ((l.drop a).take 4) + 8))) = q
  generalize Fr.val ((l.drop a).take 4) = N
  by_cases h5 : q.1 ≠ 0
  · simp [h5]
  · have h6 : q.1 = 0 := by simpa using h5
    simp [h6, Nat.add_assoc]
/-- What Scan leaves. -/
def Fr.Got (w : World) (r : Nat × List Fr.Str × Nat) (e : Ending) (w' : World) : Prop :=
  ∃ v, e = .returned (.tuple #[v, .int .i64 ((r.2.2 : Nat) : Int), .int .i64 ((r.1 : Nat) : Int)]) ∧ Tx.At w'.heap.size w' v r.2.1 ∧ Below w.heap.size w w'
theorem Fr.Got.bad {w w' : World} {r : Nat × List Fr.Str × Nat} (hr : r = (8, [], 0)) (g : Below w.heap.size w w') : Fr.Got w r (.returned (.tuple #[.slice none 0 0, .int .i64 0, .int .i64 8])) w' :=
  ⟨_, by rw [hr]; rfl, by rw [hr]; exact Tx.At.nil _, g⟩
theorem Fr.Got.good {w w' : World} {r : Nat × List Fr.Str × Nat} {v : Value} {L : List Fr.Str} {a : Nat} (hr : r = (0, L, a)) (h : Tx.At w'.heap.size w' v L) (g : Below w.heap.size w w') : Fr.Got w r (.returned (.tuple #[v, .int .i64 (a : Int), .int .i64 0])) w' :=
  ⟨_, by rw [hr]; rfl, by rw [hr]; exact h, g⟩
theorem Fr.ext_at (s : ByteArray) (a b : Nat) : s.extract a b = Ty.S ((s.data.toList.drop a).take (b - a)) := Ty.extract_S s a b
end Go.Proofs.Ytkbkhohknniibaa

namespace Go.Proofs.Ytkbkhohknniibaa
open Go.RowKit
set_option maxHeartbeats 4000000 in
set_option maxRecDepth 100000 in
/-- SCAN, as the document has it. -/
theorem Fr.rscan_c (s : ByteArray) (hs : s.size ≤ 70368744177664) (w : World) :
    Calls Try.prog 15 #[.string s] w (Fr.Got w (Fr.scan s.data.toList)) := by
  obtain ⟨l, hl⟩ : ∃ l, l = s.data.toList := ⟨_, rfl⟩
  have hll : l.length = s.size := by rw [hl, Ty.length_data]
  rw [← hl]
  have HL := Lib.hid hl
  have HLL := Lib.hid hll
  have HM0 := Lib.hid (Fr.Mid.start l)
  obtain ⟨R, hR⟩ : ∃ R, R = Fr.scan l := ⟨_, rfl⟩
  rw [← hR]
  have HRR := Lib.hid hR
  clear hR hl hll
  go_enter Try.func15, Try.ntmps15
  go_wp2
  go_loopw [5, 6] (fun ov av wr => ∃ (a : Nat) (L : List Fr.Str), av = .int .i64 a ∧ Fr.Mid l a L ∧ Tx.Own w.heap.size wr ov L ∧ Below w.heap.size w wr) (fun _ av _ => s.size - (intOf av).toNat)
  case atStart => exact ⟨0, [], rfl, HM0.out, Tx.Own.nil _ _, Below.refl _ _⟩
  case round =>
    obtain ⟨a, L, rfl, hM, hO, hb⟩ := hrel
    have has : a ≤ s.size := by have := hM.1; rw [HLL.out] at this; exact this
    have hL8 : 8 * L.length ≤ a := hM.2.1
    have hdl : (l.drop a).length = s.size - a := by rw [List.length_drop, HLL.out]
    have HM := Lib.hid hM
    have HO := Lib.hid hO
    have HB := Lib.hid hb
    have hws := hb.size
    have ha0 : (0 : Int) ≤ (a : Int) := by omega
    clear hM hO hb HM0
    by_cases h4 : s.size - a < 4
    · have hti : ¬ (4 : Int) ≤ (s.size : Int) - (a : Int) := by omega
      have HE := Lib.hid (HRR.out.trans (HM.out.short (by omega)))
      have HAT := Lib.hid (Tx.Own.at HO.out)
      clear h4 hdl
      go_wp2
      go_ret3
      exact Fr.Got.good HE.out HAT.out HB.out
    · have hti : (4 : Int) ≤ (s.size : Int) - (a : Int) := by omega
      have h4' : ¬ (l.drop a).length < 4 := by omega
      have hx : s.extract a (a + 4) = Ty.S ((l.drop a).take 4) := by rw [Fr.ext_at, HL.out, Nat.add_sub_cancel_left]
      have hxs : (Ty.S ((l.drop a).take 4)).size = 4 := by rw [Ty.size_S, List.length_take]; omega
      have cn := fun wz => Fr.rnumber_c (Ty.S ((l.drop a).take 4)) (by omega) wz
      rw [Ty.data_S, List.take_take, Nat.min_self] at cn
      have hN32 : Fr.val ((l.drop a).take 4) < 4294967296 := by
        have := Fr.val_lt ((l.drop a).take 4)
        rw [List.length_take, Nat.min_eq_left (by omega)] at this
        exact this
      have FB := Lib.hid fun h => HRR.out.trans (HM.out.big h4' h)
      have FT := Lib.hid fun h h2 => HRR.out.trans (HM.out.torn h4' h h2)
      have FW := Lib.hid fun h h2 h3 => HRR.out.trans (HM.out.wrong h4' h h2 h3)
      have FN := Lib.hid fun h h2 h3 => HM.out.next h4' h h2 h3
      generalize Fr.val ((l.drop a).take 4) = N at cn hN32 FB FT FW FN
      generalize hX4 : Ty.S ((l.drop a).take 4) = X4 at hx hxs cn
      have t1 : ((a : Int) + 4).toNat = a + 4 := by omega
      clear hX4 h4 h4'
      go_wp2_with fail
      with_reducible refine (cn _).mono ?_
      rintro e w1 ⟨rfl, n1, hw1⟩
      have HB1 : Hid (Below w.heap.size w w1) := Lib.hid (by rw [hw1]; exact HB.out.trans ((Bt.drewN_below _ _).mono hws))
      have HO1 : Hid (Tx.Own w.heap.size w1 u5 L) := Lib.hid (by rw [hw1]; exact Bt.Buf.kept HO.out (Bt.drewN_below _ _))
      clear hw1 cn HO HB
      by_cases hb : 1048576 < N
      · have hbi : (1048576 : Int) < (N : Int) := by omega
        have HE := Lib.hid (FB.out hb)
        clear hb FT FW FN
        go_wp2
        go_ret3
        exact Fr.Got.bad HE.out HB1.out
      · have hbi : ¬ (1048576 : Int) < (N : Int) := by omega
        clear FB
        by_cases ht : s.size - a < N + 8
        · have hti2 : (s.size : Int) - (a : Int) < (N : Int) + 8 := by omega
          have HE := Lib.hid (FT.out hb (by omega))
          have HAT := Lib.hid (Tx.Own.at HO1.out)
          clear hb ht FW FN FT hdl
          go_wp2
          go_ret3
          exact Fr.Got.good HE.out HAT.out HB1.out
        · have hti2 : ¬ (s.size : Int) - (a : Int) < (N : Int) + 8 := by omega
          have ht' : ¬ (l.drop a).length < N + 8 := by omega
          have hT : s.extract (a + 4) (a + 4 + N) = Ty.S (((l.drop a).drop 4).take N) := by rw [Fr.ext_at, HL.out, List.drop_drop, Nat.add_sub_cancel_left]
          have hY : s.extract (a + 4 + N) (a + 8 + N) = Ty.S (((l.drop a).drop (4 + N)).take 4) := by rw [Fr.ext_at, HL.out, List.drop_drop, show a + 8 + N - (a + 4 + N) = 4 by omega, Nat.add_assoc]
          have hTs : (Ty.S (((l.drop a).drop 4).take N)).size ≤ 1048576 := by rw [Ty.size_S, List.length_take]; omega
          have hYs : (Ty.S (((l.drop a).drop (4 + N)).take 4)).size = 4 := by rw [Ty.size_S, List.length_take, List.length_drop]; omega
          have cs := fun wz => Fr.rsum_c (Ty.S (((l.drop a).drop 4).take N)) (by omega) wz
          have cn := fun wz => Fr.rnumber_c (Ty.S (((l.drop a).drop (4 + N)).take 4)) (by omega) wz
          rw [Ty.data_S, List.take_take, Nat.min_self] at cn
          rw [Ty.data_S] at cs
          have FW := Lib.hid (FW.out hb ht')
          have FN := Lib.hid (FN.out hb ht')
          have HTS : Hid (Ty.S (((l.drop a).drop 4).take N) = Ty.S (((l.drop a).drop 4).take N)) := Lib.hid rfl
          generalize Fr.val (((l.drop a).drop (4 + N)).take 4) = V at cn FW FN
          generalize Fr.sum (((l.drop a).drop 4).take N) = M at cs FW FN
          generalize ((l.drop a).drop 4).take N = K at hT hTs cs FN HTS
          generalize hX5 : Ty.S (((l.drop a).drop (4 + N)).take 4) = Y at hY hYs cn
          obtain ⟨T, hTT⟩ : ∃ T, T = Ty.S K := ⟨_, rfl⟩
          rw [← hTT] at hT hTs cs
          have HTT := Lib.hid hTT
          have t2 : ((a : Int) + 4 + (N : Int)).toNat = a + 4 + N := by omega
          have t3 : ((a : Int) + 8 + (N : Int)).toNat = a + 8 + N := by omega
          have hN2 : a + N + 8 ≤ s.size := by omega
          clear hX5 hTT HTS hb ht ht' hdl
          go_wp2_with fail
          with_reducible refine (cn _).mono ?_
          rintro e w2 ⟨rfl, n2, hw2⟩
          have HB2 : Hid (Below w.heap.size w w2) := Lib.hid (by rw [hw2]; exact HB1.out.trans ((Bt.drewN_below _ _).mono HB1.out.size))
          have HO2 : Hid (Tx.Own w.heap.size w2 u5 L) := Lib.hid (by rw [hw2]; exact Bt.Buf.kept HO1.out (Bt.drewN_below _ _))
          clear hw2 cn HO1 HB1
          go_wp2_with fail
          with_reducible refine (cs _).mono ?_
          rintro e w3 ⟨rfl, hw3⟩
          subst w3
          clear cs
          by_cases hv : V = M
          · have hvi : ((V : Nat) : Int) = ((M : Nat) : Int) := by rw [hv]
            have HNX := Lib.hid (FN.out hv)
            clear FW FN hv
            have hws2 := HB2.out.size
            have hLL : (L.length + 1) * 16 ≤ 140737488355328 := by omega
            have hO2 := HO2.out
            go_wp2_with (at_builtin; refine Bt.wpList_append_one 9 27 (.string ⟨#[]⟩) 16 Try.underlying27 Tx.infoS rfl (hO2.pre K) hws2 hLL (by omega) (.tmp 55) (.tmp 57) _ rfl rfl rfl rfl rfl ?_; intro v3 w3 h3 g3)
            have HO3 := Lib.hid (Tx.Own.post (h3 (by rw [← Tx.sv_snoc, ← HTT.out])))
            have HB3 := Lib.hid (Tx.grew_below HB2.out hO2 g3)
            clear h3 g3 hO2 hLL
            go_wp2
            go_roundw
            case rel => exact ⟨a + (N + 8), L ++ [K], by congr 1, HNX.out, HO3.out, HB3.out⟩
            case measure => simp [intOf]; omega
          · have hvi : ¬ ((V : Nat) : Int) = ((M : Nat) : Int) := by omega
            have HE := Lib.hid (HRR.out.trans (HRR.out.symm.trans (FW.out hv)))
            clear FW FN hv
            go_wp2
            go_ret3
            exact Fr.Got.bad HE.out HB2.out
end Go.Proofs.Ytkbkhohknniibaa

namespace Go.Proofs.Ytkbkhohknniibaa
open Go.RowKit
/-- Frames to the end. -/
def Fr.all (l : List UInt8) : Nat × List Fr.Str := if (Fr.scan l).1 ≠ 0 then ((Fr.scan l).1, []) else if (Fr.scan l).2.2 < l.length then (2, []) else (0, (Fr.scan l).2.1)
/-- What All leaves. -/
def Fr.GotA (w : World) (r : Nat × List Fr.Str) (e : Ending) (w' : World) : Prop :=
  ∃ v, e = .returned (.tuple #[v, .int .i64 ((r.1 : Nat) : Int)]) ∧ Tx.At w'.heap.size w' v r.2 ∧ Below w.heap.size w w'
theorem Fr.GotA.bad {w w' : World} {r : Nat × List Fr.Str} {e : Nat} (hr : r = (e, [])) (g : Below w.heap.size w w') : Fr.GotA w r (.returned (.tuple #[.slice none 0 0, .int .i64 (e : Int)])) w' :=
  ⟨_, by rw [hr], by rw [hr]; exact Tx.At.nil _, g⟩
theorem Fr.GotA.good {w w' : World} {r : Nat × List Fr.Str} {v : Value} {L : List Fr.Str} (hr : r = (0, L)) (h : Tx.At w'.heap.size w' v L) (g : Below w.heap.size w w') : Fr.GotA w r (.returned (.tuple #[v, .int .i64 0])) w' :=
  ⟨_, by rw [hr]; rfl, by rw [hr]; exact h, g⟩
theorem Fr.scan_le (l : List UInt8) : (Fr.scan l).2.2 ≤ l.length := by
  rcases Fr.scan_err l with h | h
  · exact Fr.scan_end l.length l (Nat.le_refl _) h
  · rw [h]; exact Nat.zero_le _
set_option maxHeartbeats 2000000 in
set_option maxRecDepth 100000 in
/-- ALL, as the document has it. -/
theorem Fr.rall_c (s : ByteArray) (hs : s.size ≤ 70368744177664) (w : World) :
    Calls Try.prog 17 #[.string s] w (Fr.GotA w (Fr.all s.data.toList)) := by
  have cr := Fr.rscan_c s hs w
  have hle := Fr.scan_le s.data.toList
  rw [Ty.length_data] at hle
  have HA : Hid (Fr.all s.data.toList = if (Fr.scan s.data.toList).1 ≠ 0 then ((Fr.scan s.data.toList).1, []) else if (Fr.scan s.data.toList).2.2 < s.size then (2, []) else (0, (Fr.scan s.data.toList).2.1)) := Lib.hid (by rw [Fr.all, Ty.length_data])
  generalize Fr.all s.data.toList = R at HA ⊢
  generalize Fr.scan s.data.toList = q at cr hle HA
  obtain ⟨E, L, n⟩ := q
  simp only at hle HA
  unfold Fr.Got at cr
  simp only at cr
  go_enter Try.func17, Try.ntmps17
  go_wp2_with fail
  with_reducible refine cr.mono ?_
  rintro e w1 ⟨v, rfl, hV, g1⟩
  have HV := Lib.hid hV
  have HB1 := Lib.hid g1
  clear cr hV g1
  by_cases hE : E = 0
  · have hEi : (E : Int) = 0 := by omega
    by_cases hn : n < s.size
    · have hni : (n : Int) < (s.size : Int) := by omega
      have HR := Lib.hid (HA.out.trans ((if_neg (by simp [hE])).trans (if_pos hn)))
      clear hE hn HA
      go_wp2
      go_ret2
      exact Fr.GotA.bad HR.out HB1.out
    · have hni : ¬ (n : Int) < (s.size : Int) := by omega
      have HR := Lib.hid (HA.out.trans ((if_neg (by simp [hE])).trans (if_neg hn)))
      clear hE hn HA
      go_wp2
      go_ret2
      exact Fr.GotA.good HR.out HV.out HB1.out
  · have hEi : ¬ (E : Int) = 0 := by omega
    have HR := Lib.hid (HA.out.trans (if_pos hE))
    clear hE HA
    go_wp2
    go_ret2
    exact Fr.GotA.bad HR.out HB1.out
end Go.Proofs.Ytkbkhohknniibaa
