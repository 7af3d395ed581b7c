import Derived.Test.YtodeodndjkkkbaaTAC
import Derived.Deep.CutBlock
namespace Go.Proofs.Ytodeodndjkkkbaa
section
open Go Go.RowKit Go.Sort Go.Lib Go.Shelf
set_option maxHeartbeats 4000000 in
set_option maxRecDepth 1000000 in
theorem Lv.sym_1 {P : Program} {k : Nat} (L : Lv.L P k) {α : Type} [Inhabited α] (enc : α → List Value) (g : Nat) (cb : Array Value) (cf : α → α → Int) (hO : SWO (ltOf cf)) (eg : ∀ args w, (callFunc g args).run P w = .ok (.enter g args) w) (blk off cap : Nat) (d0 : Array α) (w0 : World) (R : RowK enc k w0 blk off d0) (N : Nat) (hN : d0.size = N) (hC : CmpLays P g cb enc k cf blk off N w0) (hsz : N < 1152921504606846976) (d : Array α) (hds : d.size = N) (w : World) (S : SWK enc k w0 blk off d w) (x : α) (A B L1 L2 : List α) (hA : A = [x]) (hd : d.toList = L1 ++ (A ++ (B ++ L2))) (hB : 0 < B.length) (sB : Lv.Sd (ltOf cf) B) (a m b : Nat) (ha : a = L1.length) (hm : m = a + 1) (hb : b = m + B.length) :
 Calls P 78 #[.slice (some ⟨blk, off, none⟩) N cap, .int .i64 a, .int .i64 m, .int .i64 b, .func (.func g) #[] cb] w fun e w' => e = .returned (.tuple #[]) ∧ ∃ d' : Array α, d'.toList = L1 ++ (Lv.mg (ltOf cf) A B ++ L2) ∧ SWK enc k w0 blk off d' w' := by
 subst hA
 have hlen := Lv.len_of hd
 simp only [List.length_append, List.length_singleton] at hlen
 have HN : Hid (d.size = N ∧ d0.size = N ∧ a = L1.length ∧ m = a + 1 ∧ b = m + B.length ∧ b ≤ N ∧ 0 < B.length) := Lib.hid ⟨hds, hN, ha, hm, hb, by omega, hB⟩
 have HC : Aside _ := hC
 have S0 : Aside (SWK enc k w0 blk off d w) := S
 have HD := Lib.hid hd
 have mixed := L.mixed; have t0 := L.t0; have a0 := L.a0; have z0 := L.z0; have v0 := L.v0; have t3 := L.t3; have a3 := L.a3; have z3 := L.z3; have v3 := L.v3; have t4 := L.t4; have a4 := L.a4; have z4 := L.z4; have v4 := L.v4; have tU := L.tU; have aU := L.aU; have zU := L.zU; have vU := L.vU; have tS := L.tS; have aS := L.aS; have zS := L.zS; have vS := L.vS; have tF := L.tF; have aF := L.aF; have zF := L.zF; have vF := L.vF; have aE := L.aP; have zE := L.zP; have eA := L.eA; have eB := L.eB; have eC := L.eC
 have FG := L.fC
 have w1 : IntKind.i64.wrap ((m : Int) - (a : Int)) = 1 := by rw [IntKind.wrap_i64]; omega
 have hxa : d[a]! = x := by rw [ha]; exact Lv.get_at (by rw [hd]; rfl)
 have HXA := Lib.hid hxa
 have HBG : Hid (∀ t, t < B.length → d[m + t]! = B[t]!) := Lib.hid fun t ht => by
  have h1 := Lv.getI (d := d) (L := L1 ++ [x]) (A := B) (T := L2) (by rw [hd]; simp) ht
  rw [List.length_append, List.length_singleton] at h1
  rw [← h1]
  congr 1
  omega
 have a0i : (0 : Int) ≤ (a : Int) := by omega
 have baN : (a : Int) < (N : Int) := by omega
 have hm9 : m ≤ N := by omega
 have hmb : m ≤ b := by omega
 clear S hd hlen ha hm hb hC hds hN hxa
 go_enter FG, Try.ntmps78
 go_wp2_with fail
 go_loopg [10, 11] (b - m) (fun kx s10 s11 wr => ∃ i j : Nat, s10 = .int .i64 i ∧ s11 = .int .i64 j ∧ m ≤ i ∧ i ≤ j ∧ j ≤ b ∧ j - i ≤ kx ∧ Aside (SWK enc k w0 blk off d wr) ∧ Hid (∀ t, t < i - m → t < B.length → ltOf cf B[t]! x = true) ∧ Hid (∀ t, j - m ≤ t → t < B.length → ltOf cf B[t]! x = false))
 case atStart => exact ⟨m, b, rfl, rfl, Nat.le_refl _, hmb, Nat.le_refl _, Nat.le_refl _, S0, Lib.hid (fun t h1 => absurd h1 (by omega)), Lib.hid (fun t h1 h2 => absurd h2 (by have := HN.out; omega))⟩
 case round =>
  clear S0
  obtain ⟨i, j, rfl, rfl, hmi, hij, hjb, hkx, S1, H1, H2⟩ := hrel
  have HIJ : Hid (m ≤ i ∧ i ≤ j ∧ j ≤ b) := Lib.hid ⟨hmi, hij, hjb⟩
  have HKX := Lib.hid hkx
  clear hmi hij hjb hkx
  by_cases hlt : i < j
  ·have hlz : (i : Int) < (j : Int) := by omega
   obtain ⟨h, hh⟩ : ∃ h, h = (i + j) / 2 := ⟨_, rfl⟩
   have hij9 : i ≤ h ∧ h < j := by omega
   have hN9 : h < N := by have := HN.out; have := HIJ.out; omega
   have h0i : (0 : Int) ≤ (h : Int) := by omega
   have hNi : (h : Int) < (N : Int) := by omega
   have w2 : wrap64 ((i : Int) + (j : Int)) = (i : Int) + (j : Int) := IntWalk.wrap64_in _ (by have := HN.out; have := HIJ.out; omega)
   have w3 : IntKind.u64.wrap ((i : Int) + (j : Int)) = (i : Int) + (j : Int) := by have := HN.out; have := HIJ.out; rw [IntKind.wrap_u64]; clear w2; omega
   have w4 : wrap64 (((i : Int) + (j : Int)) / 2) = (h : Int) := by rw [IntWalk.wrap64_in _ (by clear w2 w3; have := HN.out; have := HIJ.out; omega)]; clear w2 w3; omega
   have W2 := Lib.hid w2
   have W3 := Lib.hid w3
   have W4 := Lib.hid w4
   clear w2 w3 w4
   have w5 : IntKind.i64.wrap ((h : Int) + 1) = (h : Int) + 1 := by have := HN.out; rw [IntKind.wrap_i64]; omega
   have W5 := Lib.hid w5
   clear w5
   have HH : Hid (h = (i + j) / 2 ∧ i ≤ h ∧ h < j ∧ h < N) := Lib.hid ⟨hh, hij9.1, hij9.2, hN9⟩
   clear hh hij9 hN9
   obtain ⟨x1, hx1⟩ : ∃ x, x = d[h]! := ⟨_, rfl⟩
   obtain ⟨y1, hy1⟩ : ∃ x, x = d[a]! := ⟨_, rfl⟩
   have l1a := S1.out.ld R (by have := HN.out; omega) P (h) (by have := HN.out; have := HH.out; omega)
   have l1b := S1.out.ld R (by have := HN.out; omega) P (a) (by have := HN.out; have := HH.out; omega)
   rw [← hx1] at l1a
   rw [← hy1] at l1b
   have hc1 := S1.out.cmp HC.out (by have := HN.out; omega) x1 y1
   have HX1 := Lib.hid (And.intro hx1 hy1)
   clear hx1 hy1
   cases hL : ltOf cf x1 y1 with
   | true =>
     have hv1 : cf x1 y1 < 0 := of_decide_eq_true hL
     have HL9 := Lib.hid hL
     clear hL
     have w2 := W2.out
     have w3 := W3.out
     have w4 := W4.out
     have w5 := W5.out
     go_wp2_with fail
     clear w2 w3
     go_quiet_grown (first | (go_at_fn g; refine Calls.grown_of (hc1 _ _)))
     have S2 : Aside (SWK enc k w0 blk off d (grow (wr.drewN nq) osq)) := S1.out.grown nq osq
     clear l1a l1b hc1 S1
     generalize grow (wr.drewN nq) osq = w2 at S2 ⊢
     clear nq osq
     go_wp2
     clear w4 w5
     go_roundg (j - (h + 1))
     case measure => have := HKX.out; have := HH.out; omega
     case rel =>
      refine ⟨h + 1, j, by simp, rfl, by have := HH.out; have := HIJ.out; omega, by have := HH.out; omega, HIJ.out.2.2, Nat.le_refl _, S2, Lib.hid fun t h1 h2 => ?_, H2⟩
      have h3 := HL9.out
      rw [HX1.out.1, HX1.out.2, HXA.out, show h = m + (h - m) by have := HH.out; have := HIJ.out; omega, HBG.out (h - m) (by have := HH.out; have := HIJ.out; have := HN.out; omega)] at h3
      exact Lv.down hO sB (by have := HH.out; have := HIJ.out; have := HN.out; omega) h3 (by omega)
   | false =>
     have hv1 : ¬ cf x1 y1 < 0 := of_decide_eq_false hL
     have HL9 := Lib.hid hL
     clear hL
     have w2 := W2.out
     have w3 := W3.out
     have w4 := W4.out
     have w5 := W5.out
     go_wp2_with fail
     clear w2 w3
     go_quiet_grown (first | (go_at_fn g; refine Calls.grown_of (hc1 _ _)))
     have S2 : Aside (SWK enc k w0 blk off d (grow (wr.drewN nq) osq)) := S1.out.grown nq osq
     clear l1a l1b hc1 S1
     generalize grow (wr.drewN nq) osq = w2 at S2 ⊢
     clear nq osq
     go_wp2
     clear w4 w5
     go_roundg (h - i)
     case measure => have := HKX.out; have := HH.out; omega
     case rel =>
      refine ⟨i, h, rfl, by simp, HIJ.out.1, HH.out.2.1, by have := HH.out; have := HIJ.out; omega, Nat.le_refl _, S2, H1, Lib.hid fun t h1 h2 => ?_⟩
      have h3 := HL9.out
      rw [HX1.out.1, HX1.out.2, HXA.out, show h = m + (h - m) by have := HH.out; have := HIJ.out; omega, HBG.out (h - m) (by have := HH.out; have := HIJ.out; have := HN.out; omega)] at h3
      exact Lv.up hO sB h3 (by omega) h2
  ·have hlz : ¬ (i : Int) < (j : Int) := by omega
   obtain rfl : i = j := by have := HIJ.out; omega
   have w2 : IntKind.i64.wrap ((i : Int) - 1) = (i : Int) - 1 := by have := HN.out; have := HIJ.out; rw [IntKind.wrap_i64]; omega
   obtain ⟨p, hp⟩ : ∃ p, p = i - m := ⟨_, rfl⟩
   have HP : Hid (p = i - m ∧ i = m + p ∧ p ≤ B.length ∧ a + 1 + p ≤ N) := Lib.hid (by have := HIJ.out; have := HN.out; omega)
   rw [← hp] at H1 H2
   clear hlt hp
   go_wp2_with fail
   go_loopg [13] p (fun kx s13 wr => ∃ (t : Nat) (dk : Array α), s13 = .int .i64 ((a : Int) + (t : Int)) ∧ t ≤ p ∧ p - t ≤ kx ∧ Aside (SWK enc k w0 blk off dk wr) ∧ Hid (dk.toList = L1 ++ (B.take t ++ (x :: (B.drop t ++ L2)))))
   case atStart => exact ⟨0, d, by simp, Nat.zero_le _, Nat.le_refl _, S1, Lib.hid (by rw [HD.out]; simp)⟩
   case round =>
    clear S1
    obtain ⟨t, dk, rfl, htp, hkx2, S1, HL⟩ := hrel
    have HT := Lib.hid (And.intro htp hkx2)
    have HK : Hid (dk.size = N ∧ a + t + 1 ≤ N ∧ (t < p → a + t + 1 < dk.size)) := Lib.hid (by
     have h1 := Lv.len_of HL.out
     have h2 := HN.out
     have h3 := HP.out
     simp only [List.length_append, List.length_cons, List.length_take, List.length_drop] at h1
     have h4 := Lv.len_of HD.out
     simp only [List.length_append, List.length_cons, List.length_nil] at h4
     omega)
    clear htp hkx2
    by_cases hlt : t < p
    ·have hlz2 : (a : Int) + (t : Int) < (i : Int) - 1 := by have := HP.out; have := HN.out; omega
     have ea : ((a : Int) + (t : Int)).toNat = a + t := by omega
     have eb : ((a : Int) + (t : Int) + 1).toNat = a + t + 1 := by omega
     have pa : (0 : Int) ≤ (a : Int) + (t : Int) := by omega
     have pb : (0 : Int) ≤ (a : Int) + (t : Int) + 1 := by omega
     have ba : (a : Int) + (t : Int) < (N : Int) := by have := HK.out; omega
     have bb : (a : Int) + (t : Int) + 1 < (N : Int) := by have := HK.out; omega
     have rb : IntKind.i64.wrap ((a : Int) + (t : Int) + 1) = (a : Int) + (t : Int) + 1 := by have := HK.out; rw [IntKind.wrap_i64]; omega
     have S2 : Aside (SWK enc k w0 blk off (swp dk (a + t) (a + t + 1)) ((wr.drew.setCells blk (off + (a + t) * k) (enc dk[a + t + 1]!)).setCells blk (off + (a + t + 1) * k) (enc dk[a + t]!))) := S1.out.swapped R (a + t) (a + t + 1) (by have := HK.out; omega) (by have := HK.out; omega)
     have la := S1.out.ld1 R (by have := HK.out; have := HN.out; omega) P (a + t) (by have := HK.out; omega)
     have lb := S1.out.ld1 R (by have := HK.out; have := HN.out; omega) P (a + t + 1) (by have := HK.out; omega)
     have sa := S1.out.st1 R (by have := HK.out; have := HN.out; omega) P (a + t) (by have := HK.out; omega) dk[a + t + 1]!
     have sb := S1.out.st2 R (by have := HK.out; have := HN.out; omega) P (a + t) (a + t + 1) (by have := HK.out; omega) (by have := HK.out; omega) dk[a + t + 1]! dk[a + t]!
     have na : (enc dk[a + t]!).length = k := R.hk _
     have nb : (enc dk[a + t + 1]!).length = k := R.hk _
     generalize enc dk[a + t]! = cI at S2 la sb na
     generalize enc dk[a + t + 1]! = cJ at S2 lb sa sb nb
     clear S1
     go_wp2_with fail
     go_big_region_o
     clear la lb sa sb
     generalize (wr.drew.setCells blk (off + (a + t) * k) cJ).setCells blk (off + (a + t + 1) * k) cI = w2 at S2 ⊢
     go_wp2
     go_roundg (p - (t + 1))
     case measure => have := HT.out; omega
     case rel =>
      refine ⟨t + 1, _, by push_cast; rw [Int.add_assoc], hlt, Nat.le_refl _, S2, Lib.hid ?_⟩
      have htB : t < B.length := by have := HP.out; omega
      have hw := (Lv.swp_list dk (L1 ++ B.take t) [] (B.drop (t + 1) ++ L2) x B[t] (by rw [HL.out, List.drop_eq_getElem_cons htB]; simp only [List.append_assoc, List.nil_append, List.cons_append])).1
      rw [show (L1 ++ B.take t).length = a + t by rw [List.length_append, List.length_take]; have := HN.out; omega] at hw
      simp only [List.length_nil, Nat.zero_add, List.nil_append] at hw
      rw [hw, List.take_add_one, List.getElem?_eq_getElem htB]
      simp only [Option.toList_some, List.append_assoc, List.cons_append, List.nil_append]
    ·have hlz2 : ¬ (a : Int) + (t : Int) < (i : Int) - 1 := by have := HP.out; have := HN.out; omega
     go_wp2
     (try simp only [Exit.inBlock, Exit.then])
     refine bodyPost_ret (results_none rfl _ _ _) rfl ?_
     refine ⟨rfl, dk, ?_, S1.out⟩
     obtain rfl : t = p := by have := HT.out; omega
     rw [HL.out]
     have hmg := Lv.mg_first (lt := ltOf cf) x (B.take t) (B.drop t) (Lv.take_all fun q h1 h2 => H1.out q h1 h2) (Lv.drop_all fun q h1 h2 => H2.out q h1 h2)
     rw [List.take_append_drop] at hmg
     rw [hmg]
     simp
end
section
open Go Go.RowKit Go.Sort Go.Lib Go.Shelf
set_option maxHeartbeats 4000000 in
set_option maxRecDepth 1000000 in
theorem Lv.sym_2 {P : Program} {k : Nat} (L : Lv.L P k) {α : Type} [Inhabited α] (enc : α → List Value) (g : Nat) (cb : Array Value) (cf : α → α → Int) (hO : SWO (ltOf cf)) (eg : ∀ args w, (callFunc g args).run P w = .ok (.enter g args) w) (blk off cap : Nat) (d0 : Array α) (w0 : World) (R : RowK enc k w0 blk off d0) (N : Nat) (hN : d0.size = N) (hC : CmpLays P g cb enc k cf blk off N w0) (hsz : N < 1152921504606846976) (d : Array α) (hds : d.size = N) (w : World) (S : SWK enc k w0 blk off d w) (x : α) (A B L1 L2 : List α) (hB : B = [x]) (hd : d.toList = L1 ++ (A ++ (B ++ L2))) (hA : 1 < A.length) (sA : Lv.Sd (ltOf cf) A) (a m b : Nat) (ha : a = L1.length) (hm : m = a + A.length) (hb : b = m + 1) :
 Calls P 78 #[.slice (some ⟨blk, off, none⟩) N cap, .int .i64 a, .int .i64 m, .int .i64 b, .func (.func g) #[] cb] w fun e w' => e = .returned (.tuple #[]) ∧ ∃ d' : Array α, d'.toList = L1 ++ (Lv.mg (ltOf cf) A B ++ L2) ∧ SWK enc k w0 blk off d' w' := by
 subst hB
 have hlen := Lv.len_of hd
 simp only [List.length_append, List.length_singleton] at hlen
 have HN : Hid (d.size = N ∧ d0.size = N ∧ a = L1.length ∧ m = a + A.length ∧ b = m + 1 ∧ b ≤ N ∧ 1 < A.length) := Lib.hid ⟨hds, hN, ha, hm, hb, by omega, hA⟩
 have HC : Aside _ := hC
 have S0 : Aside (SWK enc k w0 blk off d w) := S
 have HD := Lib.hid hd
 have mixed := L.mixed; have t0 := L.t0; have a0 := L.a0; have z0 := L.z0; have v0 := L.v0; have t3 := L.t3; have a3 := L.a3; have z3 := L.z3; have v3 := L.v3; have t4 := L.t4; have a4 := L.a4; have z4 := L.z4; have v4 := L.v4; have tU := L.tU; have aU := L.aU; have zU := L.zU; have vU := L.vU; have tS := L.tS; have aS := L.aS; have zS := L.zS; have vS := L.vS; have tF := L.tF; have aF := L.aF; have zF := L.zF; have vF := L.vF; have aE := L.aP; have zE := L.zP; have eA := L.eA; have eB := L.eB; have eC := L.eC
 have FG := L.fC
 obtain ⟨n, hn⟩ : ∃ n : Nat, n = A.length := ⟨_, rfl⟩
 have w1 : IntKind.i64.wrap ((m : Int) - (a : Int)) = (n : Int) := by rw [IntKind.wrap_i64]; omega
 have hn1 : ((n : Int) == 1) = false := beq_eq_false_iff_ne.2 (by omega)
 have hn2 : ¬ (n : Int) = 1 := by omega
 have v1 : IntKind.i64.wrap ((b : Int) - (m : Int)) = 1 := by rw [IntKind.wrap_i64]; omega
 have hxa : d[m]! = x := by
  have := Lv.get_at (d := d) (L1 := L1 ++ A) (L2 := L2) (x := x) (by rw [hd]; simp)
  rwa [List.length_append, ← ha, ← hm] at this
 have HXA := Lib.hid hxa
 have HBG : Hid (∀ t, t < A.length → d[a + t]! = A[t]!) := Lib.hid fun t ht => by
  rw [ha]
  exact Lv.getI (d := d) (L := L1) (A := A) (T := [x] ++ L2) hd ht
 have a0i : (0 : Int) ≤ (m : Int) := by omega
 have baN : (m : Int) < (N : Int) := by omega
 have hm9 : m ≤ N := by omega
 have hmb : a ≤ m := by omega
 clear S hd hlen ha hm hb hC hds hN hxa hn hA
 go_enter FG, Try.ntmps78
 go_wp2_with fail
 go_loopg [14, 15] (m - a) (fun kx s14 s15 wr => ∃ i j : Nat, s14 = .int .i64 i ∧ s15 = .int .i64 j ∧ a ≤ i ∧ i ≤ j ∧ j ≤ m ∧ j - i ≤ kx ∧ Aside (SWK enc k w0 blk off d wr) ∧ Hid (∀ t, t < i - a → t < A.length → ltOf cf x A[t]! = false) ∧ Hid (∀ t, j - a ≤ t → t < A.length → ltOf cf x A[t]! = true))
 case atStart => exact ⟨a, m, rfl, rfl, Nat.le_refl _, hmb, Nat.le_refl _, Nat.le_refl _, S0, Lib.hid (fun t h1 => absurd h1 (by omega)), Lib.hid (fun t h1 h2 => absurd h2 (by have := HN.out; omega))⟩
 case round =>
  clear S0 w1 v1 hn1 hn2
  obtain ⟨i, j, rfl, rfl, hmi, hij, hjb, hkx, S1, H1, H2⟩ := hrel
  have HIJ : Hid (a ≤ i ∧ i ≤ j ∧ j ≤ m) := Lib.hid ⟨hmi, hij, hjb⟩
  have HKX := Lib.hid hkx
  clear hmi hij hjb hkx
  by_cases hlt : i < j
  ·have hlz : (i : Int) < (j : Int) := by omega
   obtain ⟨h, hh⟩ : ∃ h, h = (i + j) / 2 := ⟨_, rfl⟩
   have hij9 : i ≤ h ∧ h < j := by omega
   have hN9 : h < N := by have := HN.out; have := HIJ.out; omega
   have h0i : (0 : Int) ≤ (h : Int) := by omega
   have hNi : (h : Int) < (N : Int) := by omega
   have w2 : wrap64 ((i : Int) + (j : Int)) = (i : Int) + (j : Int) := IntWalk.wrap64_in _ (by have := HN.out; have := HIJ.out; omega)
   have w3 : IntKind.u64.wrap ((i : Int) + (j : Int)) = (i : Int) + (j : Int) := by have := HN.out; have := HIJ.out; rw [IntKind.wrap_u64]; clear w2; omega
   have w4 : wrap64 (((i : Int) + (j : Int)) / 2) = (h : Int) := by rw [IntWalk.wrap64_in _ (by clear w2 w3; have := HN.out; have := HIJ.out; omega)]; clear w2 w3; omega
   have W2 := Lib.hid w2
   have W3 := Lib.hid w3
   have W4 := Lib.hid w4
   clear w2 w3 w4
   have w5 : IntKind.i64.wrap ((h : Int) + 1) = (h : Int) + 1 := by have := HN.out; rw [IntKind.wrap_i64]; omega
   have W5 := Lib.hid w5
   clear w5
   have HH : Hid (h = (i + j) / 2 ∧ i ≤ h ∧ h < j ∧ h < N) := Lib.hid ⟨hh, hij9.1, hij9.2, hN9⟩
   clear hh hij9 hN9
   obtain ⟨x1, hx1⟩ : ∃ x, x = d[m]! := ⟨_, rfl⟩
   obtain ⟨y1, hy1⟩ : ∃ x, x = d[h]! := ⟨_, rfl⟩
   have l1a := S1.out.ld R (by have := HN.out; omega) P (m) (by have := HN.out; have := HH.out; omega)
   have l1b := S1.out.ld R (by have := HN.out; omega) P (h) (by have := HN.out; have := HH.out; omega)
   rw [← hx1] at l1a
   rw [← hy1] at l1b
   have hc1 := S1.out.cmp HC.out (by have := HN.out; omega) x1 y1
   have HX1 := Lib.hid (And.intro hx1 hy1)
   clear hx1 hy1
   cases hL : ltOf cf x1 y1 with
   | true =>
     have hv1 : cf x1 y1 < 0 := of_decide_eq_true hL
     have hd1 : decide (cf x1 y1 < 0) = true := hL
     have HL9 := Lib.hid hL
     clear hL
     have w2 := W2.out
     have w3 := W3.out
     have w4 := W4.out
     have w5 := W5.out
     go_wp2_with fail
     clear w2 w3
     go_quiet_grown (first | (go_at_fn g; refine Calls.grown_of (hc1 _ _)))
     have S2 : Aside (SWK enc k w0 blk off d (grow (wr.drewN nq) osq)) := S1.out.grown nq osq
     clear l1a l1b hc1 S1
     generalize grow (wr.drewN nq) osq = w2 at S2 ⊢
     clear nq osq
     go_wp2
     clear w4 w5
     go_roundg (h - i)
     case measure => have := HKX.out; have := HH.out; omega
     case rel =>
      refine ⟨i, h, rfl, by simp, HIJ.out.1, HH.out.2.1, by have := HH.out; have := HIJ.out; omega, Nat.le_refl _, S2, H1, Lib.hid fun t h1 h2 => ?_⟩
      have h3 := HL9.out
      rw [HX1.out.1, HX1.out.2, HXA.out, show h = a + (h - a) by have := HH.out; have := HIJ.out; omega, HBG.out (h - a) (by have := HH.out; have := HIJ.out; have := HN.out; omega)] at h3
      exact Lv.up' hO sA h3 (by omega) h2
   | false =>
     have hv1 : ¬ cf x1 y1 < 0 := of_decide_eq_false hL
     have hd1 : decide (cf x1 y1 < 0) = false := hL
     have HL9 := Lib.hid hL
     clear hL
     have w2 := W2.out
     have w3 := W3.out
     have w4 := W4.out
     have w5 := W5.out
     go_wp2_with fail
     clear w2 w3
     go_quiet_grown (first | (go_at_fn g; refine Calls.grown_of (hc1 _ _)))
     have S2 : Aside (SWK enc k w0 blk off d (grow (wr.drewN nq) osq)) := S1.out.grown nq osq
     clear l1a l1b hc1 S1
     generalize grow (wr.drewN nq) osq = w2 at S2 ⊢
     clear nq osq
     go_wp2
     clear w4 w5
     go_roundg (j - (h + 1))
     case measure => have := HKX.out; have := HH.out; omega
     case rel =>
      refine ⟨h + 1, j, by simp, rfl, by have := HH.out; have := HIJ.out; omega, by have := HH.out; omega, HIJ.out.2.2, Nat.le_refl _, S2, Lib.hid fun t h1 h2 => ?_, H2⟩
      have h3 := HL9.out
      rw [HX1.out.1, HX1.out.2, HXA.out, show h = a + (h - a) by have := HH.out; have := HIJ.out; omega, HBG.out (h - a) (by have := HH.out; have := HIJ.out; have := HN.out; omega)] at h3
      exact Lv.down' hO sA (by have := HH.out; have := HIJ.out; have := HN.out; omega) h3 (by omega)
  ·have hlz : ¬ (i : Int) < (j : Int) := by omega
   obtain rfl : i = j := by have := HIJ.out; omega
   obtain ⟨p, hp⟩ : ∃ p, p = i - a := ⟨_, rfl⟩
   have HP : Hid (p = i - a ∧ i = a + p ∧ p ≤ A.length) := Lib.hid (by have := HIJ.out; have := HN.out; omega)
   rw [← hp] at H1 H2
   clear hlt hp
   go_wp2_with fail
   go_loopg [17] (m - i) (fun kx s17 wr => ∃ (c : Nat) (z : Int) (dk : Array α), s17 = .int .i64 z ∧ Hid (z = (a : Int) + (c : Int) ∧ p ≤ c ∧ c ≤ A.length) ∧ c - p ≤ kx ∧ Aside (SWK enc k w0 blk off dk wr) ∧ Hid (dk.toList = L1 ++ (A.take c ++ (x :: (A.drop c ++ L2)))))
   case atStart => exact ⟨A.length, (m : Int), d, rfl, Lib.hid (by have := HN.out; have := HP.out; omega), by have := HN.out; have := HP.out; omega, S1, Lib.hid (by rw [HD.out]; simp)⟩
   case round =>
    clear S1
    obtain ⟨c, z, dk, rfl, HZ, hkx2, S1, HL⟩ := hrel
    have HT := Lib.hid hkx2
    have HK0 : Hid (dk.size = N ∧ a + c + 1 ≤ N) := Lib.hid (by
     have h1 := Lv.len_of HL.out
     have h2 := HN.out
     have h3 := HZ.out
     simp only [List.length_append, List.length_cons, List.length_take, List.length_drop] at h1
     have h4 := Lv.len_of HD.out
     simp only [List.length_append, List.length_cons, List.length_nil] at h4
     omega)
    clear hkx2
    by_cases hlt : p < c
    ·obtain ⟨q, rfl⟩ : ∃ q, c = q + 1 := ⟨c - 1, by omega⟩
     have HK : Hid (dk.size = N ∧ a + q + 2 ≤ N) := Lib.hid (by have := HK0.out; omega)
     have hlz2 : (i : Int) < z := by have := HP.out; have := HZ.out; omega
     have ea : z.toNat = a + q + 1 := by have := HZ.out; omega
     have eb : (z - 1).toNat = a + q := by have := HZ.out; omega
     have pa : (0 : Int) ≤ z := by have := HZ.out; omega
     have pb : (0 : Int) ≤ z - 1 := by have := HZ.out; omega
     have ba : z < (N : Int) := by have := HZ.out; have := HK.out; omega
     have bb : z - 1 < (N : Int) := by have := HZ.out; have := HK.out; omega
     have rb : IntKind.i64.wrap (z - 1) = z - 1 := by have := HK.out; have := HZ.out; rw [IntKind.wrap_i64]; omega
     have S2 : Aside (SWK enc k w0 blk off (swp dk (a + q + 1) (a + q)) ((wr.drew.setCells blk (off + (a + q + 1) * k) (enc dk[a + q]!)).setCells blk (off + (a + q) * k) (enc dk[a + q + 1]!))) := S1.out.swapped R (a + q + 1) (a + q) (by have := HK.out; omega) (by have := HK.out; omega)
     have la := S1.out.ld1 R (by have := HK.out; have := HN.out; omega) P (a + q + 1) (by have := HK.out; omega)
     have lb := S1.out.ld1 R (by have := HK.out; have := HN.out; omega) P (a + q) (by have := HK.out; omega)
     have sa := S1.out.st1 R (by have := HK.out; have := HN.out; omega) P (a + q + 1) (by have := HK.out; omega) dk[a + q]!
     have sb := S1.out.st2 R (by have := HK.out; have := HN.out; omega) P (a + q + 1) (a + q) (by have := HK.out; omega) (by have := HK.out; omega) dk[a + q]! dk[a + q + 1]!
     have na : (enc dk[a + q + 1]!).length = k := R.hk _
     have nb : (enc dk[a + q]!).length = k := R.hk _
     generalize enc dk[a + q + 1]! = cI at S2 la sb na
     generalize enc dk[a + q]! = cJ at S2 lb sa sb nb
     clear S1
     go_wp2_with fail
     go_big_region_o
     clear la lb sa sb
     generalize (wr.drew.setCells blk (off + (a + q + 1) * k) cJ).setCells blk (off + (a + q) * k) cI = w2 at S2 ⊢
     go_wp2
     go_roundg (q - p)
     case measure => have := HT.out; omega
     case rel =>
      refine ⟨q, z - 1, _, rfl, Lib.hid (by have := HZ.out; omega), Nat.le_refl _, S2, Lib.hid ?_⟩
      have hqA : q < A.length := by have := HZ.out; omega
      have hw := (Lv.swp_list dk (L1 ++ A.take q) [] (A.drop (q + 1) ++ L2) A[q] x (by rw [HL.out, List.take_add_one, List.getElem?_eq_getElem hqA]; simp only [Option.toList_some, List.append_assoc, List.nil_append, List.cons_append])).2
      rw [show (L1 ++ A.take q).length = a + q by rw [List.length_append, List.length_take]; have := HN.out; omega] at hw
      simp only [List.length_nil, Nat.zero_add, List.nil_append] at hw
      rw [hw, List.drop_eq_getElem_cons hqA]
      simp only [List.append_assoc, List.cons_append]
    ·have hlz2 : ¬ (i : Int) < z := by have := HP.out; have := HZ.out; omega
     go_wp2
     (try simp only [Exit.inBlock, Exit.then])
     refine bodyPost_ret (results_none rfl _ _ _) rfl ?_
     refine ⟨rfl, dk, ?_, S1.out⟩
     obtain rfl : c = p := by have := HZ.out; omega
     rw [HL.out]
     have hmg := Lv.mg_last (lt := ltOf cf) x (A.take c) (A.drop c) (Lv.take_all fun q h1 h2 => H1.out q h1 h2) (Lv.drop_all fun q h1 h2 => H2.out q h1 h2)
     rw [List.take_append_drop] at hmg
     rw [hmg]
     simp only [List.append_assoc, List.cons_append]
end
end Go.Proofs.Ytodeodndjkkkbaa
