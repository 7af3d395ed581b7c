import Derived.Test.YtodeodndjkkkbaaTAD
import Derived.Deep.CutBlock
namespace Go.Proofs.Ytodeodndjkkkbaa
section
open Go Go.RowKit Go.Sort Go.Lib Go.Shelf
theorem Lv.parts {α : Type} [Inhabited α] {lt : α → α → Bool} (hO : SWO lt) {A B L1 L2 : List α} {d : Array α} (hd : d.toList = L1 ++ (A ++ (B ++ L2))) (sA : Lv.Sd lt A) (sB : Lv.Sd lt B) {a m b mid s e : Nat} (ha : a = L1.length) (hm : m = a + A.length) (hb : b = m + B.length) (hs : a ≤ s ∧ s ≤ m ∧ s ≤ mid) (he : e + s = mid + m) (heb : e ≤ b)
 (h1 : s = a ∨ e = b ∨ lt d[e]! d[s - 1]! = false) (h2 : s = m ∨ s = mid ∨ lt d[e - 1]! d[s]! = true) :
 Lv.mg lt A B = Lv.mg lt (A.take (s - a)) (B.take (e - m)) ++ Lv.mg lt (A.drop (s - a)) (B.drop (e - m)) := by
 have gA : ∀ t, t < A.length → d[a + t]! = A[t]! := fun t ht => by rw [ha]; exact Lv.getI (T := B ++ L2) hd ht
 have gB : ∀ t, t < B.length → d[m + t]! = B[t]! := fun t ht => by
  have := Lv.getI (d := d) (L := L1 ++ A) (A := B) (T := L2) (by rw [hd]; simp) ht
  rwa [List.length_append, ← ha, ← hm] at this
 have hsp := Lv.mg_split lt _ (A.take (s - a)) (A.drop (s - a)) (B.take (e - m)) (B.drop (e - m)) rfl ?_ ?_
 ·rw [List.take_append_drop, List.take_append_drop] at hsp
  exact hsp
 ·rcases h1 with h1 | h1 | h1
  ·intro x hx
   rw [h1, Nat.sub_self, List.take_zero] at hx
   cases hx
  ·intro x _ y hy
   rw [h1, List.drop_of_length_le (by omega)] at hy
   cases hy
  ·by_cases hsa : s = a
   ·intro x hx
    rw [hsa, Nat.sub_self, List.take_zero] at hx
    cases hx
   ·by_cases hee : e = b
    ·intro x _ y hy
     rw [hee, List.drop_of_length_le (by omega)] at hy
     cases hy
    ·have e1 : d[e]! = B[e - m]! := by have := gB (e - m) (by omega); rwa [show m + (e - m) = e by omega] at this
     have e2 : d[s - 1]! = A[s - 1 - a]! := by have := gA (s - 1 - a) (by omega); rwa [show a + (s - 1 - a) = s - 1 by omega] at this
     rw [e1, e2] at h1
     refine Lv.take_all fun t ht1 ht2 => ?_
     exact Lv.drop_all fun u hu1 hu2 => Lv.up hO sB (Lv.down' hO sA (by omega) h1 (by omega)) hu1 hu2
 ·rcases h2 with h2 | h2 | h2
  ·intro y _ x hx
   rw [h2, List.drop_of_length_le (by omega)] at hx
   cases hx
  ·intro y hy
   rw [show e - m = 0 by omega, List.take_zero] at hy
   cases hy
  ·by_cases hsm : s = m
   ·intro y _ x hx
    rw [hsm, List.drop_of_length_le (by omega)] at hx
    cases hx
   ·by_cases hsi : s = mid
    ·intro y hy
     rw [show e - m = 0 by omega, List.take_zero] at hy
     cases hy
    ·have e1 : d[e - 1]! = B[e - 1 - m]! := by have := gB (e - 1 - m) (by omega); rwa [show m + (e - 1 - m) = e - 1 by omega] at this
     have e2 : d[s]! = A[s - a]! := by have := gA (s - a) (by omega); rwa [show a + (s - a) = s by omega] at this
     rw [e1, e2] at h2
     refine Lv.take_all fun t ht1 ht2 => ?_
     exact Lv.drop_all fun u hu1 hu2 => Lv.up' hO sA (Lv.down hO sB (by omega) h2 (by omega)) hu1 hu2
set_option maxHeartbeats 8000000 in
set_option maxRecDepth 1000000 in
theorem Lv.sym_3 {P : Program} {k : Nat} (L : Lv.L P k) {α : Type} [Inhabited α] (enc : α → List Value) (g : Nat) (cb : Array Value) (cf : α → α → Int) (hO : SWO (ltOf cf)) (eg : ∀ args w, (callFunc g args).run P w = .ok (.enter g args) w) (blk off cap : Nat) (d0 : Array α) (w0 : World) (R : RowK enc k w0 blk off d0) (N : Nat) (hN : d0.size = N) (hC : CmpLays P g cb enc k cf blk off N w0) (hsz : N < 1152921504606846976) (n : Nat) (IH : ∀ (A B L1 L2 : List α) (d : Array α) (w : World), A.length + B.length < n → d.size = N → SWK enc k w0 blk off d w → d.toList = L1 ++ (A ++ (B ++ L2)) → 0 < A.length → 0 < B.length → Lv.Sd (ltOf cf) A → Lv.Sd (ltOf cf) B → ∀ zA zB zC : Int, zA = L1.length → zB = (L1.length + A.length : Nat) → zC = (L1.length + A.length + B.length : Nat) →
 Calls P 78 #[.slice (some ⟨blk, off, none⟩) N cap, .int .i64 zA, .int .i64 zB, .int .i64 zC, .func (.func g) #[] cb] w fun e w' => e = .returned (.tuple #[]) ∧ ∃ d' : Array α, d'.toList = L1 ++ (Lv.mg (ltOf cf) A B ++ L2) ∧ SWK enc k w0 blk off d' w') (d : Array α) (hds : d.size = N) (w : World) (S : SWK enc k w0 blk off d w) (A B L1 L2 : List α) (hn : A.length + B.length = n) (hd : d.toList = L1 ++ (A ++ (B ++ L2))) (hA : 1 < A.length) (hB : 1 < B.length) (sA : Lv.Sd (ltOf cf) A) (sB : Lv.Sd (ltOf cf) B) (a m b : Nat) (ha : a = L1.length) (hm : m = a + A.length) (hb : b = m + B.length) :
 Calls P 78 #[.slice (some ⟨blk, off, none⟩) N cap, .int .i64 a, .int .i64 m, .int .i64 b, .func (.func g) #[] cb] w fun e w' => e = .returned (.tuple #[]) ∧ ∃ d' : Array α, d'.toList = L1 ++ (Lv.mg (ltOf cf) A B ++ L2) ∧ SWK enc k w0 blk off d' w' := by
 have hlen := Lv.len_of hd
 simp only [List.length_append] at hlen
 obtain ⟨mid, hmid⟩ : ∃ mid, mid = (a + b) / 2 := ⟨_, rfl⟩
 have HN : Hid (d.size = N ∧ d0.size = N ∧ a = L1.length ∧ m = a + A.length ∧ b = m + B.length ∧ b ≤ N ∧ 1 < A.length ∧ 1 < B.length ∧ (2 * mid = a + b ∨ 2 * mid + 1 = a + b) ∧ A.length + B.length = n) := Lib.hid ⟨hds, hN, ha, hm, hb, by omega, hA, hB, by omega, hn⟩
 have HIH := Lib.hid IH
 have HC : Aside _ := hC
 have S0 : Aside (SWK enc k w0 blk off d w) := S
 have HD := Lib.hid hd
 have mixed := L.mixed; have t0 := L.t0; have a0 := L.a0; have z0 := L.z0; have v0 := L.v0; have t3 := L.t3; have a3 := L.a3; have z3 := L.z3; have v3 := L.v3; have t4 := L.t4; have a4 := L.a4; have z4 := L.z4; have v4 := L.v4; have tU := L.tU; have aU := L.aU; have zU := L.zU; have vU := L.vU; have tS := L.tS; have aS := L.aS; have zS := L.zS; have vS := L.vS; have tF := L.tF; have aF := L.aF; have zF := L.zF; have vF := L.vF; have aE := L.aP; have zE := L.zP; have eA := L.eA; have eB := L.eB; have eC := L.eC
 have FG := L.fC
 obtain ⟨nA, hnA⟩ : ∃ n : Nat, n = A.length := ⟨_, rfl⟩
 obtain ⟨nB, hnB⟩ : ∃ n : Nat, n = B.length := ⟨_, rfl⟩
 obtain ⟨n9, hn9⟩ : ∃ n : Nat, n = mid + m := ⟨_, rfl⟩
 have HN9 := Lib.hid hn9
 have q1 : IntKind.i64.wrap ((m : Int) - (a : Int)) = (nA : Int) := by rw [IntKind.wrap_i64]; omega
 have q2 : IntKind.i64.wrap ((b : Int) - (m : Int)) = (nB : Int) := by rw [IntKind.wrap_i64]; omega
 have q3 : ((nA : Int) == 1) = false := beq_eq_false_iff_ne.2 (by omega)
 have q4 : ((nB : Int) == 1) = false := beq_eq_false_iff_ne.2 (by omega)
 have q5 : ¬ (nA : Int) = 1 := by omega
 have q6 : ¬ (nB : Int) = 1 := by omega
 have q7 : IntKind.i64.wrap ((mid : Int) + (m : Int)) = (n9 : Int) := by rw [IntKind.wrap_i64]; omega
 obtain ⟨p9, hp9⟩ : ∃ p : Nat, p = n9 - 1 := ⟨_, rfl⟩
 have HP9 := Lib.hid hp9
 have q8 : IntKind.i64.wrap ((n9 : Int) - 1) = (p9 : Int) := by rw [IntKind.wrap_i64]; omega
 have q9 : IntKind.i64.wrap ((n9 : Int) - (b : Int)) = (n9 : Int) - (b : Int) := by rw [IntKind.wrap_i64]; omega
 have w3 : IntKind.u64.wrap ((a : Int) + (b : Int)) = (a : Int) + (b : Int) := by rw [IntKind.wrap_u64]; omega
 have w2 : wrap64 ((a : Int) + (b : Int)) = (a : Int) + (b : Int) := IntWalk.wrap64_in _ (by clear w3; omega)
 have w4 : wrap64 (((a : Int) + (b : Int)) / 2) = (mid : Int) := by rw [IntWalk.wrap64_in _ (by clear w2 w3; omega)]; clear w2 w3; omega
 clear S hd hlen ha hm hb hC hds hN hA hB hmid hnA hnB hn9 hp9 hn IH
 go_enter FG, Try.ntmps78
 go_upto_if 140 with fail
 rw [w4]
 clear w2 w3 w4
 go_cut [20, 21] from 22 (fun s20 s21 wx => wx = w ∧ ∃ s0 r0 : Nat, s20 = .int .i64 (s0 : Int) ∧ s21 = .int .i64 (r0 : Int) ∧ Hid ((mid < m ∧ s0 + b = n9 ∧ r0 = mid) ∨ (¬ mid < m ∧ s0 = a ∧ r0 = m)))
 case first =>
  by_cases hgt : mid < m
  ·have hgz : (mid : Int) < (m : Int) := by omega
   go_wp2_with fail
   go_meet
   case rel =>
    have h1 := HN.out
    have h2 := HN9.out
    refine ⟨rfl, n9 - b, mid, ?_, rfl, Lib.hid (.inl ⟨hgt, by omega, rfl⟩)⟩
    rw [show ((n9 - b : Nat) : Int) = (n9 : Int) - (b : Int) by omega]
  ·have hgz : ¬ (mid : Int) < (m : Int) := by omega
   go_wp2_with fail
   go_meet
   case rel => exact ⟨rfl, a, m, rfl, rfl, Lib.hid (.inr ⟨hgt, rfl, rfl⟩)⟩
 case rest =>
  obtain ⟨rfl, s0, r0, e20, e21, HSR⟩ := hcut
  subst e20 e21
  have hsr : a ≤ s0 ∧ s0 ≤ r0 ∧ r0 ≤ m ∧ r0 ≤ mid := by have h1 := HN.out; have h2 := HN9.out; have h3 := HSR.out; omega
  have HS9 := Lib.hid hsr
  have hsr2 := hsr.2.1
  clear hsr
  go_wp2_with fail
  go_loopg [20, 21] (r0 - s0) (fun kx s20 s21 wr => ∃ i j : Nat, s20 = .int .i64 i ∧ s21 = .int .i64 j ∧ s0 ≤ i ∧ i ≤ j ∧ j ≤ r0 ∧ j - i ≤ kx ∧ Aside (SWK enc k w0 blk off d wr) ∧ Hid (i = s0 ∨ ltOf cf d[n9 - i]! d[i - 1]! = false) ∧ Hid (j = r0 ∨ ltOf cf d[p9 - j]! d[j]! = true))
  case atStart => exact ⟨s0, r0, rfl, rfl, Nat.le_refl _, hsr2, Nat.le_refl _, Nat.le_refl _, S0, Lib.hid (.inl rfl), Lib.hid (.inl rfl)⟩
  case round =>
   clear S0 hsr2 q1 q2 q3 q4 q5 q6 q7 q8 q9
   obtain ⟨i, j, rfl, rfl, hmi, hij, hjb, hkx, S1, H1, H2⟩ := hrel
   have HIJ : Hid (s0 ≤ i ∧ i ≤ j ∧ j ≤ r0 ∧ r0 ≤ m ∧ r0 ≤ mid ∧ a ≤ s0 ∧ p9 + 1 = n9 ∧ n9 = mid + m ∧ n9 ≤ s0 + b) := Lib.hid (by have h1 := HN.out; have h2 := HN9.out; have h3 := HS9.out; have h4 := HP9.out; have h5 := HSR.out; omega)
   have HKX := Lib.hid hkx
   clear hmi hij hjb hkx
   by_cases hlt : i < j
   ·have hlz : (i : Int) < (j : Int) := by omega
    obtain ⟨h, hh⟩ : ∃ h, h = (i + j) / 2 := ⟨_, rfl⟩
    have hij9 : i ≤ h ∧ h < j := by omega
    have hN9 : h < N := by have h1 := HN.out; have h2 := HIJ.out; omega
    have h0i : (0 : Int) ≤ (h : Int) := by omega
    have hNi : (h : Int) < (N : Int) := by omega
    have w2 : wrap64 ((i : Int) + (j : Int)) = (i : Int) + (j : Int) := IntWalk.wrap64_in _ (by have h1 := HN.out; have h2 := HIJ.out; omega)
    have w3 : IntKind.u64.wrap ((i : Int) + (j : Int)) = (i : Int) + (j : Int) := by have h1 := HN.out; have h2 := HIJ.out; rw [IntKind.wrap_u64]; clear w2; omega
    have w4 : wrap64 (((i : Int) + (j : Int)) / 2) = (h : Int) := by rw [IntWalk.wrap64_in _ (by clear w2 w3; have h1 := HN.out; have h2 := HIJ.out; omega)]; clear w2 w3; omega
    have W2 := Lib.hid w2
    have W3 := Lib.hid w3
    have W4 := Lib.hid w4
    clear w2 w3 w4
    have w5 : IntKind.i64.wrap ((h : Int) + 1) = (h : Int) + 1 := by have h1 := HN.out; have h2 := HIJ.out; rw [IntKind.wrap_i64]; omega
    have W5 := Lib.hid w5
    clear w5
    have HH : Hid (h = (i + j) / 2 ∧ i ≤ h ∧ h < j ∧ h < N) := Lib.hid ⟨hh, hij9.1, hij9.2, hN9⟩
    clear hh hij9 hN9
    obtain ⟨y9, hy9⟩ : ∃ y, y = p9 - h := ⟨_, rfl⟩
    have bx : (y9 : Int) < (N : Int) := by have h1 := HN.out; have h2 := HIJ.out; have h3 := HH.out; omega
    have wx : IntKind.i64.wrap ((p9 : Int) - (h : Int)) = (y9 : Int) := by have h1 := HN.out; have h2 := HIJ.out; have h3 := HH.out; rw [IntKind.wrap_i64]; omega
    have HY9 := Lib.hid hy9
    have hyN : y9 < N := by omega
    clear hy9
    obtain ⟨x1, hx1⟩ : ∃ x, x = d[y9]! := ⟨_, rfl⟩
    obtain ⟨y1, hy1⟩ : ∃ x, x = d[h]! := ⟨_, rfl⟩
    have l1a := S1.out.ld R (by have := HN.out; omega) P y9 (by have h1 := HN.out; omega)
    have l1b := S1.out.ld R (by have := HN.out; omega) P h (by have h1 := HN.out; have h3 := HH.out; omega)
    rw [← hx1] at l1a
    rw [← hy1] at l1b
    have hc1 := S1.out.cmp HC.out (by have := HN.out; omega) x1 y1
    have HX1 := Lib.hid (And.intro hx1 hy1)
    clear hx1 hy1
    cases hL : ltOf cf x1 y1 with
    | true =>
      have hv1 : cf x1 y1 < 0 := of_decide_eq_true hL
      have hd1 : decide (cf x1 y1 < 0) = true := hL
      have HL9 := Lib.hid hL
      clear hL
      have w2 := W2.out
      have w3 := W3.out
      have w4 := W4.out
      have w5 := W5.out
      go_wp2_with fail
      clear w2 w3
      go_quiet_grown (first | (go_at_fn g; refine Calls.grown_of (hc1 _ _)))
      have S2 : Aside (SWK enc k w0 blk off d (grow (wr.drewN nq) osq)) := S1.out.grown nq osq
      clear l1a l1b hc1 S1
      generalize grow (wr.drewN nq) osq = w2 at S2 ⊢
      clear nq osq
      go_wp2
      clear w4 w5
      go_roundg (h - i)
      case measure => have := HKX.out; have := HH.out; omega
      case rel =>
       refine ⟨i, h, rfl, by simp, HIJ.out.1, HH.out.2.1, by have := HH.out; have := HIJ.out; omega, Nat.le_refl _, S2, H1, Lib.hid (.inr ?_)⟩
       have h3 := HL9.out
       rw [HX1.out.1, HX1.out.2, HY9.out] at h3
       exact h3
    | false =>
      have hv1 : ¬ cf x1 y1 < 0 := of_decide_eq_false hL
      have hd1 : decide (cf x1 y1 < 0) = false := hL
      have HL9 := Lib.hid hL
      clear hL
      have w2 := W2.out
      have w3 := W3.out
      have w4 := W4.out
      have w5 := W5.out
      go_wp2_with fail
      clear w2 w3
      go_quiet_grown (first | (go_at_fn g; refine Calls.grown_of (hc1 _ _)))
      have S2 : Aside (SWK enc k w0 blk off d (grow (wr.drewN nq) osq)) := S1.out.grown nq osq
      clear l1a l1b hc1 S1
      generalize grow (wr.drewN nq) osq = w2 at S2 ⊢
      clear nq osq
      go_wp2
      clear w4 w5
      go_roundg (j - (h + 1))
      case measure => have := HKX.out; have := HH.out; omega
      case rel =>
       refine ⟨h + 1, j, by simp, rfl, by have := HH.out; have := HIJ.out; omega, by have := HH.out; omega, HIJ.out.2.2.1, Nat.le_refl _, S2, Lib.hid (.inr ?_), H2⟩
       have h3 := HL9.out
       rw [HX1.out.1, HX1.out.2, HY9.out] at h3
       rw [show n9 - (h + 1) = p9 - h by have := HIJ.out; omega, Nat.add_sub_cancel]
       exact h3
   ·have hlz : ¬ (i : Int) < (j : Int) := by omega
    obtain ⟨s, hs⟩ : ∃ s, s = i := ⟨_, rfl⟩
    obtain rfl : i = j := by have := HIJ.out; omega
    subst hs
    obtain ⟨e, he⟩ : ∃ e, e = n9 - s := ⟨_, rfl⟩
    have HE : Hid (a ≤ s ∧ s ≤ m ∧ s ≤ mid ∧ e + s = mid + m ∧ m ≤ e ∧ e ≤ b ∧ mid ≤ e ∧ mid ≤ b ∧ m ≤ b) := Lib.hid (by have h1 := HN.out; have h2 := HN9.out; have h3 := HSR.out; have h4 := HIJ.out; omega)
    have HPT : Hid (∃ A1 A2 B1 B2 : List α, A = A1 ++ A2 ∧ B = B1 ++ B2 ∧ A1.length = s - a ∧ A2.length = m - s ∧ B1.length = mid - s ∧ B2.length = b - e ∧ Lv.Sd (ltOf cf) A1 ∧ Lv.Sd (ltOf cf) B1 ∧ Lv.Sd (ltOf cf) A2 ∧ Lv.Sd (ltOf cf) B2 ∧ Lv.mg (ltOf cf) A B = Lv.mg (ltOf cf) A1 B1 ++ Lv.mg (ltOf cf) A2 B2) := Lib.hid (by
     have h1 := HN.out
     have h2 := HE.out
     have h3 := HSR.out
     have h4 := HIJ.out
     refine ⟨A.take (s - a), A.drop (s - a), B.take (e - m), B.drop (e - m), (List.take_append_drop _ _).symm, (List.take_append_drop _ _).symm, by rw [List.length_take]; omega, by rw [List.length_drop]; omega, by rw [List.length_take]; omega, by rw [List.length_drop]; omega, List.Pairwise.sublist (List.take_sublist _ _) sA, List.Pairwise.sublist (List.take_sublist _ _) sB, List.Pairwise.sublist (List.drop_sublist _ _) sA, List.Pairwise.sublist (List.drop_sublist _ _) sB, ?_⟩
     refine Lv.parts hO HD.out sA sB h1.2.2.1 h1.2.2.2.1 h1.2.2.2.2.1 ⟨h2.1, h2.2.1, h2.2.2.1⟩ h2.2.2.2.1 h2.2.2.2.2.2.1 ?_ ?_
     ·rcases H1.out with h5 | h5
      ·rcases h3 with h3 | h3
       ·exact .inr (.inl (by omega))
       ·exact .inl (by omega)
      ·exact .inr (.inr (by rw [he]; exact h5))
     ·rcases H2.out with h5 | h5
      ·rcases h3 with h3 | h3
       ·exact .inr (.inl (by omega))
       ·exact .inl (by omega)
      ·exact .inr (.inr (by rw [show e - 1 = p9 - s by omega]; exact h5)))
    obtain ⟨A1, A2, B1, B2, hpt⟩ := HPT.out
    clear HPT
    have HPT := Lib.hid hpt
    have q1 : IntKind.i64.wrap ((n9 : Int) - (s : Int)) = (e : Int) := by have h1 := HN.out; have h2 := HN9.out; have h3 := HE.out; rw [IntKind.wrap_i64]; omega
    have S3 := S1
    have HL3 := trivial
    clear hlt hpt H1 H2 S1 he
    go_upto_region 39 with fail
    go_cut [185] from 178 (fun c wx => wx = wr ∧ c = .bool (decide (s < m ∧ m < e)))
    case first =>
     by_cases h1 : s < m
     ·have h1z : (s : Int) < (m : Int) := by omega
      by_cases h2 : m < e
      ·have h2z : (m : Int) < (e : Int) := by omega
       have hd9 := decide_eq_true (And.intro h1 h2)
       go_wp2_with fail
       go_meet
       case rel => exact ⟨rfl, by rw [hd9]⟩
      ·have h2z : ¬ (m : Int) < (e : Int) := by omega
       have hd9 : decide (s < m ∧ m < e) = false := decide_eq_false fun h => h2 h.2
       go_wp2_with fail
       go_meet
       case rel => exact ⟨rfl, by rw [hd9]⟩
     ·have h1z : ¬ (s : Int) < (m : Int) := by omega
      have hd9 : decide (s < m ∧ m < e) = false := decide_eq_false fun h => h1 h.1
      go_wp2_with fail
      go_meet
      case rel => exact ⟨rfl, by rw [hd9]⟩
    case rest =>
     obtain ⟨ew, e99⟩ := hcut
     have ew := ew.symm
     subst ew e99
     by_cases hb9 : s < m ∧ m < e
     ·rw [decide_eq_true hb9]
      have CC : Hid (Calls P 91 #[.slice (some ⟨blk, off, none⟩) N cap, .int .i64 (s : Int), .int .i64 (m : Int), .int .i64 (e : Int), .func (.func g) #[] cb] wr fun e9 w' => e9 = .returned (.tuple #[]) ∧ ∃ d' : Array α, d'.toList = L1 ++ (A1 ++ (B1 ++ (A2 ++ (B2 ++ L2)))) ∧ SWK enc k w0 blk off d' w') := Lib.hid (by
       have h1 := HN.out
       have h2 := HE.out
       have h3 := HPT.out
       refine (Lv.rotate_c L enc (.func (.func g) #[] cb) blk off cap d0 d w0 wr R (by omega) S3.out (L1 ++ A1) A2 B1 (B2 ++ L2) (by rw [HD.out, h3.1, h3.2.1]; simp only [List.append_assoc]) (by omega) (by omega) N (by omega) hsz _ _ _ (by rw [List.length_append]; omega) (by rw [List.length_append]; omega) (by rw [List.length_append]; omega)).mono ?_
       rintro e9 w' ⟨rfl, d', hd', hS⟩
       exact ⟨rfl, d', by rw [hd']; simp only [List.append_assoc], hS⟩)
      clear HL3
      have HL3 := trivial
      go_wp2_with fail
      refine CC.out.mono ?_
      rintro e9 w3 ⟨rfl, dn, hdn, hsn⟩
      have S4 : Aside (SWK enc k w0 blk off dn w3) := hsn
      have HL4 := Lib.hid hdn
      clear hsn hdn CC HL3 S3
      generalize w3 = wr at *
      have S3 := S4
      clear S4
      go_upto_region 41 with fail
      go_cut [199] from 192 (fun c wx => wx = wr ∧ c = .bool (decide (a < s ∧ s < mid)))
      case first =>
       by_cases h1 : a < s
       ·have h1z : (a : Int) < (s : Int) := by omega
        by_cases h2 : s < mid
        ·have h2z : (s : Int) < (mid : Int) := by omega
         have hd9 := decide_eq_true (And.intro h1 h2)
         go_wp2_with fail
         go_meet
         case rel => exact ⟨rfl, by rw [hd9]⟩
        ·have h2z : ¬ (s : Int) < (mid : Int) := by omega
         have hd9 : decide (a < s ∧ s < mid) = false := decide_eq_false fun h => h2 h.2
         go_wp2_with fail
         go_meet
         case rel => exact ⟨rfl, by rw [hd9]⟩
       ·have h1z : ¬ (a : Int) < (s : Int) := by omega
        have hd9 : decide (a < s ∧ s < mid) = false := decide_eq_false fun h => h1 h.1
        go_wp2_with fail
        go_meet
        case rel => exact ⟨rfl, by rw [hd9]⟩
      case rest =>
       obtain ⟨ew, e99⟩ := hcut
       have ew := ew.symm
       subst ew e99
       by_cases hb9 : a < s ∧ s < mid
       ·rw [decide_eq_true hb9]
        have CC : Hid (Calls P 78 #[.slice (some ⟨blk, off, none⟩) N cap, .int .i64 (a : Int), .int .i64 (s : Int), .int .i64 (mid : Int), .func (.func g) #[] cb] wr fun e9 w' => e9 = .returned (.tuple #[]) ∧ ∃ d' : Array α, d'.toList = L1 ++ (Lv.mg (ltOf cf) A1 B1 ++ (A2 ++ (B2 ++ L2))) ∧ SWK enc k w0 blk off d' w') := Lib.hid (by
         have h1 := HN.out
         have h2 := HE.out
         have h3 := HPT.out
         have h4 := Lv.len_of HL4.out
         simp only [List.length_append] at h4
         have h5 := Lv.len_of HD.out
         rw [h3.1, h3.2.1] at h5
         simp only [List.length_append] at h5
         have h6 : A.length = A1.length + A2.length := by rw [h3.1, List.length_append]
         have h7 : B.length = B1.length + B2.length := by rw [h3.2.1, List.length_append]
         exact HIH.out A1 B1 L1 (A2 ++ (B2 ++ L2)) dn wr (by omega) (by omega) S3.out HL4.out (by omega) (by omega) h3.2.2.2.2.2.2.1 h3.2.2.2.2.2.2.2.1 _ _ _ (by omega) (by omega) (by omega))
        have HL3 := HL4
        clear HL4
        go_wp2_with fail
        refine CC.out.mono ?_
        rintro e9 w3 ⟨rfl, dn, hdn, hsn⟩
        have S4 : Aside (SWK enc k w0 blk off dn w3) := hsn
        have HL4 := Lib.hid hdn
        clear hsn hdn CC HL3 S3
        generalize w3 = wr at *
        have S3 := S4
        clear S4
        go_upto_region 43 with fail
        go_cut [213] from 206 (fun c wx => wx = wr ∧ c = .bool (decide (mid < e ∧ e < b)))
        case first =>
         by_cases h1 : mid < e
         ·have h1z : (mid : Int) < (e : Int) := by omega
          by_cases h2 : e < b
          ·have h2z : (e : Int) < (b : Int) := by omega
           have hd9 := decide_eq_true (And.intro h1 h2)
           go_wp2_with fail
           go_meet
           case rel => exact ⟨rfl, by rw [hd9]⟩
          ·have h2z : ¬ (e : Int) < (b : Int) := by omega
           have hd9 : decide (mid < e ∧ e < b) = false := decide_eq_false fun h => h2 h.2
           go_wp2_with fail
           go_meet
           case rel => exact ⟨rfl, by rw [hd9]⟩
         ·have h1z : ¬ (mid : Int) < (e : Int) := by omega
          have hd9 : decide (mid < e ∧ e < b) = false := decide_eq_false fun h => h1 h.1
          go_wp2_with fail
          go_meet
          case rel => exact ⟨rfl, by rw [hd9]⟩
        case rest =>
         obtain ⟨ew, e99⟩ := hcut
         have ew := ew.symm
         subst ew e99
         by_cases hb9 : mid < e ∧ e < b
         ·rw [decide_eq_true hb9]
          have CC : Hid (Calls P 78 #[.slice (some ⟨blk, off, none⟩) N cap, .int .i64 (mid : Int), .int .i64 (e : Int), .int .i64 (b : Int), .func (.func g) #[] cb] wr fun e9 w' => e9 = .returned (.tuple #[]) ∧ ∃ d' : Array α, d'.toList = L1 ++ (Lv.mg (ltOf cf) A B ++ L2) ∧ SWK enc k w0 blk off d' w') := Lib.hid (by
           have h1 := HN.out
           have h2 := HE.out
           have h3 := HPT.out
           have hml : (Lv.mg (ltOf cf) A1 B1).length = A1.length + B1.length := Lv.mg_len _ _ _ _ rfl
           have h4 := Lv.len_of HL4.out
           simp only [List.length_append, hml] at h4
           have h5 := Lv.len_of HD.out
           rw [h3.1, h3.2.1] at h5
           simp only [List.length_append] at h5
           have h6 : A.length = A1.length + A2.length := by rw [h3.1, List.length_append]
           have h7 : B.length = B1.length + B2.length := by rw [h3.2.1, List.length_append]
           refine (HIH.out A2 B2 (L1 ++ Lv.mg (ltOf cf) A1 B1) L2 dn wr (by omega) (by omega) S3.out (by rw [HL4.out]; simp only [List.append_assoc]) (by omega) (by omega) h3.2.2.2.2.2.2.2.2.1 h3.2.2.2.2.2.2.2.2.2.1 _ _ _ (by rw [List.length_append, hml]; omega) (by rw [List.length_append, hml]; omega) (by rw [List.length_append, hml]; omega)).mono ?_
           rintro e9 w' ⟨rfl, d', hd', hS⟩
           exact ⟨rfl, d', by rw [hd', h3.2.2.2.2.2.2.2.2.2.2]; simp only [List.append_assoc], hS⟩)
          have HL3 := HL4
          clear HL4
          go_wp2_with fail
          refine CC.out.mono ?_
          rintro e9 w3 ⟨rfl, dn, hdn, hsn⟩
          have S4 : Aside (SWK enc k w0 blk off dn w3) := hsn
          have HL4 := Lib.hid hdn
          clear hsn hdn CC HL3 S3
          generalize w3 = wr at *
          have S3 := S4
          clear S4
          go_wp2
          go_end0
          exact ⟨rfl, dn, HL4.out, S3.out⟩
         ·rw [decide_eq_false hb9]
          have HL5 : Hid (dn.toList = L1 ++ (Lv.mg (ltOf cf) A B ++ L2)) := Lib.hid (by
           have h1 := HN.out
           have h2 := HE.out
           have h3 := HPT.out
           rw [HL4.out, h3.2.2.2.2.2.2.2.2.2.2]
           rcases (by omega : A2.length = 0 ∨ B2.length = 0) with h | h
           ·rw [List.length_eq_zero_iff.1 h, Lv.mg_nil]; simp only [List.append_assoc, List.nil_append]
           ·rw [List.length_eq_zero_iff.1 h, Lv.mg_nil']; simp only [List.append_assoc, List.nil_append])
          clear HL4
          have HL4 := HL5
          clear HL5
          go_wp2
          go_end0
          exact ⟨rfl, dn, HL4.out, S3.out⟩
       ·rw [decide_eq_false hb9]
        have HL5 : Hid (dn.toList = L1 ++ (Lv.mg (ltOf cf) A1 B1 ++ (A2 ++ (B2 ++ L2)))) := Lib.hid (by
         have h1 := HN.out
         have h2 := HE.out
         have h3 := HPT.out
         rw [HL4.out]
         rcases (by omega : A1.length = 0 ∨ B1.length = 0) with h | h
         ·rw [List.length_eq_zero_iff.1 h, Lv.mg_nil]; simp only [List.nil_append]
         ·rw [List.length_eq_zero_iff.1 h, Lv.mg_nil']; simp only [List.nil_append])
        clear HL4
        have HL4 := HL5
        clear HL5
        go_upto_region 43 with fail
        go_cut [213] from 206 (fun c wx => wx = wr ∧ c = .bool (decide (mid < e ∧ e < b)))
        case first =>
         by_cases h1 : mid < e
         ·have h1z : (mid : Int) < (e : Int) := by omega
          by_cases h2 : e < b
          ·have h2z : (e : Int) < (b : Int) := by omega
           have hd9 := decide_eq_true (And.intro h1 h2)
           go_wp2_with fail
           go_meet
           case rel => exact ⟨rfl, by rw [hd9]⟩
          ·have h2z : ¬ (e : Int) < (b : Int) := by omega
           have hd9 : decide (mid < e ∧ e < b) = false := decide_eq_false fun h => h2 h.2
           go_wp2_with fail
           go_meet
           case rel => exact ⟨rfl, by rw [hd9]⟩
         ·have h1z : ¬ (mid : Int) < (e : Int) := by omega
          have hd9 : decide (mid < e ∧ e < b) = false := decide_eq_false fun h => h1 h.1
          go_wp2_with fail
          go_meet
          case rel => exact ⟨rfl, by rw [hd9]⟩
        case rest =>
         obtain ⟨ew, e99⟩ := hcut
         have ew := ew.symm
         subst ew e99
         by_cases hb9 : mid < e ∧ e < b
         ·rw [decide_eq_true hb9]
          have CC : Hid (Calls P 78 #[.slice (some ⟨blk, off, none⟩) N cap, .int .i64 (mid : Int), .int .i64 (e : Int), .int .i64 (b : Int), .func (.func g) #[] cb] wr fun e9 w' => e9 = .returned (.tuple #[]) ∧ ∃ d' : Array α, d'.toList = L1 ++ (Lv.mg (ltOf cf) A B ++ L2) ∧ SWK enc k w0 blk off d' w') := Lib.hid (by
           have h1 := HN.out
           have h2 := HE.out
           have h3 := HPT.out
           have hml : (Lv.mg (ltOf cf) A1 B1).length = A1.length + B1.length := Lv.mg_len _ _ _ _ rfl
           have h4 := Lv.len_of HL4.out
           simp only [List.length_append, hml] at h4
           have h5 := Lv.len_of HD.out
           rw [h3.1, h3.2.1] at h5
           simp only [List.length_append] at h5
           have h6 : A.length = A1.length + A2.length := by rw [h3.1, List.length_append]
           have h7 : B.length = B1.length + B2.length := by rw [h3.2.1, List.length_append]
           refine (HIH.out A2 B2 (L1 ++ Lv.mg (ltOf cf) A1 B1) L2 dn wr (by omega) (by omega) S3.out (by rw [HL4.out]; simp only [List.append_assoc]) (by omega) (by omega) h3.2.2.2.2.2.2.2.2.1 h3.2.2.2.2.2.2.2.2.2.1 _ _ _ (by rw [List.length_append, hml]; omega) (by rw [List.length_append, hml]; omega) (by rw [List.length_append, hml]; omega)).mono ?_
           rintro e9 w' ⟨rfl, d', hd', hS⟩
           exact ⟨rfl, d', by rw [hd', h3.2.2.2.2.2.2.2.2.2.2]; simp only [List.append_assoc], hS⟩)
          have HL3 := HL4
          clear HL4
          go_wp2_with fail
          refine CC.out.mono ?_
          rintro e9 w3 ⟨rfl, dn, hdn, hsn⟩
          have S4 : Aside (SWK enc k w0 blk off dn w3) := hsn
          have HL4 := Lib.hid hdn
          clear hsn hdn CC HL3 S3
          generalize w3 = wr at *
          have S3 := S4
          clear S4
          go_wp2
          go_end0
          exact ⟨rfl, dn, HL4.out, S3.out⟩
         ·rw [decide_eq_false hb9]
          have HL5 : Hid (dn.toList = L1 ++ (Lv.mg (ltOf cf) A B ++ L2)) := Lib.hid (by
           have h1 := HN.out
           have h2 := HE.out
           have h3 := HPT.out
           rw [HL4.out, h3.2.2.2.2.2.2.2.2.2.2]
           rcases (by omega : A2.length = 0 ∨ B2.length = 0) with h | h
           ·rw [List.length_eq_zero_iff.1 h, Lv.mg_nil]; simp only [List.append_assoc, List.nil_append]
           ·rw [List.length_eq_zero_iff.1 h, Lv.mg_nil']; simp only [List.append_assoc, List.nil_append])
          clear HL4
          have HL4 := HL5
          clear HL5
          go_wp2
          go_end0
          exact ⟨rfl, dn, HL4.out, S3.out⟩
     ·rw [decide_eq_false hb9]
      have HL4 : Hid (d.toList = L1 ++ (A1 ++ (B1 ++ (A2 ++ (B2 ++ L2))))) := Lib.hid (by
       have h1 := HN.out
       have h2 := HE.out
       have h3 := HPT.out
       rw [HD.out, h3.1, h3.2.1]
       rcases (by omega : A2.length = 0 ∨ B1.length = 0) with h | h
       ·rw [List.length_eq_zero_iff.1 h]; simp only [List.append_assoc, List.nil_append, List.append_nil]
       ·rw [List.length_eq_zero_iff.1 h]; simp only [List.append_assoc, List.nil_append])
      clear HL3
      obtain ⟨dn, hdn⟩ : ∃ dn, dn = d := ⟨_, rfl⟩
      rw [← hdn] at HL4 S3
      clear hdn
      go_upto_region 41 with fail
      go_cut [199] from 192 (fun c wx => wx = wr ∧ c = .bool (decide (a < s ∧ s < mid)))
      case first =>
       by_cases h1 : a < s
       ·have h1z : (a : Int) < (s : Int) := by omega
        by_cases h2 : s < mid
        ·have h2z : (s : Int) < (mid : Int) := by omega
         have hd9 := decide_eq_true (And.intro h1 h2)
         go_wp2_with fail
         go_meet
         case rel => exact ⟨rfl, by rw [hd9]⟩
        ·have h2z : ¬ (s : Int) < (mid : Int) := by omega
         have hd9 : decide (a < s ∧ s < mid) = false := decide_eq_false fun h => h2 h.2
         go_wp2_with fail
         go_meet
         case rel => exact ⟨rfl, by rw [hd9]⟩
       ·have h1z : ¬ (a : Int) < (s : Int) := by omega
        have hd9 : decide (a < s ∧ s < mid) = false := decide_eq_false fun h => h1 h.1
        go_wp2_with fail
        go_meet
        case rel => exact ⟨rfl, by rw [hd9]⟩
      case rest =>
       obtain ⟨ew, e99⟩ := hcut
       have ew := ew.symm
       subst ew e99
       by_cases hb9 : a < s ∧ s < mid
       ·rw [decide_eq_true hb9]
        have CC : Hid (Calls P 78 #[.slice (some ⟨blk, off, none⟩) N cap, .int .i64 (a : Int), .int .i64 (s : Int), .int .i64 (mid : Int), .func (.func g) #[] cb] wr fun e9 w' => e9 = .returned (.tuple #[]) ∧ ∃ d' : Array α, d'.toList = L1 ++ (Lv.mg (ltOf cf) A1 B1 ++ (A2 ++ (B2 ++ L2))) ∧ SWK enc k w0 blk off d' w') := Lib.hid (by
         have h1 := HN.out
         have h2 := HE.out
         have h3 := HPT.out
         have h4 := Lv.len_of HL4.out
         simp only [List.length_append] at h4
         have h5 := Lv.len_of HD.out
         rw [h3.1, h3.2.1] at h5
         simp only [List.length_append] at h5
         have h6 : A.length = A1.length + A2.length := by rw [h3.1, List.length_append]
         have h7 : B.length = B1.length + B2.length := by rw [h3.2.1, List.length_append]
         exact HIH.out A1 B1 L1 (A2 ++ (B2 ++ L2)) dn wr (by omega) (by omega) S3.out HL4.out (by omega) (by omega) h3.2.2.2.2.2.2.1 h3.2.2.2.2.2.2.2.1 _ _ _ (by omega) (by omega) (by omega))
        have HL3 := HL4
        clear HL4
        go_wp2_with fail
        refine CC.out.mono ?_
        rintro e9 w3 ⟨rfl, dn, hdn, hsn⟩
        have S4 : Aside (SWK enc k w0 blk off dn w3) := hsn
        have HL4 := Lib.hid hdn
        clear hsn hdn CC HL3 S3
        generalize w3 = wr at *
        have S3 := S4
        clear S4
        go_upto_region 43 with fail
        go_cut [213] from 206 (fun c wx => wx = wr ∧ c = .bool (decide (mid < e ∧ e < b)))
        case first =>
         by_cases h1 : mid < e
         ·have h1z : (mid : Int) < (e : Int) := by omega
          by_cases h2 : e < b
          ·have h2z : (e : Int) < (b : Int) := by omega
           have hd9 := decide_eq_true (And.intro h1 h2)
           go_wp2_with fail
           go_meet
           case rel => exact ⟨rfl, by rw [hd9]⟩
          ·have h2z : ¬ (e : Int) < (b : Int) := by omega
           have hd9 : decide (mid < e ∧ e < b) = false := decide_eq_false fun h => h2 h.2
           go_wp2_with fail
           go_meet
           case rel => exact ⟨rfl, by rw [hd9]⟩
         ·have h1z : ¬ (mid : Int) < (e : Int) := by omega
          have hd9 : decide (mid < e ∧ e < b) = false := decide_eq_false fun h => h1 h.1
          go_wp2_with fail
          go_meet
          case rel => exact ⟨rfl, by rw [hd9]⟩
        case rest =>
         obtain ⟨ew, e99⟩ := hcut
         have ew := ew.symm
         subst ew e99
         by_cases hb9 : mid < e ∧ e < b
         ·rw [decide_eq_true hb9]
          have CC : Hid (Calls P 78 #[.slice (some ⟨blk, off, none⟩) N cap, .int .i64 (mid : Int), .int .i64 (e : Int), .int .i64 (b : Int), .func (.func g) #[] cb] wr fun e9 w' => e9 = .returned (.tuple #[]) ∧ ∃ d' : Array α, d'.toList = L1 ++ (Lv.mg (ltOf cf) A B ++ L2) ∧ SWK enc k w0 blk off d' w') := Lib.hid (by
           have h1 := HN.out
           have h2 := HE.out
           have h3 := HPT.out
           have hml : (Lv.mg (ltOf cf) A1 B1).length = A1.length + B1.length := Lv.mg_len _ _ _ _ rfl
           have h4 := Lv.len_of HL4.out
           simp only [List.length_append, hml] at h4
           have h5 := Lv.len_of HD.out
           rw [h3.1, h3.2.1] at h5
           simp only [List.length_append] at h5
           have h6 : A.length = A1.length + A2.length := by rw [h3.1, List.length_append]
           have h7 : B.length = B1.length + B2.length := by rw [h3.2.1, List.length_append]
           refine (HIH.out A2 B2 (L1 ++ Lv.mg (ltOf cf) A1 B1) L2 dn wr (by omega) (by omega) S3.out (by rw [HL4.out]; simp only [List.append_assoc]) (by omega) (by omega) h3.2.2.2.2.2.2.2.2.1 h3.2.2.2.2.2.2.2.2.2.1 _ _ _ (by rw [List.length_append, hml]; omega) (by rw [List.length_append, hml]; omega) (by rw [List.length_append, hml]; omega)).mono ?_
           rintro e9 w' ⟨rfl, d', hd', hS⟩
           exact ⟨rfl, d', by rw [hd', h3.2.2.2.2.2.2.2.2.2.2]; simp only [List.append_assoc], hS⟩)
          have HL3 := HL4
          clear HL4
          go_wp2_with fail
          refine CC.out.mono ?_
          rintro e9 w3 ⟨rfl, dn, hdn, hsn⟩
          have S4 : Aside (SWK enc k w0 blk off dn w3) := hsn
          have HL4 := Lib.hid hdn
          clear hsn hdn CC HL3 S3
          generalize w3 = wr at *
          have S3 := S4
          clear S4
          go_wp2
          go_end0
          exact ⟨rfl, dn, HL4.out, S3.out⟩
         ·rw [decide_eq_false hb9]
          have HL5 : Hid (dn.toList = L1 ++ (Lv.mg (ltOf cf) A B ++ L2)) := Lib.hid (by
           have h1 := HN.out
           have h2 := HE.out
           have h3 := HPT.out
           rw [HL4.out, h3.2.2.2.2.2.2.2.2.2.2]
           rcases (by omega : A2.length = 0 ∨ B2.length = 0) with h | h
           ·rw [List.length_eq_zero_iff.1 h, Lv.mg_nil]; simp only [List.append_assoc, List.nil_append]
           ·rw [List.length_eq_zero_iff.1 h, Lv.mg_nil']; simp only [List.append_assoc, List.nil_append])
          clear HL4
          have HL4 := HL5
          clear HL5
          go_wp2
          go_end0
          exact ⟨rfl, dn, HL4.out, S3.out⟩
       ·rw [decide_eq_false hb9]
        have HL5 : Hid (dn.toList = L1 ++ (Lv.mg (ltOf cf) A1 B1 ++ (A2 ++ (B2 ++ L2)))) := Lib.hid (by
         have h1 := HN.out
         have h2 := HE.out
         have h3 := HPT.out
         rw [HL4.out]
         rcases (by omega : A1.length = 0 ∨ B1.length = 0) with h | h
         ·rw [List.length_eq_zero_iff.1 h, Lv.mg_nil]; simp only [List.nil_append]
         ·rw [List.length_eq_zero_iff.1 h, Lv.mg_nil']; simp only [List.nil_append])
        clear HL4
        have HL4 := HL5
        clear HL5
        go_upto_region 43 with fail
        go_cut [213] from 206 (fun c wx => wx = wr ∧ c = .bool (decide (mid < e ∧ e < b)))
        case first =>
         by_cases h1 : mid < e
         ·have h1z : (mid : Int) < (e : Int) := by omega
          by_cases h2 : e < b
          ·have h2z : (e : Int) < (b : Int) := by omega
           have hd9 := decide_eq_true (And.intro h1 h2)
           go_wp2_with fail
           go_meet
           case rel => exact ⟨rfl, by rw [hd9]⟩
          ·have h2z : ¬ (e : Int) < (b : Int) := by omega
           have hd9 : decide (mid < e ∧ e < b) = false := decide_eq_false fun h => h2 h.2
           go_wp2_with fail
           go_meet
           case rel => exact ⟨rfl, by rw [hd9]⟩
         ·have h1z : ¬ (mid : Int) < (e : Int) := by omega
          have hd9 : decide (mid < e ∧ e < b) = false := decide_eq_false fun h => h1 h.1
          go_wp2_with fail
          go_meet
          case rel => exact ⟨rfl, by rw [hd9]⟩
        case rest =>
         obtain ⟨ew, e99⟩ := hcut
         have ew := ew.symm
         subst ew e99
         by_cases hb9 : mid < e ∧ e < b
         ·rw [decide_eq_true hb9]
          have CC : Hid (Calls P 78 #[.slice (some ⟨blk, off, none⟩) N cap, .int .i64 (mid : Int), .int .i64 (e : Int), .int .i64 (b : Int), .func (.func g) #[] cb] wr fun e9 w' => e9 = .returned (.tuple #[]) ∧ ∃ d' : Array α, d'.toList = L1 ++ (Lv.mg (ltOf cf) A B ++ L2) ∧ SWK enc k w0 blk off d' w') := Lib.hid (by
           have h1 := HN.out
           have h2 := HE.out
           have h3 := HPT.out
           have hml : (Lv.mg (ltOf cf) A1 B1).length = A1.length + B1.length := Lv.mg_len _ _ _ _ rfl
           have h4 := Lv.len_of HL4.out
           simp only [List.length_append, hml] at h4
           have h5 := Lv.len_of HD.out
           rw [h3.1, h3.2.1] at h5
           simp only [List.length_append] at h5
           have h6 : A.length = A1.length + A2.length := by rw [h3.1, List.length_append]
           have h7 : B.length = B1.length + B2.length := by rw [h3.2.1, List.length_append]
           refine (HIH.out A2 B2 (L1 ++ Lv.mg (ltOf cf) A1 B1) L2 dn wr (by omega) (by omega) S3.out (by rw [HL4.out]; simp only [List.append_assoc]) (by omega) (by omega) h3.2.2.2.2.2.2.2.2.1 h3.2.2.2.2.2.2.2.2.2.1 _ _ _ (by rw [List.length_append, hml]; omega) (by rw [List.length_append, hml]; omega) (by rw [List.length_append, hml]; omega)).mono ?_
           rintro e9 w' ⟨rfl, d', hd', hS⟩
           exact ⟨rfl, d', by rw [hd', h3.2.2.2.2.2.2.2.2.2.2]; simp only [List.append_assoc], hS⟩)
          have HL3 := HL4
          clear HL4
          go_wp2_with fail
          refine CC.out.mono ?_
          rintro e9 w3 ⟨rfl, dn, hdn, hsn⟩
          have S4 : Aside (SWK enc k w0 blk off dn w3) := hsn
          have HL4 := Lib.hid hdn
          clear hsn hdn CC HL3 S3
          generalize w3 = wr at *
          have S3 := S4
          clear S4
          go_wp2
          go_end0
          exact ⟨rfl, dn, HL4.out, S3.out⟩
         ·rw [decide_eq_false hb9]
          have HL5 : Hid (dn.toList = L1 ++ (Lv.mg (ltOf cf) A B ++ L2)) := Lib.hid (by
           have h1 := HN.out
           have h2 := HE.out
           have h3 := HPT.out
           rw [HL4.out, h3.2.2.2.2.2.2.2.2.2.2]
           rcases (by omega : A2.length = 0 ∨ B2.length = 0) with h | h
           ·rw [List.length_eq_zero_iff.1 h, Lv.mg_nil]; simp only [List.append_assoc, List.nil_append]
           ·rw [List.length_eq_zero_iff.1 h, Lv.mg_nil']; simp only [List.append_assoc, List.nil_append])
          clear HL4
          have HL4 := HL5
          clear HL5
          go_wp2
          go_end0
          exact ⟨rfl, dn, HL4.out, S3.out⟩
end
section
open Go Go.RowKit Go.Sort Go.Lib Go.Shelf
theorem Lv.sym_c {P : Program} {k : Nat} (L : Lv.L P k) {α : Type} [Inhabited α] (enc : α → List Value) (g : Nat) (cb : Array Value) (cf : α → α → Int) (hO : SWO (ltOf cf)) (eg : ∀ args w, (callFunc g args).run P w = .ok (.enter g args) w) (blk off cap : Nat) (d0 : Array α) (w0 : World) (R : RowK enc k w0 blk off d0) (N : Nat) (hN : d0.size = N) (hC : CmpLays P g cb enc k cf blk off N w0) (hsz : N < 1152921504606846976) :
 ∀ (n : Nat) (A B L1 L2 : List α) (d : Array α) (w : World), A.length + B.length = n → d.size = N → SWK enc k w0 blk off d w → d.toList = L1 ++ (A ++ (B ++ L2)) → 0 < A.length → 0 < B.length → Lv.Sd (ltOf cf) A → Lv.Sd (ltOf cf) B → ∀ zA zB zC : Int, zA = L1.length → zB = (L1.length + A.length : Nat) → zC = (L1.length + A.length + B.length : Nat) →
 Calls P 78 #[.slice (some ⟨blk, off, none⟩) N cap, .int .i64 zA, .int .i64 zB, .int .i64 zC, .func (.func g) #[] cb] w fun e w' => e = .returned (.tuple #[]) ∧ ∃ d' : Array α, d'.toList = L1 ++ (Lv.mg (ltOf cf) A B ++ L2) ∧ SWK enc k w0 blk off d' w' := by
 intro n
 induction n using Nat.strongRecOn with
 | ind n ih =>
   intro A B L1 L2 d w hn hds S hd hA hB sA sB zA zB zC eA eB eC
   subst eA eB eC
   by_cases h1 : A.length = 1
   ·obtain ⟨x, rfl⟩ := List.length_eq_one_iff.1 h1
    exact Lv.sym_1 L enc g cb cf hO eg blk off cap d0 w0 R N hN hC hsz d hds w S x [x] B L1 L2 rfl hd hB sB _ _ _ rfl rfl rfl
   ·by_cases h2 : B.length = 1
    ·obtain ⟨x, rfl⟩ := List.length_eq_one_iff.1 h2
     exact Lv.sym_2 L enc g cb cf hO eg blk off cap d0 w0 R N hN hC hsz d hds w S x A [x] L1 L2 rfl hd (by omega) sA _ _ _ rfl rfl rfl
    ·exact Lv.sym_3 L enc g cb cf hO eg blk off cap d0 w0 R N hN hC hsz n (fun A B L1 L2 d w hlt => ih (A.length + B.length) hlt A B L1 L2 d w rfl) d hds w S A B L1 L2 hn hd (by omega) (by omega) sA sB _ _ _ rfl rfl rfl
variable {α : Type}
def Lv.cks (lt : α → α → Bool) (bs : Nat) : Nat → List α → List α
 | 0, l => Lv.st lt l
 | f + 1, l => if l.length ≤ bs then Lv.st lt l else Lv.st lt (l.take bs) ++ Lv.cks lt bs f (l.drop bs)
theorem Lv.cks_fuel (lt : α → α → Bool) {bs : Nat} (hb : 0 < bs) : ∀ (f g : Nat) (l : List α), l.length ≤ f → l.length ≤ g → Lv.cks lt bs f l = Lv.cks lt bs g l
 | 0, 0, _, _, _ => rfl
 | 0, g + 1, l, h, _ => by
   rw [Lv.cks, Lv.cks, if_pos (by omega)]
 | f + 1, 0, l, _, h => by
   rw [Lv.cks, Lv.cks, if_pos (by omega)]
 | f + 1, g + 1, l, h1, h2 => by
   rw [Lv.cks, Lv.cks]
   split
   ·rfl
   ·rw [Lv.cks_fuel lt hb f g (l.drop bs) (by rw [List.length_drop]; omega) (by rw [List.length_drop]; omega)]
def Lv.ck (lt : α → α → Bool) (bs : Nat) (l : List α) : List α := Lv.cks lt bs l.length l
theorem Lv.ck_short (lt : α → α → Bool) {bs : Nat} {l : List α} (h : l.length ≤ bs) : Lv.ck lt bs l = Lv.st lt l := by
 unfold Lv.ck
 cases hl : l.length with
 | zero => rfl
 | succ n => rw [Lv.cks, if_pos (by omega)]
theorem Lv.ck_step (lt : α → α → Bool) {bs : Nat} (hb : 0 < bs) {l : List α} (h : bs ≤ l.length) : Lv.ck lt bs l = Lv.st lt (l.take bs) ++ Lv.ck lt bs (l.drop bs) := by
 by_cases he : l.length = bs
 ·rw [Lv.ck_short lt (by omega), List.take_of_length_le (by omega), List.drop_of_length_le (by omega)]
  rw [Lv.ck_short lt (by simp)]
  rw [show Lv.st lt ([] : List α) = [] from rfl, List.append_nil]
 ·unfold Lv.ck
  cases hl : l.length with
  | zero => omega
  | succ n =>
    rw [Lv.cks, if_neg (by omega)]
    congr 1
    exact Lv.cks_fuel lt hb _ _ _ (by rw [List.length_drop]; omega) (Nat.le_refl _)
theorem Lv.ck_len (lt : α → α → Bool) {bs : Nat} (hb : 0 < bs) : ∀ (n : Nat) (l : List α), l.length = n → (Lv.ck lt bs l).length = n := by
 intro n
 induction n using Nat.strongRecOn with
 | ind n ih =>
   intro l hl
   by_cases h : l.length ≤ bs
   ·rw [Lv.ck_short lt h, Lv.st_len, hl]
   ·rw [Lv.ck_step lt hb (by omega), List.length_append, Lv.st_len, List.length_take, ih (n - bs) (by omega) (l.drop bs) (by rw [List.length_drop]; omega)]
    omega
end
section
open Go Go.RowKit Go.Sort Go.Lib Go.Shelf
set_option maxHeartbeats 8000000 in
set_option maxRecDepth 1000000 in
theorem Lv.stable_c {P : Program} {k : Nat} (L : Lv.L P k) (FG : P.funcs[69]? = some Try.f69) (eI : ∀ args w, (callFunc 77 args).run P w = .ok (.enter 77 args) w)
 {α : Type} [Inhabited α] (enc : α → List Value) (g : Nat) (cb : Array Value) (cf : α → α → Int) (hO : SWO (ltOf cf)) (eg : ∀ args w, (callFunc g args).run P w = .ok (.enter g args) w) (blk off cap : Nat) (d0 : Array α) (w0 : World) (R : RowK enc k w0 blk off d0) (N : Nat) (hN : d0.size = N) (hC : CmpLays P g cb enc k cf blk off N w0) (hsz : N < 1152921504606846976)
 (HI : ∀ (L1 Q T : List α) (d : Array α) (w : World), d.size = N → SWK enc k w0 blk off d w → d.toList = L1 ++ (Q ++ T) → ∀ zA zB : Int, zA = L1.length → zB = (L1.length + Q.length : Nat) → Calls P 77 #[.slice (some ⟨blk, off, none⟩) N cap, .int .i64 zA, .int .i64 zB, .func (.func g) #[] cb] w fun e w' => e = .returned (.tuple #[]) ∧ ∃ d' : Array α, d'.toList = L1 ++ (Lv.st (ltOf cf) Q ++ T) ∧ SWK enc k w0 blk off d' w')
 (d : Array α) (hds : d.size = N) (w : World) (S : SWK enc k w0 blk off d w) (l : List α) (hd : d.toList = l) :
 Calls P 69 #[.slice (some ⟨blk, off, none⟩) N cap, .int .i64 N, .func (.func g) #[] cb] w fun e w' => e = .returned (.tuple #[]) ∧ ∃ d' : Array α, d'.toList = Lv.st (ltOf cf) l ∧ SWK enc k w0 blk off d' w' := by
 have hl : l.length = N := by rw [← hds]; exact (Lv.len_of hd).symm
 have HL := Lib.hid hl
 have HII := Lib.hid HI
 have HSM := Lib.hid (Lv.sym_c L enc g cb cf hO eg blk off cap d0 w0 R N hN hC hsz)
 have S0 : Aside (SWK enc k w0 blk off d w) := S
 have HD := Lib.hid hd
 have mixed := L.mixed; have t0 := L.t0; have a0 := L.a0; have z0 := L.z0; have v0 := L.v0; have t3 := L.t3; have a3 := L.a3; have z3 := L.z3; have v3 := L.v3; have t4 := L.t4; have a4 := L.a4; have z4 := L.z4; have v4 := L.v4; have tU := L.tU; have aU := L.aU; have zU := L.zU; have vU := L.vU; have tS := L.tS; have aS := L.aS; have zS := L.zS; have vS := L.vS; have tF := L.tF; have aF := L.aF; have zF := L.zF; have vF := L.vF; have aE := L.aP; have zE := L.zP; have eA := L.eA; have eB := L.eB; have eC := L.eC
 clear S hd hl hC HI hN hds
 go_enter FG, Try.ntmps69
 go_wp2_with fail
 go_loopg [7, 8] N (fun kx s7 s8 wr => ∃ (a b : Nat) (dk : Array α), s7 = .int .i64 (a : Int) ∧ s8 = .int .i64 (b : Int) ∧ Hid (b = a + 20 ∧ a ≤ N) ∧ N - a ≤ kx ∧ Aside (SWK enc k w0 blk off dk wr) ∧ Hid (dk.size = N ∧ ∃ Q : List α, dk.toList = Q ++ l.drop a ∧ Q.length = a ∧ Lv.ck (ltOf cf) 20 l = Q ++ Lv.ck (ltOf cf) 20 (l.drop a)))
 case atStart => exact ⟨0, 20, d, rfl, rfl, Lib.hid ⟨rfl, Nat.zero_le _⟩, Nat.le_refl _, S0, Lib.hid ⟨by have := Lv.len_of HD.out; have := HL.out; omega, [], by rw [HD.out]; rfl, rfl, by rw [List.drop_zero]; rfl⟩⟩
 case round =>
  clear S0
  obtain ⟨a, b, dk, rfl, rfl, HAB, hkx, S1, HK⟩ := hrel
  have HKX := Lib.hid hkx
  clear hkx
  by_cases hbn : b ≤ N
  ·have hbz : (b : Int) ≤ (N : Int) := by omega
   have wb : IntKind.i64.wrap ((b : Int) + 20) = (b : Int) + 20 := by rw [IntKind.wrap_i64]; omega
   have CC : Hid (Calls P 77 #[.slice (some ⟨blk, off, none⟩) N cap, .int .i64 (a : Int), .int .i64 (b : Int), .func (.func g) #[] cb] wr fun e w' => e = .returned (.tuple #[]) ∧ ∃ d' : Array α, SWK enc k w0 blk off d' w' ∧ (d'.size = N ∧ ∃ Q : List α, d'.toList = Q ++ l.drop b ∧ Q.length = b ∧ Lv.ck (ltOf cf) 20 l = Q ++ Lv.ck (ltOf cf) 20 (l.drop b))) := Lib.hid (by
    obtain ⟨h1, Q, h2, h3, h4⟩ := HK.out
    have h5 := HAB.out
    have h6 := HL.out
    have hdl : (l.drop a).length = N - a := by rw [List.length_drop]; omega
    have htl : ((l.drop a).take 20).length = 20 := by rw [List.length_take]; omega
    have hdd : (l.drop a).drop 20 = l.drop b := by rw [List.drop_drop, h5.1]
    refine (HII.out Q ((l.drop a).take 20) ((l.drop a).drop 20) dk wr h1 S1.out (by rw [List.take_append_drop]; exact h2) _ _ (by omega) (by omega)).mono ?_
    rintro e w' ⟨rfl, d', hd', hS⟩
    refine ⟨rfl, d', hS, ?_, Q ++ Lv.st (ltOf cf) ((l.drop a).take 20), by rw [hd', hdd]; simp only [List.append_assoc], by rw [List.length_append, Lv.st_len]; omega, ?_⟩
    ·have := Lv.len_of hd'
     rw [hdd] at this
     simp only [List.length_append, Lv.st_len, List.length_drop] at this
     omega
    ·rw [h4, Lv.ck_step (ltOf cf) (by decide) (by omega : 20 ≤ (l.drop a).length), hdd]
     simp only [List.append_assoc])
   clear S1 HK
   go_wp2_with fail
   refine CC.out.mono ?_
   rintro e w3 ⟨rfl, dn, hs, hx⟩
   have S2 : Aside (SWK enc k w0 blk off dn w3) := hs
   have HX := Lib.hid hx
   clear hs hx CC
   go_wp2
   go_roundg (N - b)
   case measure => have := HKX.out; have := HAB.out; omega
   case rel => exact ⟨b, b + 20, dn, rfl, by simp, Lib.hid ⟨rfl, hbn⟩, Nat.le_refl _, S2, HX⟩
  ·have hbz : ¬ (b : Int) ≤ (N : Int) := by omega
   have CC : Hid (Calls P 77 #[.slice (some ⟨blk, off, none⟩) N cap, .int .i64 (a : Int), .int .i64 (N : Int), .func (.func g) #[] cb] wr fun e w' => e = .returned (.tuple #[]) ∧ ∃ d' : Array α, SWK enc k w0 blk off d' w' ∧ (d'.size = N ∧ d'.toList = Lv.ck (ltOf cf) 20 l)) := Lib.hid (by
    obtain ⟨h1, Q, h2, h3, h4⟩ := HK.out
    have h5 := HAB.out
    have h6 := HL.out
    have hdl : (l.drop a).length = N - a := by rw [List.length_drop]; omega
    refine (HII.out Q (l.drop a) [] dk wr h1 S1.out (by rw [List.append_nil]; exact h2) _ _ (by omega) (by omega)).mono ?_
    rintro e w' ⟨rfl, d', hd', hS⟩
    rw [List.append_nil] at hd'
    refine ⟨rfl, d', hS, ?_, by rw [hd', h4, Lv.ck_short _ (by omega)]⟩
    have := Lv.len_of hd'
    simp only [List.length_append, Lv.st_len] at this
    omega)
   clear S1 HK
   go_wp2_with fail
   refine CC.out.mono ?_
   rintro e w3 ⟨rfl, dn, hs, hx⟩
   have S2 : Aside (SWK enc k w0 blk off dn w3) := hs
   have HX := Lib.hid hx
   clear hs hx CC hbn hbz HAB HKX
   go_wp2_with fail
   go_loopg [6, 7, 8, 9] N (fun kx s6 s7 s8 s9 wr => ∃ (bs : Nat) (dk : Array α), s6 = .int .i64 (bs : Int) ∧ Hid (20 ≤ bs ∧ bs ≤ 2 * N + 20) ∧ N - bs ≤ kx ∧ Aside (SWK enc k w0 blk off dk wr) ∧ Hid (dk.size = N ∧ dk.toList = Lv.ck (ltOf cf) bs l))
   case atStart => exact ⟨20, dn, rfl, Lib.hid ⟨Nat.le_refl _, by omega⟩, by omega, S2, HX⟩
   case round =>
    clear S2
    obtain ⟨bs, dk, rfl, HBS, hkx, S1, HK⟩ := hrel
    have HKX := Lib.hid hkx
    clear hkx
    by_cases hbn : bs < N
    ·have hbz : (bs : Int) < (N : Int) := by omega
     have wb : IntKind.i64.wrap (2 * (bs : Int)) = 2 * (bs : Int) := by rw [IntKind.wrap_i64]; omega
     have wb2 : IntKind.i64.wrap ((bs : Int) * 2) = (bs : Int) * 2 := by rw [IntKind.wrap_i64]; omega
     have HBN := Lib.hid hbn
     clear hbn
     go_wp2_with fail
     go_loopg [7, 8] N (fun kx s7 s8 wr => ∃ (a b : Nat) (dk : Array α), s7 = .int .i64 (a : Int) ∧ s8 = .int .i64 (b : Int) ∧ Hid (b = a + 2 * bs ∧ a ≤ N) ∧ N - a ≤ kx ∧ Aside (SWK enc k w0 blk off dk wr) ∧ Hid (dk.size = N ∧ ∃ Q : List α, dk.toList = Q ++ Lv.ck (ltOf cf) bs (l.drop a) ∧ Q.length = a ∧ Lv.ck (ltOf cf) (2 * bs) l = Q ++ Lv.ck (ltOf cf) (2 * bs) (l.drop a)))
     case atStart => exact ⟨0, 2 * bs, dk, rfl, by simp, Lib.hid ⟨by omega, Nat.zero_le _⟩, Nat.le_refl _, S1, Lib.hid ⟨HK.out.1, [], by rw [HK.out.2, List.drop_zero]; rfl, rfl, by rw [List.drop_zero]; rfl⟩⟩
     case round =>
      clear S1 HK
      obtain ⟨a, b, dk, rfl, rfl, HAB, hkx, S1, HK⟩ := hrel
      have HKX2 := Lib.hid hkx
      clear hkx
      by_cases hbn : b ≤ N
      ·have hbz2 : (b : Int) ≤ (N : Int) := by omega
       have wm : IntKind.i64.wrap ((a : Int) + (bs : Int)) = (a : Int) + (bs : Int) := by have h1 := HAB.out; have h2 := HBN.out; rw [IntKind.wrap_i64]; omega
       have wn : IntKind.i64.wrap ((b : Int) + 2 * (bs : Int)) = (b : Int) + 2 * (bs : Int) := by have h2 := HBN.out; rw [IntKind.wrap_i64]; omega
       have CC : Hid (Calls P 78 #[.slice (some ⟨blk, off, none⟩) N cap, .int .i64 (a : Int), .int .i64 ((a : Int) + (bs : Int)), .int .i64 (b : Int), .func (.func g) #[] cb] wr fun e w' => e = .returned (.tuple #[]) ∧ ∃ d' : Array α, SWK enc k w0 blk off d' w' ∧ (d'.size = N ∧ ∃ Q : List α, d'.toList = Q ++ Lv.ck (ltOf cf) bs (l.drop b) ∧ Q.length = b ∧ Lv.ck (ltOf cf) (2 * bs) l = Q ++ Lv.ck (ltOf cf) (2 * bs) (l.drop b))) := Lib.hid (by
        obtain ⟨h1, Q, h2, h3, h4⟩ := HK.out
        have h5 := HAB.out
        have h6 := HL.out
        have h7 := HBS.out
        have hdl : (l.drop a).length = N - a := by rw [List.length_drop]; omega
        have hX : ((l.drop a).take bs).length = bs := by rw [List.length_take]; omega
        have hY : (((l.drop a).drop bs).take bs).length = bs := by rw [List.length_take, List.length_drop]; omega
        have hdd : ((l.drop a).drop bs).drop bs = l.drop b := by rw [List.drop_drop, List.drop_drop, show a + (bs + bs) = b by omega]
        have hdb : (l.drop a).drop (2 * bs) = l.drop b := by rw [List.drop_drop, h5.1]
        have hlb : (l.drop b).length = N - b := by rw [List.length_drop]; omega
        have hXY : (l.drop a).take bs ++ ((l.drop a).drop bs).take bs = (l.drop a).take (2 * bs) := by rw [show 2 * bs = bs + bs by omega, List.take_add]
        have hck : Lv.ck (ltOf cf) bs (l.drop a) = Lv.st (ltOf cf) ((l.drop a).take bs) ++ (Lv.st (ltOf cf) (((l.drop a).drop bs).take bs) ++ Lv.ck (ltOf cf) bs (l.drop b)) := by
         rw [Lv.ck_step (ltOf cf) (by omega) (by omega : bs ≤ (l.drop a).length), Lv.ck_step (ltOf cf) (by omega) (by rw [List.length_drop]; omega : bs ≤ ((l.drop a).drop bs).length), hdd]
        refine (HSM.out _ (Lv.st (ltOf cf) ((l.drop a).take bs)) (Lv.st (ltOf cf) (((l.drop a).drop bs).take bs)) Q (Lv.ck (ltOf cf) bs (l.drop b)) dk wr rfl h1 S1.out (by rw [h2, hck]) (by rw [Lv.st_len]; omega) (by rw [Lv.st_len]; omega) (Lv.st_sd hO _) (Lv.st_sd hO _) _ _ _ (by omega) (by rw [Lv.st_len]; omega) (by rw [Lv.st_len, Lv.st_len]; omega)).mono ?_
        rintro e w' ⟨rfl, d', hd', hS⟩
        rw [← Lv.st_append hO, hXY] at hd'
        refine ⟨rfl, d', hS, ?_, Q ++ Lv.st (ltOf cf) ((l.drop a).take (2 * bs)), by rw [hd']; simp only [List.append_assoc], by rw [List.length_append, Lv.st_len, List.length_take]; omega, ?_⟩
        ·have := Lv.len_of hd'
         rw [List.length_append, List.length_append, Lv.st_len, List.length_take, Lv.ck_len _ (by omega) _ _ rfl, hlb] at this
         omega
        ·rw [h4, Lv.ck_step (ltOf cf) (by omega) (by omega : 2 * bs ≤ (l.drop a).length), hdb]
         simp only [List.append_assoc])
       clear S1 HK
       go_wp2_with fail
       refine CC.out.mono ?_
       rintro e w5 ⟨rfl, dm, hs, hx⟩
       have S2 : Aside (SWK enc k w0 blk off dm w5) := hs
       have HX := Lib.hid hx
       clear hs hx CC
       go_wp2
       go_roundg (N - b)
       case measure => have h1 := HKX2.out; have h2 := HAB.out; have h3 := HBS.out; omega
       case rel => exact ⟨b, b + 2 * bs, dm, rfl, by simp, Lib.hid ⟨rfl, hbn⟩, Nat.le_refl _, S2, HX⟩
      ·have hbz2 : ¬ (b : Int) ≤ (N : Int) := by omega
       obtain ⟨m, hm⟩ : ∃ m, m = a + bs := ⟨_, rfl⟩
       have wm : IntKind.i64.wrap ((a : Int) + (bs : Int)) = (m : Int) := by have h1 := HAB.out; have h2 := HBN.out; rw [IntKind.wrap_i64]; omega
       have HM := Lib.hid hm
       clear hm
       by_cases hmn : m < N
       ·have hmz : (m : Int) < (N : Int) := by omega
        have CC : Hid (Calls P 78 #[.slice (some ⟨blk, off, none⟩) N cap, .int .i64 (a : Int), .int .i64 (m : Int), .int .i64 (N : Int), .func (.func g) #[] cb] wr fun e w' => e = .returned (.tuple #[]) ∧ ∃ d' : Array α, SWK enc k w0 blk off d' w' ∧ (d'.size = N ∧ d'.toList = Lv.ck (ltOf cf) (2 * bs) l)) := Lib.hid (by
         obtain ⟨h1, Q, h2, h3, h4⟩ := HK.out
         have h5 := HAB.out
         have h6 := HL.out
         have h7 := HBS.out
         have hm := HM.out
         have hdl : (l.drop a).length = N - a := by rw [List.length_drop]; omega
         have hX : ((l.drop a).take bs).length = bs := by rw [List.length_take]; omega
         have hY : ((l.drop a).drop bs).length = N - m := by rw [List.length_drop]; omega
         have hck : Lv.ck (ltOf cf) bs (l.drop a) = Lv.st (ltOf cf) ((l.drop a).take bs) ++ Lv.st (ltOf cf) ((l.drop a).drop bs) := by
          rw [Lv.ck_step (ltOf cf) (by omega) (by omega : bs ≤ (l.drop a).length), Lv.ck_short (ltOf cf) (by omega : ((l.drop a).drop bs).length ≤ bs)]
         refine (HSM.out _ (Lv.st (ltOf cf) ((l.drop a).take bs)) (Lv.st (ltOf cf) ((l.drop a).drop bs)) Q [] dk wr rfl h1 S1.out (by rw [h2, hck, List.append_nil]) (by rw [Lv.st_len]; omega) (by rw [Lv.st_len]; omega) (Lv.st_sd hO _) (Lv.st_sd hO _) _ _ _ (by omega) (by rw [Lv.st_len]; omega) (by rw [Lv.st_len, Lv.st_len]; omega)).mono ?_
         rintro e w' ⟨rfl, d', hd', hS⟩
         rw [← Lv.st_append hO, List.take_append_drop, List.append_nil] at hd'
         refine ⟨rfl, d', hS, ?_, by rw [hd', h4, Lv.ck_short _ (by omega)]⟩
         have := Lv.len_of hd'
         rw [List.length_append, Lv.st_len] at this
         omega)
        clear S1 HK
        go_wp2_with fail
        refine CC.out.mono ?_
        rintro e w5 ⟨rfl, dm, hs, hx⟩
        have S2 : Aside (SWK enc k w0 blk off dm w5) := hs
        have HX := Lib.hid hx
        clear hs hx CC
        go_wp2
        go_roundg (N - 2 * bs)
        case measure => have h1 := HKX.out; have h2 := HBN.out; have h3 := HBS.out; omega
        case rel => exact ⟨2 * bs, dm, by first | (simp; done) | (simp; omega), Lib.hid (by have h2 := HBN.out; have h3 := HBS.out; omega), Nat.le_refl _, S2, HX⟩
       ·have hmz : ¬ (m : Int) < (N : Int) := by omega
        have HX : Hid (dk.size = N ∧ dk.toList = Lv.ck (ltOf cf) (2 * bs) l) := Lib.hid (by
         obtain ⟨h1, Q, h2, h3, h4⟩ := HK.out
         have h5 := HAB.out
         have h6 := HL.out
         have hm := HM.out
         have hdl : (l.drop a).length = N - a := by rw [List.length_drop]; omega
         exact ⟨h1, by rw [h2, h4, Lv.ck_short _ (by omega), Lv.ck_short _ (by omega)]⟩)
        clear HK
        go_wp2
        go_roundg (N - 2 * bs)
        case measure => have h1 := HKX.out; have h2 := HBN.out; have h3 := HBS.out; omega
        case rel => exact ⟨2 * bs, dk, by first | (simp; done) | (simp; omega), Lib.hid (by have h2 := HBN.out; have h3 := HBS.out; omega), Nat.le_refl _, S1, HX⟩
    ·have hbz : ¬ (bs : Int) < (N : Int) := by omega
     go_wp2
     go_end0
     exact ⟨rfl, dk, by rw [HK.out.2, Lv.ck_short _ (by have := HL.out; omega)], S1.out⟩
end
end Go.Proofs.Ytodeodndjkkkbaa
