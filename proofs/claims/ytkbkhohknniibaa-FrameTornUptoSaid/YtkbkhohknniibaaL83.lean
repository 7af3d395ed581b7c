/-
  The laws of package frame: FrameJoins.
-/
import Derived.Test.YtkbkhohknniibaaL82
namespace Go.Proofs.Ytkbkhohknniibaa
open Go.RowKit
theorem Fr.joins (A B : List UInt8) : (Fr.all A).1 = 2 ∨ ((Fr.all A).1 ≠ 2 ∧ ((Fr.all A).1 ≠ 0 ∨ ((Fr.all A).1 = 0 ∧ (Fr.scan B).1 ≠ 0)) ∧ Fr.scan (A ++ B) = (8, [], 0)) ∨ ((Fr.all A).1 = 0 ∧ (Fr.scan B).1 = 0 ∧ Fr.scan (A ++ B) = (0, (Fr.all A).2 ++ (Fr.scan B).2.1, A.length + (Fr.scan B).2.2)) := by
  have hle := Fr.scan_le A
  have hj := Fr.scan_join A.length A B (Nat.le_refl _)
  have h8 := Fr.scan_err A
  by_cases h : (Fr.scan A).1 ≠ 0
  · rw [Fr.both, if_pos h] at hj
    rw [hj (.inl h), Fr.all, if_pos h]
    rcases h8 with e | e
    · exact absurd e h
    · rw [e]
      exact .inr (.inl ⟨by simp, .inl (by simp), rfl⟩)
  · by_cases hn : (Fr.scan A).2.2 < A.length
    · rw [Fr.all, if_neg h, if_pos hn]
      exact .inl rfl
    · have hj := hj (.inr (by omega))
      rw [Fr.both, if_neg h] at hj
      rw [Fr.all, if_neg h, if_neg hn]
      by_cases hb : (Fr.scan B).1 ≠ 0
      · rw [if_pos hb] at hj
        exact .inr (.inl ⟨by simp, .inr ⟨rfl, hb⟩, hj⟩)
      · rw [if_neg hb] at hj
        exact .inr (.inr ⟨rfl, by simpa using hb, hj⟩)
theorem Fr.src_at {B : Nat} {w : World} {v : Value} {L : List Fr.Str} (h : Tx.At B w v L) : Tx.Src w v L := by
  obtain ⟨a, c, rfl, _, _, h⟩ := h
  rcases h with ⟨rfl, h⟩ | ⟨b, o, rfl, _, h⟩
  · cases a with
    | none => rw [h rfl]; exact .inl ⟨rfl, rfl⟩
    | some ad => exact .inr ⟨ad, c, rfl, fun i hi => absurd hi (by simp)⟩
  · exact .inr ⟨_, c, rfl, fun i hi => by rw [Tx.addr_add]; exact h i hi⟩
/-- Many values appended, at a guard that is met. -/
theorem Fr.wpList_append_met {base : Nat} {w0 : World} {v : Value} {M K : List Tx.Str} (hown : Tx.Own base w0 v M) (hb : base ≤ w0.heap.size) (hl : (M.length + K.length) * 16 ≤ 140737488355328)
    {ops : Array Oper} {rest : List Oper} {o : Oper} {a : Act} {Q : Exit → Act → World → Prop} (s x : Operand) (u : Value) (hgd : Region.wanted o (yielded ops a.tmps) = true)
    (ho : o.op = .call { callee := .builtin .append, args := #[s, x], argTypes := #[27, 27] })
    (hs : a.eval s = v) (hx : a.eval x = u) (hu : Tx.Src w0 u K)
    (h : ∀ v' w', Tx.Own base w' v' (M ++ K) → Ty.Grew w0 w' v v' → wpList Try.prog ops Q rest (a.put o.dst v') w') :
    wpList Try.prog ops Q (o :: rest) a w0 := by
  refine wpList_step fun Kx hKx => ?_
  rw [if_pos hgd]
  obtain ⟨v', w', hr, h2, h3⟩ := Tx.append_more hown hb hl hu o.type
  unfold Oper.wp execOp
  simp only [ho, resolve, invoke, builtin, Sem.run_bind, Sem.run_pure, Result.andThen_ok, List.map_toArray, List.map_cons, List.map_nil, hs, hx, hr]
  exact hKx _ _ (h v' w' h2 h3)
set_option maxHeartbeats 4000000 in
set_option maxRecDepth 100000 in
theorem Fr.lawJoins_w (a b : ByteArray) (hs : a.size + b.size ≤ 70368744177664) (w : World) (hw : Fr.W w) :
    Calls Try.prog 8 #[.string a, .string b] w fun e w' => e = .returned (.bool true) ∧ Below w.heap.size w w' := by
  have HW := Lib.hid hw
  have CA := Lib.hid fun wz h => Fr.all_c a (by omega) wz h
  have CB := Lib.hid fun wz h => Fr.scan_c b (by omega) wz h
  have CC := Lib.hid fun wz h => Fr.scan_c (a ++ b) (by rw [ByteArray.size_append]; exact hs) wz h
  have e : (a ++ b).data.toList = a.data.toList ++ b.data.toList := by rw [ByteArray.data_append, Array.toList_append]
  rw [e] at CC
  have hj := Fr.joins a.data.toList b.data.toList
  rw [Ty.length_data] at hj
  have hn := Fr.scan_le b.data.toList
  rw [Ty.length_data] at hn
  have hx := Fr.all_n a.data.toList
  have hy := Fr.scan_n b.data.toList
  rw [Ty.length_data] at hx hy
  generalize Fr.all a.data.toList = q1 at CA hj hx
  generalize Fr.scan b.data.toList = q2 at CB hj hy hn
  generalize Fr.scan (a.data.toList ++ b.data.toList) = q3 at CC hj
  obtain ⟨E, X⟩ := q1
  obtain ⟨F, Y, N⟩ := q2
  obtain ⟨G, Z, M⟩ := q3
  simp only [Prod.mk.injEq] at hj hx hy hn
  unfold Fr.Got at CB CC
  unfold Fr.GotA at CA
  simp only at CA CB CC
  have HJ := Lib.hid hj
  have HX := Lib.hid hx
  have HN := Lib.hid hn
  have HY := Lib.hid hy
  have n1 : ¬ 9223372036854775807 < a.size + b.size := by omega
  clear hj hx hy hn e hw
  go_enter Try.func8, Try.ntmps8
  go_wp2_with fail
  with_reducible refine (Fr.lives_c w HW.out).mono ?_
  rintro e w1 ⟨rfl, g1⟩
  have HB1 := Lib.hid g1
  clear g1
  go_wp2_with fail
  with_reducible refine (CA.out w1 (HW.out.below HB1.out)).mono ?_
  rintro e w2 ⟨v2, rfl, hV2, g2⟩
  have HB2 := Lib.hid (HB1.out.trans (g2.mono HB1.out.size))
  have H2 := Lib.hid hV2
  clear g2 hV2
  go_wp2_with fail
  with_reducible refine (CB.out w2 (HW.out.below HB2.out)).mono ?_
  rintro e w3 ⟨v3, rfl, hV3, g3⟩
  have HB3 := Lib.hid (HB2.out.trans (g3.mono HB2.out.size))
  have H2 := Lib.hid ((H2.out.below g3).mono g3.size (Nat.le_refl _))
  have H3 := Lib.hid hV3
  clear g3 hV3
  go_wp2_with fail
  with_reducible refine (CC.out w3 (HW.out.below HB3.out)).mono ?_
  rintro e w4 ⟨v4, rfl, hV4, g4⟩
  have HB4 := Lib.hid (HB3.out.trans (g4.mono HB3.out.size))
  have H2 := Lib.hid ((H2.out.below g4).mono g4.size (Nat.le_refl _))
  have H3 := Lib.hid ((H3.out.below g4).mono g4.size (Nat.le_refl _))
  have H4 := Lib.hid hV4
  clear g4 hV4
  rcases HJ.out with h | ⟨h2, h, hG, hZ, hM⟩ | ⟨hE, hF, hG, hZ, hM⟩
  · have hE2 : (E : Int) = 2 := by omega
    clear h
    go_wp2
    go_ret
    exact ⟨rfl, HB4.out⟩
  · have hE2 : ¬ (E : Int) = 2 := by omega
    subst hG hZ hM
    obtain ⟨za, zc, rfl, _, _, _⟩ := H4.out
    rcases h with h | ⟨h, hf⟩
    · have hE0 : ¬ (E : Int) = 0 := by omega
      clear h h2
      go_wp2
      go_ret
      exact ⟨rfl, HB4.out⟩
    · have hE0 : (E : Int) = 0 := by omega
      have hF0 : ¬ (F : Int) = 0 := by omega
      clear h h2 hf
      go_wp2
      go_ret
      exact ⟨rfl, HB4.out⟩
  · have hE0 : (E : Int) = 0 := by omega
    have hF0 : (F : Int) = 0 := by omega
    have hG0 : (G : Int) = 0 := by omega
    have hMi : (M : Int) = (a.size : Int) + (N : Int) := by omega
    have hN := HN.out
    have hE2 : ¬ (E : Int) = 2 := by omega
    subst hZ
    clear hE hF hG hM
    have hxx := HX.out
    have hyy := HY.out
    have hlx : X.length ≤ 8796093022208 := by omega
    have hly : Y.length ≤ 8796093022208 := by omega
    have hlz : X.length + Y.length ≤ 8796093022208 := by omega
    clear hxx hyy
    have HXL := Lib.hid hlx
    have HZL := Lib.hid hlz
    clear hlx hly hlz
    go_wp2_with (at_builtin; first
      | (refine Fr.wpList_append_met (M := []) (K := X) (Tx.Own.nil w4.heap.size w4) (Nat.le_refl _) (by have := HXL.out; simp only [List.length_nil]; omega) _ _ _ (by rfl) (by rfl) (by rfl) (by rfl) (Fr.src_at H2.out) ?_
         intro v5 w5 h5 g5
         have hb5 : Below w4.heap.size w4 w5 := Tx.grew_below (Below.refl _ _) (Tx.Own.nil _ _) g5)
      | (refine Fr.wpList_append_met (M := [] ++ X) (K := Y) h5 hb5.size (by have := HZL.out; simp only [List.nil_append]; omega) _ _ _ (by rfl) (by rfl) (by rfl) (by rfl) (Fr.src_at (H3.out.below hb5)) ?_
         intro v6 w6 h6 g6))
    have hb6 : Below w4.heap.size w4 w6 := Tx.grew_below hb5 h5 g6
    have HB6 := Lib.hid (HB4.out.trans (hb6.mono HB4.out.size))
    have H6 := Lib.hid (Tx.Own.at h6)
    have H4 := Lib.hid ((H4.out.below hb6).mono hb6.size (Nat.le_refl _))
    clear g6 h6 hb6 hb5 g5 h5
    rw [List.nil_append] at H6
    with_reducible refine (Tx.same_c _ _ (X ++ Y) _ H4.out H6.out (by have := HZL.out; rw [List.length_append]; omega)).mono ?_
    rintro e w7 ⟨rfl, g7⟩
    have HB7 := Lib.hid (HB6.out.trans (g7.mono HB6.out.size))
    clear g7
    go_wp2
    go_ret
    exact ⟨rfl, HB7.out⟩
end Go.Proofs.Ytkbkhohknniibaa
