import Derived.Test.YtkhiemkekmdhgaaGreatDoorZZAS
import Derived.Test.YtkhiemkekmdhgaaGreatDoorZZAY
import Derived.Test.YtkhiemkekmdhgaaGreatDoorZZAQ
import Derived.Test.YtkhiemkekmdhgaaGreatDoorZZAL
import Derived.Test.YtkhiemkekmdhgaaGreatDoorZZAK
import Derived.Test.YtkhiemkekmdhgaaGreatDoorZZAW
import Derived.Test.YtkhiemkekmdhgaaGreatDoorZZAD
namespace Go.Proofs.YtkhiemkekmdhgaaGreatDoor
section
open Go Go.RowKit
theorem Jn.min_take {L : List Dd.D} {m i : Nat} {d : Dd.D} (h : (L.take m)[i]? = some d) : L[i]? = some d ∧ i < m := by
 rw [List.getElem?_take] at h
 split at h
 ·next h1 => exact ⟨h, h1⟩
 ·cases h
theorem Jn.cut_a {s : List Kn.C} {M : List Dd.D} {i k : Nat} {d : Dd.D} (h : M[i]? = some d) (hd : Dd.fitE s d = 0) (hik : i < k) :
 Jn.tx s (M.take (min (i + 1) k)) = Jn.tx s (M.take (min i k)) ++ Jn.wS s d ∧ (M.take (i + 1)).drop k = [] ∧ (M.take i).drop k = [] := by
 rw [Nat.min_eq_left (by omega), Nat.min_eq_left (by omega)]
 refine ⟨Jn.tx_next h hd, List.drop_eq_nil_of_le ?_, List.drop_eq_nil_of_le ?_⟩ <;> rw [List.length_take] <;> omega
theorem Jn.cut_b {s : List Kn.C} {M : List Dd.D} {i k : Nat} {d : Dd.D} (h : M[i]? = some d) (hd : Dd.fitE s d = 0) (hik : k ≤ i) :
 min (i + 1) k = min i k ∧ Jn.tx s ((M.take (i + 1)).drop k) = Jn.tx s ((M.take i).drop k) ++ Jn.wS s d := by
 refine ⟨by omega, ?_⟩
 obtain ⟨hi, rfl⟩ := List.getElem?_eq_some_iff.1 h
 rw [List.take_succ_eq_append_getElem hi, List.drop_append_of_le_length (by rw [List.length_take]; omega), Jn.tx_append, Jn.tx_one]
 unfold Jn.wS
 rw [if_pos hd]
theorem Jn.at_one (w : World) (l : Fr.Str) : Tx.At (w.alloc (.cells #[.string (Ty.S l)] 9)).heap.size (w.alloc (.cells #[.string (Ty.S l)] 9)) (.slice (some ⟨w.heap.size, 0, none⟩) 1 1) [l] := by
 refine ⟨_, 1, rfl, Nat.le_refl _, Nat.le_refl _, .inr ⟨w.heap.size, 0, rfl, by rw [World.size_alloc]; omega, fun i hi => ?_⟩⟩
 obtain rfl : i = 0 := by simpa using hi
 exact Kn.cell_new w _ _ 0 _ rfl
theorem Jn.at_two (w : World) (l r : Fr.Str) : Tx.At (w.alloc (.cells #[.string (Ty.S l), .string (Ty.S r)] 9)).heap.size (w.alloc (.cells #[.string (Ty.S l), .string (Ty.S r)] 9)) (.slice (some ⟨w.heap.size, 0, none⟩) 2 2) [l, r] := by
 refine ⟨_, 2, rfl, Nat.le_refl _, Nat.le_refl _, .inr ⟨w.heap.size, 0, rfl, by rw [World.size_alloc]; omega, fun i hi => ?_⟩⟩
 rcases (by simp at hi; omega : i = 0 ∨ i = 1) with rfl | rfl
 ·exact Kn.cell_new w _ _ 0 _ rfl
 ·exact Kn.cell_new w _ _ 1 _ rfl
set_option maxHeartbeats 8000000 in
set_option maxRecDepth 100000 in
theorem Jn.cuts_w (v u : Value) (s : List Kn.C) (L : List Dd.D) (cut : Int) (w : World) (hT : Jn.TS w) (hs : Dd.Cols w v s) (hu : Bk.Ds w u L) (hi : ∀ d ∈ L, ∀ x ∈ d.row, Ty.I64 x.n) :
 Calls Tryz.prog 5 #[v, u, .int .i64 cut] w fun e w' => e = .returned (.bool true) ∧ Below w.heap.size w w' := by
 obtain ⟨R, hdr, hrv⟩ := hu.dr
 obtain ⟨ua, uc, rfl, hcell⟩ := hdr.is
 have hlc : L.length ≤ uc ∧ uc ≤ 9223372036854775807 := by
  obtain ⟨a9, c9, e9, h1, h2, _⟩ := hu
  simp only [Value.slice.injEq] at e9
  obtain ⟨-, -, rfl⟩ := e9
  exact ⟨h1, h2⟩
 have HT := Lib.hid hT
 have HII := Lib.hid hi
 obtain ⟨m, hm⟩ : ∃ m, m = min L.length 300 := ⟨_, rfl⟩
 have hmi : min (L.length : Int) 300 = (m : Int) := by omega
 have hmx : max (m : Int) 0 = (m : Int) := by omega
 have hm0 : (0 : Int) ≤ (m : Int) := by omega
 have hm3 : (m : Int) ≤ 300 := by omega
 have hmc : (m : Int) ≤ (uc : Int) := by omega
 have hnu : (L.length : Int) ≤ (uc : Int) := by omega
 obtain ⟨q, hq, hq2⟩ : ∃ q : Nat, (IntKind.u64.wrap cut).tmod ((m : Int) + 1) = (q : Int) ∧ q ≤ m := by
  rw [Int.tmod_eq_emod_of_nonneg (by rw [IntKind.wrap_u64]; exact Int.emod_nonneg _ (by decide))]
  have h1 := Int.emod_nonneg (IntKind.u64.wrap cut) (b := (m : Int) + 1) (by omega)
  have h2 := Int.emod_lt_of_pos (IntKind.u64.wrap cut) (b := (m : Int) + 1) (by omega)
  exact ⟨(IntKind.u64.wrap cut % ((m : Int) + 1)).toNat, by omega, by omega⟩
 have hqw : wrap64 (q : Int) = (q : Int) := by unfold wrap64; omega
 have HM : Hid (m ≤ 300 ∧ m ≤ L.length ∧ q ≤ m) := Lib.hid ⟨by omega, by omega, hq2⟩
 have CW := Lib.hid fun (W : World) (g : Below w.heap.size w W) (i : Nat) (d : Dd.D) (h : L[i]? = some d) => Jn.write_c v (Bk.sv (R i)) s d W (hT.1.below g) (hs.later g) ((hrv i d h).later g) (hi d (List.mem_of_getElem? h))
 have CP := Lib.hid fun (W : World) (vt : Value) (TS : List Fr.Str) (g : Below w.heap.size w W) (ht : Tx.At W.heap.size W vt TS) (h1 : Jn.tot TS ≤ 4194304) (h2 : TS.length ≤ 1048576) => Jn.replay_c v vt s TS W (hT.below g) (hs.later g) ht h1 h2
 have HH : Hid (∀ i d, L[i]? = some d → ∃ b o, ua = some ⟨b, o, none⟩ ∧ ∀ W, Below w.heap.size w W → W.cell? ⟨b, o + i * 2, none⟩ = some (.bool d.gone) ∧ W.cell? ⟨b, o + i * 2 + 1, none⟩ = some (Bk.sv (R i))) := Lib.hid fun i d hd => by
  rcases hcell with h | ⟨b, o, ha, hb, h⟩
  ·rw [h] at hd; simp at hd
  ·exact ⟨b, o, ha, fun W g => ⟨(g.cell (p := ⟨b, o + i * 2, none⟩) hb).trans (h i d hd).1, (g.cell (p := ⟨b, o + i * 2 + 1, none⟩) hb).trans (h i d hd).2⟩⟩
 obtain ⟨M, hM⟩ : ∃ M, M = L.take m := ⟨_, rfl⟩
 have hMl : M.length = m := by rw [hM, List.length_take]; omega
 have HML := Lib.hid hMl
 have HMX : Hid (∀ i d, M[i]? = some d → L[i]? = some d ∧ i < m) := Lib.hid fun i d h => Jn.min_take (by rw [← hM]; exact h)
 have hxi : ∀ i, i < m → ∃ d, M[i]? = some d := fun i h => ⟨M[i], List.getElem?_eq_getElem (by omega)⟩
 have HXI := Lib.hid hxi
 obtain ⟨va, vc, rfl, -⟩ := id hs.1
 clear hT hm hdr hrv hcell hi hs hu hlc hM hMl hxi hq2
 go_enter Tryz.func5, Tryz.ntmps5
 go_wp2_with fail
 refine (Jn.lives_c w HT.out.1).mono ?_
 rintro e w1 ⟨rfl, g1⟩
 have HB1 := Lib.hid g1
 clear g1
 go_wp2_with fail
 simp only [hqw]
 go_loopw [8, 9, 10] (fun av bv iv wr => ∃ i : Nat, i ≤ m ∧ av = .string (Ty.S (Jn.tx s (M.take (min i q)))) ∧ bv = .string (Ty.S (Jn.tx s ((M.take i).drop q))) ∧ iv = .int .i64 i ∧ Hid (Jn.Ok s (M.take i)) ∧ Below w.heap.size w wr) (fun _ _ iv _ => m - (intOf iv).toNat)
 case atStart => exact ⟨0, Nat.zero_le _, by simp; rfl, by simp; rfl, rfl, Lib.hid (fun d hd => by simp at hd), HB1.out⟩
 case round =>
  obtain ⟨i, him, rfl, rfl, rfl, HOK, hb⟩ := hrel
  have HB := Lib.hid hb
  have di0 : (0 : Int) ≤ (i : Int) := by omega
  by_cases hl : i < m
  ·have dk : (i : Int) < (m : Int) := by omega
   obtain ⟨d, hxm⟩ := HXI.out i hl
   obtain ⟨hx, -⟩ := HMX.out i d hxm
   obtain ⟨b, o, rfl, hc⟩ := HH.out i d hx
   obtain ⟨c0, c1⟩ := hc wr hb
   have CWW := Lib.hid (CW.out wr hb i d hx)
   generalize R i = rk at c1 CWW
   obtain ⟨ra, rn, rc⟩ := rk
   simp only [Bk.sv] at c1 CWW
   have HL := Lib.hid hl
   by_cases h0 : Dd.fitE s d = 0
   ·have hl508 := Jn.wS_le s d
    have HOK2 : Hid (Jn.Ok s (M.take (i + 1))) := Lib.hid (by
     obtain ⟨hk8, e8⟩ := List.getElem?_eq_some_iff.1 hxm
     rw [List.take_succ_eq_append_getElem hk8, e8]
     intro x hx8
     rcases List.mem_append.1 hx8 with h8 | h8
     ·exact HOK.out x h8
     ·rw [List.mem_singleton] at h8
      subst h8
      exact ⟨h0, HII.out x (List.mem_of_getElem? hx)⟩)
    have hwv : Jn.wV s d = .tuple #[.string (Ty.S (Jn.wS s d)), .int .i64 0] := by unfold Jn.wV; rw [h0]
    rw [hwv] at CWW
    have hta : (Jn.tx s (M.take (min i q))).length ≤ 508 * 300 := by
     have := Jn.tx_le (s := s) (L := M.take (min i q)) fun x hx => (HOK.out x (List.mem_of_mem_take (by rw [Nat.min_comm, ← List.take_take] at hx; exact hx))).1
     rw [List.length_take] at this
     omega
    have htb : (Jn.tx s ((M.take i).drop q)).length ≤ 508 * 300 := by
     have := Jn.tx_le (s := s) (L := (M.take i).drop q) fun x hx => (HOK.out x (List.mem_of_mem_drop hx)).1
     rw [List.length_drop, List.length_take] at this
     omega
    by_cases hiq : i < q
    ·obtain ⟨ea, eb1, eb2⟩ := Jn.cut_a (s := s) (k := q) hxm h0 hiq
     have HBB : Hid (Ty.S (Jn.tx s ((M.take (i + 1)).drop q)) = Ty.S (Jn.tx s ((M.take i).drop q))) := Lib.hid (by rw [eb1, eb2])
     have hct : Ty.S (Jn.tx s (M.take (min i q))) ++ Ty.S (Jn.wS s d) = Ty.S (Jn.tx s (M.take (min (i + 1) q))) := by rw [ea]; exact Jn.S_add _ _
     have HCT := Lib.hid hct
     have n1 : ¬ 9223372036854775807 < (Ty.S (Jn.tx s (M.take (min i q)))).size + (Ty.S (Jn.wS s d)).size := by rw [Ty.size_S, Ty.size_S]; omega
     have diq : (i : Int) < (q : Int) := by omega
     generalize Ty.S (Jn.tx s (M.take (min i q))) = X at n1 hct HCT
     generalize Ty.S (Jn.wS s d) = Y at n1 hct HCT CWW
     obtain ⟨S2, hS2⟩ : ∃ S2, S2 = Ty.S (Jn.tx s (M.take (min (i + 1) q))) := ⟨_, rfl⟩
     rw [← hS2] at hct
     have HS2 := Lib.hid hS2
     generalize Ty.S (Jn.tx s ((M.take i).drop q)) = Z at HBB
     clear hc hb hx hxm hl508 hwv hta htb hS2 hl h0 ea eb1 eb2 hiq HCT
     go_wp2_with fail
     refine (CWW.out).mono ?_
     rintro e w4 ⟨rfl, g4⟩
     have HB4 := Lib.hid (HB.out.trans (g4.mono HB.out.size))
     clear g4 c0 c1
     go_wp2
     go_roundw
     case rel => exact ⟨i + 1, HL.out, by rw [HS2.out], by rw [HBB.out], by simp, HOK2, HB4.out⟩
     case measure => (have := HL.out; simp [intOf]; omega)
    ·obtain ⟨ea, eb⟩ := Jn.cut_b (s := s) (k := q) hxm h0 (Nat.le_of_not_lt hiq)
     have HAA : Hid (Ty.S (Jn.tx s (M.take (min (i + 1) q))) = Ty.S (Jn.tx s (M.take (min i q)))) := Lib.hid (by rw [ea])
     have hct : Ty.S (Jn.tx s ((M.take i).drop q)) ++ Ty.S (Jn.wS s d) = Ty.S (Jn.tx s ((M.take (i + 1)).drop q)) := by rw [eb]; exact Jn.S_add _ _
     have n1 : ¬ 9223372036854775807 < (Ty.S (Jn.tx s ((M.take i).drop q))).size + (Ty.S (Jn.wS s d)).size := by rw [Ty.size_S, Ty.size_S]; omega
     have diq : ¬ (i : Int) < (q : Int) := by omega
     generalize Ty.S (Jn.tx s ((M.take i).drop q)) = X at n1 hct
     generalize Ty.S (Jn.wS s d) = Y at n1 hct CWW
     obtain ⟨S2, hS2⟩ : ∃ S2, S2 = Ty.S (Jn.tx s ((M.take (i + 1)).drop q)) := ⟨_, rfl⟩
     rw [← hS2] at hct
     have HS2 := Lib.hid hS2
     generalize Ty.S (Jn.tx s (M.take (min i q))) = Z at HAA
     clear hc hb hx hxm hl508 hwv hta htb hS2 hl h0 ea eb hiq
     go_wp2_with fail
     refine (CWW.out).mono ?_
     rintro e w4 ⟨rfl, g4⟩
     have HB4 := Lib.hid (HB.out.trans (g4.mono HB.out.size))
     clear g4 c0 c1
     go_wp2
     go_roundw
     case rel => exact ⟨i + 1, HL.out, by rw [HAA.out], by rw [HS2.out], by simp, HOK2, HB4.out⟩
     case measure => (have := HL.out; simp [intOf]; omega)
   ·rw [Jn.wV_bad h0] at CWW
    have hne : (Dd.fitE s d != 0) = true := by rw [bne_iff_ne]; exact h0
    generalize Dd.fitE s d = E at CWW hne
    generalize Ty.S (Jn.tx s (M.take (min i q))) = X1
    generalize Ty.S (Jn.tx s ((M.take i).drop q)) = X2
    clear hc hb hx hxm hl h0
    go_wp2_with fail
    refine (CWW.out).mono ?_
    rintro e w4 ⟨rfl, g4⟩
    have HB4 := Lib.hid (HB.out.trans (g4.mono HB.out.size))
    clear g4 c0 c1
    go_wp2
    go_ret
    exact ⟨rfl, HB4.out⟩
  ·obtain rfl : i = m := by omega
   have dk : ¬ (i : Int) < (i : Int) := by omega
   have e1 : M.take i = M := List.take_of_length_le (by rw [HML.out]; exact Nat.le_refl _)
   have e2 : min i q = q := Nat.min_eq_right HM.out.2.2
   have HOM : Hid (Jn.Ok s M) := Lib.hid (by have := HOK.out; rwa [e1] at this)
   rw [e1, e2]
   have hta := Jn.tx_le (s := s) (L := M.take q) fun x hx => (HOM.out x (List.mem_of_mem_take hx)).1
   have htb := Jn.tx_le (s := s) (L := M.drop q) fun x hx => (HOM.out x (List.mem_of_mem_drop hx)).1
   rw [List.length_take] at hta
   rw [List.length_drop] at htb
   have hm9 := HM.out
   have hml := HML.out
   have hcut := Jn.rp_cut HOM.out q
   have hcat : Ty.S (Jn.tx s (M.take q)) ++ Ty.S (Jn.tx s (M.drop q)) = Ty.S (Jn.tx s (M.take q) ++ Jn.tx s (M.drop q)) := Jn.S_add _ _
   have n1 : ¬ 9223372036854775807 < (Ty.S (Jn.tx s (M.take q))).size + (Ty.S (Jn.tx s (M.drop q))).size := by rw [Ty.size_S, Ty.size_S]; omega
   generalize Jn.tx s (M.take q) = A at hta hcut hcat n1 ⊢
   generalize Jn.tx s (M.drop q) = B at htb hcut hcat n1 ⊢
   have CP1 := Lib.hid fun (W : World) (vt : Value) (g : Below w.heap.size w W) (ht : Tx.At W.heap.size W vt [A ++ B]) => CP.out W vt [A ++ B] g ht (by simp [Jn.tot]; omega) (by simp)
   have CP2 := Lib.hid fun (W : World) (vt : Value) (g : Below w.heap.size w W) (ht : Tx.At W.heap.size W vt [A, B]) => CP.out W vt [A, B] g ht (by simp [Jn.tot]; omega) (by simp)
   rw [hcut] at CP1
   generalize Jn.rp s [A, B] = r at CP1 CP2
   obtain ⟨re, rl⟩ := r
   have HBB := Lib.hid hb
   obtain ⟨X3, hX3⟩ : ∃ X3, X3 = Ty.S (A ++ B) := ⟨_, rfl⟩
   rw [← hX3] at hcat
   have HO1 : Hid (∀ W : World, Tx.At (W.alloc (.cells #[.string X3] 9)).heap.size (W.alloc (.cells #[.string X3] 9)) (.slice (some ⟨W.heap.size, 0, none⟩) 1 1) [A ++ B]) := Lib.hid fun W => by rw [hX3]; exact Jn.at_one W _
   have HO2 : Hid (∀ W : World, Tx.At (W.alloc (.cells #[.string (Ty.S A), .string (Ty.S B)] 9)).heap.size (W.alloc (.cells #[.string (Ty.S A), .string (Ty.S B)] 9)) (.slice (some ⟨W.heap.size, 0, none⟩) 2 2) [A, B]) := Lib.hid fun W => Jn.at_two W _ _
   generalize Ty.S A = SA at hcat n1 HO2 ⊢
   generalize Ty.S B = SB at hcat n1 HO2 ⊢
   clear hX3 hcut hta htb hm9 hml e1 e2 hb hl him
   go_wp2_with fail
   refine (CP1.out _ _ (HBB.out.alloc HBB.out.size _) (HO1.out wr)).mono ?_
   rintro e w3 ⟨p, rfl, hp, g3⟩
   have HP := Lib.hid hp
   have HG3 := Lib.hid ((HBB.out.alloc HBB.out.size _).trans (g3.mono (HBB.out.alloc HBB.out.size _).size))
   clear hp g3
   go_wp2_with fail
   refine (CP2.out _ _ (HG3.out.alloc HG3.out.size _) (HO2.out w3)).mono ?_
   rintro e w5 ⟨p2, rfl, hp2, g5⟩
   have HP5 := Lib.hid (HP.out.later (((Below.refl _ w3).alloc (Nat.le_refl _) (.cells #[.string SA, .string SB] 9)).trans (g5.mono (by rw [World.size_alloc]; omega))))
   have HG5 := Lib.hid ((HG3.out.alloc HG3.out.size _).trans (g5.mono (HG3.out.alloc HG3.out.size _).size))
   have CS := Lib.hid (Bk.rsame_c p p2 rl w5 HP5.out hp2)
   obtain ⟨_, _, rfl, -⟩ := HP5.out
   obtain ⟨_, _, rfl, -⟩ := hp2
   clear g5 HP
   go_wp2_with fail
   refine CS.out.mono ?_
   rintro e w6 ⟨rfl, g6⟩
   have HG6 := Lib.hid (HG5.out.trans (g6.mono HG5.out.size))
   clear g6
   go_wp2
   go_ret
   exact ⟨rfl, HG6.out⟩
end
section
open Go.RowKit Go.ChangeShapes Go.WideShapes Go.ChangeAt Go.Deep
def Bk.In (x : Kn.V) : Prop := Kn.Z x ∧ Ty.I64 x.n
section
variable {H : Type} {enc : TypeId × Value → H} {W : World}
theorem Bk.wa {P : Program} {e : TypeId} {d : DataW H} {n : Nat} : ∀ {l : List (DataW H)}, d ∈ l → n ∈ d.weights P e → n ∈ DataW.weightsAll P e l
 | x :: l, hd, hn => by
   rw [DataW.weightsAll, List.mem_append]
   rcases List.mem_cons.1 hd with rfl | hd
   ·exact .inl hn
   ·exact .inr (Bk.wa hd hn)
set_option maxRecDepth 100000 in
theorem Bk.open_row {fuel : Nat} {c1 : Value} {z : DataW H × List MemPlace} (h : DataW.trod enc Tryz.prog W 0 (fun _ => true) true fuel 24 [c1] = some z)
 (hs : ∀ n ∈ z.1.weights Tryz.prog 24, n ≤ reachBytes) : ∃ l : List Kn.V, Kn.Vals W c1 l ∧ ∀ x ∈ l, Bk.In x := by
 have hC : Tryz.prog.cellsOf 43 = 3 := by kernel_rfl
 have hB : Tryz.prog.bytesOf 43 = 32 := by kernel_rfl
 rcases open_slice Tryz.underlying24 h with ⟨hcs, hx⟩ | ⟨a, len, cap, m, n, D, Pl, hcs, _, hl, hm, hmm, hx, hi⟩
 ·obtain rfl : c1 = .slice none 0 0 := by simpa using hcs
  exact ⟨[], ⟨none, 0, rfl, .inl rfl⟩, fun x hx => by cases hx⟩
 ·obtain rfl : c1 = .slice (some a) len cap := by simpa using hcs
  simp only [if_true] at hmm
  by_cases hz : len = 0
  ·subst hz
   exact ⟨[], ⟨some a, cap, rfl, .inl rfl⟩, fun x hx => by cases hx⟩
  ·have hz1 : z.1 = .slice ((List.range len).map D) ((List.range (m - len)).map fun j => D (len + j)) := by rw [hx]
   rw [hz1] at hs
   simp only [DataW.weights, Tryz.underlying24, List.mem_cons, List.mem_append] at hs
   have hcap := hs _ (.inl rfl)
   simp only [List.length_map, List.length_range, hB, reachBytes] at hcap
   have hstr : ∀ i, i < len → ∀ q, q ∈ (D i).weights Tryz.prog 43 → q ≤ reachBytes := fun i hil q hq =>
    hs q (.inr (.inl (Bk.wa (List.mem_map.2 ⟨i, List.mem_range.2 hil, rfl⟩) hq)))
   rw [hC] at hi
   have hone : ∀ i, i < len → ∃ x : Kn.V, (W.cell? (a.add (i * 3)) = some (.bool x.null) ∧ W.cell? (a.add (i * 3 + 1)) = some (.int .i64 x.n) ∧ W.cell? (a.add (i * 3 + 2)) = some (.string x.s)) ∧ Bk.In x := fun i hil => by
    obtain ⟨cs', hc, ht⟩ := hi i (by omega)
    obtain ⟨x, hxc, hd⟩ := Kn.open_cells ht
    obtain ⟨y, hyc, hy64⟩ := Cl.open_cells ht
    have hxy : Ty.I64 x.n := by
     rw [hxc] at hyc
     simp only [List.cons.injEq, Value.int.injEq, true_and] at hyc
     rw [hyc.2.1]
     exact hy64
    subst hxc
    clear hyc
    obtain ⟨_, _, hat⟩ := World.cells?_some hc
    have a0 := hat 0 (by omega)
    have a1 := hat 1 (by omega)
    have a2 := hat 2 (by omega)
    rw [add_add] at a0 a1 a2
    refine ⟨x, ⟨a0, a1, a2⟩, ?_, hxy⟩
    have h1 := hstr i hil x.s.size (by
     rw [show D i = Kn.rd x from hd]
     unfold Kn.rd
     simp only [DataW.weights, Tryz.underlying43]
     show x.s.size ∈ DataW.weightsEach Tryz.prog [4, 2, 9] [.lit (.bool x.null), .lit (.int .i64 x.n), .lit (.string x.s.data.toList)]
     simp [DataW.weightsEach, DataW.weights])
    unfold reachBytes at h1
    unfold Kn.Z
    omega
   obtain ⟨b, off, spot⟩ := a
   have hspot : spot = none := by
    obtain ⟨x, ⟨h0, _⟩, _⟩ := hone 0 (by omega)
    simpa [Addr.add] using World.cell?_spot h0
   subst hspot
   have hlt : b < W.heap.size := by
    obtain ⟨x, ⟨h0, _⟩, _⟩ := hone 0 (by omega)
    have := World.block_lt_of_cell? W _ h0
    simpa [Addr.add] using this
   have hch : ∃ f : Nat → Kn.V, ∀ i, i < len → Kn.At W b (off + i * 3) (f i) ∧ Bk.In (f i) := by
    have hone' : ∀ i, i < len → ∃ x : Kn.V, Kn.At W b (off + i * 3) x ∧ Bk.In x := fun i hil => by
     obtain ⟨x, ⟨h0, h1, h2⟩, h3⟩ := hone i hil
     rw [add_plain] at h0 h1 h2
     rw [← Nat.add_assoc] at h1 h2
     exact ⟨x, ⟨h0, h1, h2⟩, h3⟩
    refine ⟨fun i => if hil : i < len then (hone' i hil).choose else ⟨false, 0, ⟨#[]⟩⟩, fun i hil => ?_⟩
    have hs := (hone' i hil).choose_spec
    simp only [dif_pos hil]
    exact hs
   obtain ⟨f, hf'⟩ := hch
   have hlen : ((List.range len).map f).length = len := by simp
   refine ⟨(List.range len).map f, ⟨some ⟨b, off, none⟩, cap, by rw [hlen], .inr ⟨b, off, rfl, hlt, by rw [hlen]; omega, fun i x hix => ?_⟩⟩, fun x hx => ?_⟩
   ·rw [List.getElem?_map, Option.map_eq_some_iff] at hix
    obtain ⟨i', hi', rfl⟩ := hix
    obtain ⟨hil, rfl⟩ := List.getElem?_eq_some_iff.1 hi'
    rw [List.getElem_range]
    rw [List.length_range] at hil
    exact (hf' i hil).1
   ·obtain ⟨i, hi, rfl⟩ := List.mem_map.1 hx
    exact (hf' i (List.mem_range.1 hi)).2
set_option maxRecDepth 100000 in
theorem Bk.open_deed_cells {fuel : Nat} {cs : List Value} {z : DataW H × List MemPlace} (h : DataW.trod enc Tryz.prog W 0 (fun _ => true) true fuel 26 cs = some z)
 (hs : ∀ n ∈ z.1.weights Tryz.prog 26, n ≤ reachBytes) : ∃ (x : Dd.D) (u : Value), cs = [.bool x.gone, u] ∧ Kn.Vals W u x.row ∧ ∀ y ∈ x.row, Bk.In y := by
 obtain ⟨xs, f', _, hx, hcl, hxl, hg⟩ := DataW.trod_struct Tryz.underlying26 h
 have hC : Tryz.prog.cellsOf 26 = 2 := by kernel_rfl
 have i3 : Tryz.prog.cellsOf 4 = 1 := by kernel_rfl
 have ir : Tryz.prog.cellsOf 24 = 1 := by kernel_rfl
 rw [hC] at hcl
 match cs, hcl, xs, hxl with
 | [c0, c1], _, [y0, y1], _ =>
   have g0 : DataW.trod enc Tryz.prog W 0 (fun _ => true) true f' 4 ((List.drop 0 [c0, c1]).take (Tryz.prog.cellsOf 4)) = some y0 := hg 0 _ rfl
   have g1 : DataW.trod enc Tryz.prog W 0 (fun _ => true) true f' 24 ((List.drop 1 [c0, c1]).take (Tryz.prog.cellsOf 24)) = some y1 := hg 1 _ rfl
   rw [i3] at g0
   rw [ir] at g1
   obtain ⟨k, e0, r0⟩ := DataW.trod_bool Tryz.underlying4 (show DataW.trod enc Tryz.prog W 0 (fun _ => true) true f' 4 [c0] = some y0 from g0)
   have g1 : DataW.trod enc Tryz.prog W 0 (fun _ => true) true f' 24 [c1] = some y1 := g1
   simp only [List.cons.injEq, and_true] at e0
   subst e0
   obtain ⟨l, hl, hin⟩ := Bk.open_row g1 fun n hn => hs n (by
    have hz : z.1 = .agg [y0.1, y1.1] := by rw [hx]; rfl
    rw [hz]
    simp only [DataW.weights, Tryz.underlying26]
    show n ∈ DataW.weightsEach Tryz.prog [4, 24] [y0.1, y1.1]
    simp only [DataW.weightsEach, List.append_nil, List.mem_append]
    exact .inr hn)
   exact ⟨⟨k, l⟩, c1, rfl, hl, hin⟩
theorem Bk.fits {ts : List TypeId} {ds : List (DataW H)} (h : (DataW.weightsEach Tryz.prog ts ds).all (· ≤ reachBytes) = true) {j : Nat} {t : TypeId} {d : DataW H} (ht : ts[j]? = some t) (hd : ds[j]? = some d) : ∀ n ∈ d.weights Tryz.prog t, n ≤ reachBytes :=
 fun n hn => of_decide_eq_true (List.all_eq_true.1 h n (DataW.weights_mem_each ht hd _ hn))
set_option maxRecDepth 100000 in
theorem Bk.open_deeds {ts : List TypeId} {ds : List (DataW H)} (hsz : (DataW.weightsEach Tryz.prog ts ds).all (· ≤ reachBytes) = true) {j : Nat} {v : Value} {d : DataW H} {ps : List MemPlace} {r : Reach} {b0 : Nat}
 (ht : ts[j]? = some 28) (hd : ds[j]? = some d) (hv : Value.okWide Tryz.prog W r b0 28 v) (h : DataW.Trod enc Tryz.prog W 0 (fun _ => true) true 28 v d ps) :
 ∃ L : List Dd.D, Bk.Ds W v L ∧ Bk.Zs L ∧ ∀ d ∈ L, ∀ x ∈ d.row, Ty.I64 x.n := by
 obtain ⟨a0, len0, cap0, rfl⟩ := okWide_slice Tryz.underlying28 hv
 obtain ⟨fuel, hf⟩ := h
 have hs := Bk.fits hsz ht hd
 have hC : Tryz.prog.cellsOf 26 = 2 := by kernel_rfl
 rcases open_slice Tryz.underlying28 hf with ⟨hcs, hx⟩ | ⟨a, len, cap, m, n, D, Pl, hcs, _, hl, hm, hmm, hx, hi⟩
 ·have hv : Value.slice a0 len0 cap0 = .slice none 0 0 := by simpa [Value.cells] using hcs
  exact ⟨[], ⟨none, 0, hv, Nat.le_refl _, by decide, .inl rfl⟩, (fun x hx => by cases hx), fun x hx => by cases hx⟩
 ·have hv : Value.slice a0 len0 cap0 = .slice (some a) len cap := by simpa [Value.cells] using hcs
  rw [hv]
  simp only [if_true] at hmm
  have hm' : cap ≤ 9223372036854775807 := by unfold maxLen at hm; omega
  by_cases hz : len = 0
  ·subst hz
   exact ⟨[], ⟨some a, cap, rfl, Nat.zero_le _, hm', .inl rfl⟩, (fun x hx => by cases hx), fun x hx => by cases hx⟩
  ·have hz1 : d = .slice ((List.range len).map D) ((List.range (m - len)).map fun j => D (len + j)) := by
    have := congrArg Prod.fst hx
    exact this
   rw [hz1] at hs
   simp only [DataW.weights, Tryz.underlying28, List.mem_cons, List.mem_append] at hs
   have hstr : ∀ i, i < len → ∀ q, q ∈ (D i).weights Tryz.prog 26 → q ≤ reachBytes := fun i hil q hq =>
    hs q (.inr (.inl (Bk.wa (List.mem_map.2 ⟨i, List.mem_range.2 hil, rfl⟩) hq)))
   rw [hC] at hi
   have hone : ∀ i, i < len → ∃ (x : Dd.D) (u : Value), (W.cell? (a.add (i * 2)) = some (.bool x.gone) ∧ W.cell? (a.add (i * 2 + 1)) = some u) ∧ Kn.Vals W u x.row ∧ ∀ y ∈ x.row, Bk.In y := fun i hil => by
    obtain ⟨cs', hc, ht⟩ := hi i (by omega)
    obtain ⟨x, u, rfl, hg⟩ := Bk.open_deed_cells ht (hstr i hil)
    obtain ⟨_, _, hat⟩ := World.cells?_some hc
    have a0 := hat 0 (by omega)
    have a1 := hat 1 (by omega)
    rw [add_add] at a0 a1
    exact ⟨x, u, ⟨a0, a1⟩, hg⟩
   obtain ⟨b, off, spot⟩ := a
   have hspot : spot = none := by
    obtain ⟨x, u, ⟨h0, _⟩, _⟩ := hone 0 (by omega)
    simpa [Addr.add] using World.cell?_spot h0
   subst hspot
   have hlt : b < W.heap.size := by
    obtain ⟨x, u, ⟨h0, _⟩, _⟩ := hone 0 (by omega)
    have := World.block_lt_of_cell? W _ h0
    simpa [Addr.add] using this
   have hch : ∃ f : Nat → Dd.D, ∀ i, i < len → ∃ u, (W.cell? ⟨b, off + i * 2, none⟩ = some (.bool (f i).gone) ∧ W.cell? ⟨b, off + i * 2 + 1, none⟩ = some u) ∧ Kn.Vals W u (f i).row ∧ ∀ y ∈ (f i).row, Bk.In y := by
    have hone' : ∀ i, i < len → ∃ x : Dd.D, ∃ u, (W.cell? ⟨b, off + i * 2, none⟩ = some (.bool x.gone) ∧ W.cell? ⟨b, off + i * 2 + 1, none⟩ = some u) ∧ Kn.Vals W u x.row ∧ ∀ y ∈ x.row, Bk.In y := fun i hil => by
     obtain ⟨x, u, ⟨h0, h1⟩, h3⟩ := hone i hil
     rw [add_plain] at h0 h1
     rw [← Nat.add_assoc] at h1
     exact ⟨x, u, ⟨h0, h1⟩, h3⟩
    refine ⟨fun i => if hil : i < len then (hone' i hil).choose else ⟨false, []⟩, fun i hil => ?_⟩
    have hs := (hone' i hil).choose_spec
    simp only [dif_pos hil]
    exact hs
   obtain ⟨f, hf'⟩ := hch
   have hlen : ((List.range len).map f).length = len := by simp
   have hall : ∀ d ∈ (List.range len).map f, ∀ y ∈ d.row, Bk.In y := fun d hd => by
    obtain ⟨i, hi, rfl⟩ := List.mem_map.1 hd
    obtain ⟨_, _, _, h⟩ := hf' i (List.mem_range.1 hi)
    exact h
   refine ⟨(List.range len).map f, ⟨some ⟨b, off, none⟩, cap, by rw [hlen], by rw [hlen]; exact hl, hm', .inr ⟨b, off, rfl, hlt, fun i x hix => ?_⟩⟩, fun d hd y hy => (hall d hd y hy).1, fun d hd y hy => (hall d hd y hy).2⟩
   rw [List.getElem?_map, Option.map_eq_some_iff] at hix
   obtain ⟨i', hi', rfl⟩ := hix
   obtain ⟨hil, rfl⟩ := List.getElem?_eq_some_iff.1 hi'
   rw [List.getElem_range]
   rw [List.length_range] at hil
   obtain ⟨u, ⟨h0, h1⟩, h2, _⟩ := hf' i hil
   exact ⟨u, h0, h1, h2⟩
end
end
end Go.Proofs.YtkhiemkekmdhgaaGreatDoor
