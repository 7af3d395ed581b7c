/-
  
  
  
-/
import Derived.Test.YtbelkhkllneifaaGreatDoorWBAG
import Derived.LoopTactic
import Derived.RegionCalls
import Derived.Deep.RegionWith
import Derived.Test.YtbelkhkllneifaaGreatDoorWBAA
import Derived.Test.YtbelkhkllneifaaGreatDoorWBAD
import Derived.Test.YtbelkhkllneifaaGreatDoorWBAF
namespace Go.Proofs.YtbelkhkllneifaaGreatDoor
open Go.RowKit
open Ty (encU num)
theorem Tx.buf_one {base : Nat} {w : World} (k : Nat) (hk : k < 256) (hb : base ≤ w.heap.size) : Ty.Buf base (w.alloc (.cells #[.int .u8 (k : Int)] 5)) (.slice (some ⟨w.heap.size, 0, none⟩) 1 1) [UInt8.ofNat k] := by
 refine ⟨by simp, .inr ⟨w.heap.size, 1, _, rfl, hb, heap_alloc_new w _, Nat.le_refl _, by unfold maxLen; omega, by simp, ?_⟩⟩
 have := Ty.toNat_ofNat8 k hk
 simp [Ty.B, this]
theorem Tx.one_str (q : Nat) (hq : q < 256) (wz : World) : (convert 118 9 (.slice (some ⟨wz.heap.size, 0, none⟩) 1 1)).run Tryz.prog (wz.alloc (.cells #[.int .u8 (q : Int)] 5)) = .ok (.string (Ty.S [UInt8.ofNat q])) (wz.alloc (.cells #[.int .u8 (q : Int)] 5)) :=
 (Tx.buf_one (base := wz.heap.size) q hq (Nat.le_refl _)).str
theorem Tx.one_str2 (q : Nat) (hq : q < 256) (wz wy : World) (g : Below (wz.alloc (.cells #[.int .u8 (q : Int)] 5)).heap.size (wz.alloc (.cells #[.int .u8 (q : Int)] 5)) wy) : (convert 118 9 (.slice (some ⟨wz.heap.size, 0, none⟩) 1 1)).run Tryz.prog wy = .ok (.string (Ty.S [UInt8.ofNat q])) wy :=
 ((Tx.buf_one (base := wz.heap.size) q hq (Nat.le_refl _)).later g).str
theorem Tx.one_str3 (q : Nat) (hq : q < 256) (wz wy : World) (g : Below (wz.alloc (.cells #[.int .u8 (q : Int)] 5)).drew.heap.size (wz.alloc (.cells #[.int .u8 (q : Int)] 5)).drew wy) : (convert 118 9 (.slice (some ⟨wz.heap.size, 0, none⟩) 1 1)).run Tryz.prog wy = .ok (.string (Ty.S [UInt8.ofNat q])) wy :=
 Tx.one_str2 q hq wz wy ((Below.refl _ _).drew.trans g)
theorem Tx.one_str5 (q : Nat) (hq : q < 256) (wz : World) : (convert 118 9 (.slice (some ⟨wz.heap.size, 0, none⟩) 1 1)).run Tryz.prog (wz.alloc (.cells #[.int .u8 (q : Int)] 5)).drew = .ok (.string (Ty.S [UInt8.ofNat q])) (wz.alloc (.cells #[.int .u8 (q : Int)] 5)).drew :=
 Tx.one_str2 q hq wz _ (Below.refl _ _).drew
theorem Tx.one_str4 (q : Nat) (hq : q < 256) (wz wy : World) (g : Below (wz.drew.alloc (.cells #[.int .u8 (q : Int)] 5)).heap.size (wz.drew.alloc (.cells #[.int .u8 (q : Int)] 5)) wy) : (convert 118 9 (.slice (some ⟨wz.heap.size, 0, none⟩) 1 1)).run Tryz.prog wy = .ok (.string (Ty.S [UInt8.ofNat q])) wy :=
 Tx.one_str2 q hq wz.drew wy g
theorem Tx.S_add (a b : List UInt8) : Ty.S a ++ Ty.S b = Ty.S (a ++ b) := ByteArray.mk_append_mk a b
theorem Tx.len_encT {t : Tx.Str} (h : t.length ≤ 64) : (Tx.encT t).length ≤ 73 := by
 have := Ty.encU_len9 t.length
 unfold Tx.encT
 rw [List.length_append]
 omega
theorem Tx.len_flat : ∀ (L : List Tx.Str), (∀ t ∈ L, t.length ≤ 64) → (L.flatMap Tx.encT).length ≤ 73 * L.length
 | [], _ => by simp
 | t :: L, h => by
   have h1 := Tx.len_encT (h t (by simp))
   have h2 := Tx.len_flat L fun x hx => h x (by simp [hx])
   rw [List.flatMap_cons, List.length_append, List.length_cons]
   omega
theorem Tx.flat_next {L : List Tx.Str} {j : Nat} (h : j < L.length) : (L.take (j + 1)).flatMap Tx.encT = (L.take j).flatMap Tx.encT ++ Tx.encT (L.getD j []) := by
 rw [List.take_succ_eq_append_getElem h, List.flatMap_append, List.getD, List.getElem?_eq_getElem h]
 simp
theorem Tx.rtext_x (t : Tx.Str) (h : t.length ≤ 64) (w : World) : Calls Tryz.prog 76 #[.string (Ty.S t)] w fun e w' => e = .returned (.string (Ty.S (Tx.encT t))) ∧ Below w.heap.size w w' :=
 Ty.rtext_c (Ty.S t) (show t.length ≤ _ by omega) w
set_option maxHeartbeats 1000000 in
set_option maxRecDepth 100000 in
theorem Tx.rwith_good (u : Value) (L : List Tx.Str) (k : Nat) (hk : k ≤ 1) (w : World) (hL : Tx.At w.heap.size w u L) (h64 : ∀ t ∈ L, t.length ≤ 64) (hl : L.length ≤ 65536) :
 Calls Tryz.prog 148 #[u, .int .i64 k] w fun e w' => e = .returned (.tuple #[.string (Ty.S (Tx.enc k L)), .int .i64 0]) ∧ Below w.heap.size w w' := by
 have HE : Hid (Tx.enc k L = (UInt8.ofNat k :: encU L.length) ++ Tx.body k L) := Lib.hid (by unfold Tx.enc; simp)
 have HL := Lib.hid hL
 have HI := Lib.hid h64
 have hn2 : ¬ (65536 : Int) < (L.length : Int) := by omega
 have hn6 : (L.length : Int) ≤ 65536 := by omega
 have hn0 : (0 : Int) ≤ (L.length : Int) := by omega
 obtain ⟨a, c, rfl, hc, _, h⟩ := hL
 have HC := Lib.hid h
 have hk0 : (0 : Int) ≤ (k : Int) := by omega
 have hk3 : (k : Int) ≤ 1 := by omega
 obtain ⟨A, hA⟩ : ∃ A, A = Ty.S (encU L.length) := ⟨_, rfl⟩
 have hA9 : A.size ≤ 9 := by rw [hA]; exact Ty.encU_len9 _
 obtain ⟨B, hB⟩ : ∃ B, B = Ty.S [UInt8.ofNat k] := ⟨_, rfl⟩
 have hB9 : B.size ≤ 1 := by rw [hB]; exact Nat.le_refl _
 have n1 : ¬ 9223372036854775807 < B.size + A.size := by omega
 have hwn : IntKind.u64.wrap (L.length : Int) = (L.length : Int) := by rw [IntKind.wrap_u64]; omega
 have CU : Hid (∀ wz, Calls Tryz.prog 40 #[.int .u64 (L.length : Int)] wz fun e w' => e = .returned (.string A) ∧ Below wz.heap.size wz w') := Lib.hid fun wz => by rw [hA]; exact Ty.ruint_nat L.length wz
 have CV : Hid (∀ wz, Calls Tryz.prog 40 #[.int .u64 (IntKind.u64.wrap (L.length : Int))] wz fun e w' => e = .returned (.string A) ∧ Below wz.heap.size wz w') := Lib.hid fun wz => by rw [hwn]; exact CU.out wz
 have one1 := Tx.one_str k (by omega)
 have ONE2 := Lib.hid (Tx.one_str3 k (by omega))
 have ONE4 := Lib.hid (Tx.one_str4 k (by omega))
 have one5 := Tx.one_str5 k (by omega)
 rw [← hB] at one1 ONE2 ONE4 one5
 have ONE1 := Lib.hid one1
 have ONE5 := Lib.hid one5
 have HD : Hid (B ++ A = Ty.S (UInt8.ofNat k :: encU L.length)) := Lib.hid (by rw [hA, hB, Tx.S_add]; rfl)
 have h9 := Ty.encU_len9 L.length
 obtain ⟨D, hD⟩ : ∃ D, D = UInt8.ofNat k :: encU L.length := ⟨_, rfl⟩
 have hDl : D.length ≤ 10 := by rw [hD, List.length_cons]; omega
 rw [HE.out, ← hD]
 rw [← hD] at HD
 clear h h64 one1 one5 hwn hA hB hD h9 HE
 go_enter Tryz.func148, Tryz.ntmps148
 have hks : (((k : Int) != 0) = false ∧ ((k : Int) == 1) = false ∧ ((k : Int) == 0) = true ∧ Hid (k = 0)) ∨ (((k : Int) != 0) = true ∧ ((k : Int) != 1) = false ∧ ((k : Int) == 1) = true ∧ ((k : Int) == 0) = false ∧ Hid (k = 1)) := by
  rcases (by omega : k = 0 ∨ k = 1) with rfl | rfl
  ·exact .inl ⟨rfl, rfl, rfl, Lib.hid rfl⟩
  ·exact .inr ⟨rfl, rfl, rfl, rfl, Lib.hid rfl⟩
 rcases hks with ⟨k1, k2, k3, HK⟩ | ⟨k1, k4, k2, k3, HK⟩
 ·go_wp2_with fail
  go_loopw [6] (fun i wr => ∃ j : Nat, j ≤ L.length ∧ i = .int .i64 j ∧ w = wr) (fun i _ => L.length - (intOf i).toNat)
  case atStart => exact ⟨0, by omega, rfl, rfl⟩
  case round =>
   obtain ⟨j, hj, rfl, rfl⟩ := hrel
   by_cases hjl : j < L.length
   ·rcases HC.out with h | ⟨b, o, rfl, hlt, h⟩
    ·exact absurd hjl (by rw [h.1]; simp)
    have hc1 := h j hjl
    unfold Tx.sv at hc1
    have hji : (j : Int) < (L.length : Int) := by omega
    have hj0 : (0 : Int) ≤ (j : Int) := by omega
    have hsz : ¬ (64 : Int) < ((Ty.S (L.getD j [])).size : Int) := by
     have := HI.out (L.getD j []) (by rw [List.getD, List.getElem?_eq_getElem hjl]; exact List.getElem_mem _)
     rw [Ty.size_S]
     omega
    generalize Ty.S (L.getD j []) = s at hc1 hsz
    clear h
    go_wp2
    go_roundw
    case rel => exact ⟨j + 1, by omega, by simp, by simp⟩
    case measure => simp [intOf]; omega
   ·obtain rfl : j = L.length := by omega
    have hji : ¬ (L.length : Int) < (L.length : Int) := by omega
    go_wp2_with fail
    go_cut [7] (fun s6 wx => s6 = .string (Ty.S D) ∧ Below w.heap.size w wx)
    case first =>
     have hw8 : IntKind.u8.wrap (k : Int) = (k : Int) := by rw [IntKind.wrap_u8]; omega
     have one1 := ONE1.out
     have one5 := ONE5.out
     go_region_with (first
      | (go_at_call 40; (with_reducible refine (CU.out _).mono ?_); rintro e wz ⟨rfl, gz⟩; have hcv := ONE2.out _ _ gz)
      | (go_at_call 40; (with_reducible refine (CU.out _).mono ?_); rintro e wz ⟨rfl, gz⟩; have hcv := ONE4.out _ _ gz)
      | (go_at_call 40; (with_reducible refine (CU.out _).mono ?_); rintro e wz ⟨rfl, gz⟩)
      | (go_at_call 40; (with_reducible refine (CV.out _).mono ?_); rintro e wz ⟨rfl, gz⟩; have hcv := ONE2.out _ _ gz)
      | (go_at_call 40; (with_reducible refine (CV.out _).mono ?_); rintro e wz ⟨rfl, gz⟩; have hcv := ONE4.out _ _ gz)
      | (go_at_call 40; (with_reducible refine (CV.out _).mono ?_); rintro e wz ⟨rfl, gz⟩))
     all_goals
      try clear hcv
      clear one1 one5 hw8
      first
       | have hbe : Below w.heap.size w wz := ((Below.refl _ w).drew.trans gz)
       | have hbe : Below w.heap.size w wz := (((Below.refl _ w).alloc (Nat.le_refl _) _).drew.trans (gz.mono (by simp)))
       | have hbe : Below w.heap.size w wz := (((Below.refl _ w).drew.alloc (Nat.le_refl _) _).trans (gz.mono (by simp)))
      go_wp2_with fail
      go_meet
      first
       | exact ⟨by rw [← HD.out], hbe⟩
       | exact ⟨by rw [← HD.out], hbe.alloc hbe.size _⟩
    case rest =>
     obtain ⟨rfl, hb⟩ := hcut
     have HB := Lib.hid hb
     have hat := HL.out.below hb
     have hbs := hb.size
     have HAT := Lib.hid hat
     clear hb hat
     go_wp2_with fail
     have HBD : Hid (Tx.body k L = L.flatMap Tx.encT) := Lib.hid (by unfold Tx.body; rw [if_pos HK.out])
     go_loopw [7, 9] (fun s i wr => ∃ j : Nat, j ≤ L.length ∧ i = .int .i64 j ∧ s = .string (Ty.S (D ++ (L.take j).flatMap Tx.encT)) ∧ Below w.heap.size w wr) (fun _ i _ => L.length - (intOf i).toNat)
     case atStart => exact ⟨0, by omega, rfl, by simp, HB.out⟩
     case round =>
      obtain ⟨j, hj, rfl, rfl, hb2⟩ := hrel
      have HB2 := Lib.hid hb2
      have hbs2 := hb2.size
      clear hb2
      by_cases hjl : j < L.length
      ·rcases HC.out with h | ⟨b, o, rfl, hlt, h⟩
       ·exact absurd hjl (by rw [h.1]; simp)
       have hc1 := (HB2.out.cell (p := ⟨b, o + j, none⟩) hlt).trans (h j hjl)
       unfold Tx.sv at hc1
       have hji : (j : Int) < (L.length : Int) := by omega
       have hj0 : (0 : Int) ≤ (j : Int) := by omega
       have hI := HI.out (L.getD j []) (by rw [List.getD, List.getElem?_eq_getElem hjl]; exact List.getElem_mem _)
       have HN : Hid ((L.take (j + 1)).flatMap Tx.encT = (L.take j).flatMap Tx.encT ++ Tx.encT (L.getD j [])) := Lib.hid (Tx.flat_next hjl)
       have hln := Tx.len_flat (L.take j) (fun x hx => HI.out x (List.mem_of_mem_take hx))
       have hlt2 : (L.take j).length ≤ j := List.length_take_le _ _
       have cT := Tx.rtext_x (L.getD j []) hI wr
       obtain ⟨T, hT⟩ : ∃ T, T = Ty.S (D ++ (L.take j).flatMap Tx.encT) := ⟨_, rfl⟩
       have hT9 : T.size ≤ 4784138 := by rw [hT, Ty.size_S, List.length_append]; omega
       obtain ⟨Z, hZ⟩ : ∃ Z, Z = Ty.S (Tx.encT (L.getD j [])) := ⟨_, rfl⟩
       have hZ9 : Z.size ≤ 73 := by rw [hZ]; exact Tx.len_encT hI
       have HF : Hid (T ++ Z = Ty.S (D ++ (L.take (j + 1)).flatMap Tx.encT)) := Lib.hid (by
        rw [hT, hZ, Tx.S_add, HN.out]
        simp)
       rw [← hT]
       rw [← hZ] at cT
       generalize Ty.S (L.getD j []) = x at hc1 cT
       clear h hln hlt2 hT hZ hI
       go_wp2_with fail
       refine cT.mono ?_
       rintro e w3 ⟨rfl, g3⟩
       have HB3 := Lib.hid (HB2.out.trans (g3.mono hbs2))
       clear cT g3
       go_wp2
       go_roundw
       case rel => exact ⟨j + 1, by omega, by simp, by rw [← HF.out], HB3.out⟩
       case measure => simp [intOf]; omega
      ·obtain rfl : j = L.length := by omega
       have hji : ¬ (L.length : Int) < (L.length : Int) := by omega
       go_wp2
       go_ret2
       exact ⟨by rw [HBD.out]; rfl, HB2.out⟩
 ·go_wp2_with fail
  go_loopw [6] (fun i wr => ∃ j : Nat, j ≤ L.length ∧ i = .int .i64 j ∧ w = wr) (fun i _ => L.length - (intOf i).toNat)
  case atStart => exact ⟨0, by omega, rfl, rfl⟩
  case round =>
   obtain ⟨j, hj, rfl, rfl⟩ := hrel
   by_cases hjl : j < L.length
   ·rcases HC.out with h | ⟨b, o, rfl, hlt, h⟩
    ·exact absurd hjl (by rw [h.1]; simp)
    have hc1 := h j hjl
    unfold Tx.sv at hc1
    have hji : (j : Int) < (L.length : Int) := by omega
    have hj0 : (0 : Int) ≤ (j : Int) := by omega
    have hsz : ¬ (64 : Int) < ((Ty.S (L.getD j [])).size : Int) := by
     have := HI.out (L.getD j []) (by rw [List.getD, List.getElem?_eq_getElem hjl]; exact List.getElem_mem _)
     rw [Ty.size_S]
     omega
    generalize Ty.S (L.getD j []) = s at hc1 hsz
    clear h
    go_wp2
    go_roundw
    case rel => exact ⟨j + 1, by omega, by simp, by simp⟩
    case measure => simp [intOf]; omega
   ·obtain rfl : j = L.length := by omega
    have hji : ¬ (L.length : Int) < (L.length : Int) := by omega
    go_wp2_with fail
    go_cut [7] (fun s6 wx => s6 = .string (Ty.S D) ∧ Below w.heap.size w wx)
    case first =>
     have hw8 : IntKind.u8.wrap (k : Int) = (k : Int) := by rw [IntKind.wrap_u8]; omega
     have one1 := ONE1.out
     have one5 := ONE5.out
     go_region_with (first
      | (go_at_call 40; (with_reducible refine (CU.out _).mono ?_); rintro e wz ⟨rfl, gz⟩; have hcv := ONE2.out _ _ gz)
      | (go_at_call 40; (with_reducible refine (CU.out _).mono ?_); rintro e wz ⟨rfl, gz⟩; have hcv := ONE4.out _ _ gz)
      | (go_at_call 40; (with_reducible refine (CU.out _).mono ?_); rintro e wz ⟨rfl, gz⟩)
      | (go_at_call 40; (with_reducible refine (CV.out _).mono ?_); rintro e wz ⟨rfl, gz⟩; have hcv := ONE2.out _ _ gz)
      | (go_at_call 40; (with_reducible refine (CV.out _).mono ?_); rintro e wz ⟨rfl, gz⟩; have hcv := ONE4.out _ _ gz)
      | (go_at_call 40; (with_reducible refine (CV.out _).mono ?_); rintro e wz ⟨rfl, gz⟩))
     all_goals
      try clear hcv
      clear one1 one5 hw8
      first
       | have hbe : Below w.heap.size w wz := ((Below.refl _ w).drew.trans gz)
       | have hbe : Below w.heap.size w wz := (((Below.refl _ w).alloc (Nat.le_refl _) _).drew.trans (gz.mono (by simp)))
       | have hbe : Below w.heap.size w wz := (((Below.refl _ w).drew.alloc (Nat.le_refl _) _).trans (gz.mono (by simp)))
      go_wp2_with fail
      go_meet
      first
       | exact ⟨by rw [← HD.out], hbe⟩
       | exact ⟨by rw [← HD.out], hbe.alloc hbe.size _⟩
    case rest =>
     obtain ⟨rfl, hb⟩ := hcut
     have HB := Lib.hid hb
     have hat := HL.out.below hb
     have hbs := hb.size
     have HAT := Lib.hid hat
     clear hb hat
     have cD := Tx.rdict_c _ L wc (HAT.out.mono hbs (Nat.le_refl _)) hl HI.out
     have HBD : Hid (Tx.body k L = encU (Tx.dict L).length ++ ((Tx.dict L).flatMap Tx.encT ++ Tx.encX (Tx.dict L) L)) := Lib.hid (by unfold Tx.body; rw [if_neg (by have := HK.out; omega)])
     have HM : Hid (∀ t, t ∈ Tx.dict L ↔ t ∈ L) := Lib.hid (Tx.dict_mem L)
     have hdl := Tx.dict_len L
     obtain ⟨Dd, hDd⟩ : ∃ Dd, Dd = Tx.dict L := ⟨_, rfl⟩
     rw [← hDd] at cD HBD HM hdl
     have HI2 : Hid (∀ t ∈ Dd, t.length ≤ 64) := Lib.hid fun t ht => HI.out t ((HM.out t).1 ht)
     clear hDd
     go_wp2_with fail
     refine cD.mono ?_
     rintro e w1 ⟨vd, rfl, hO, g1⟩
     have HAT2 := Lib.hid hO.at
     obtain ⟨a2, c2, rfl, hc2, _, h2⟩ := hO.at
     have HC2 := Lib.hid h2
     have HB1 := Lib.hid (HB.out.trans (g1.mono hbs))
     have hbs1 := HB1.out.size
     clear hO g1 h2 cD
     have hN0 : (0 : Int) ≤ (Dd.length : Int) := by omega
     have hN6 : (Dd.length : Int) ≤ 65536 := by omega
     have cU := Ty.ruint_nat Dd.length w1
     unfold Ty.Str at cU
     have h9 := Ty.encU_len9 Dd.length
     obtain ⟨S0, hS0⟩ : ∃ S0, S0 = Ty.S D := ⟨_, rfl⟩
     have hS9 : S0.size ≤ 10 := by rw [hS0]; exact hDl
     obtain ⟨Z0, hZ0⟩ : ∃ Z0, Z0 = Ty.S (encU Dd.length) := ⟨_, rfl⟩
     have hZ09 : Z0.size ≤ 9 := by rw [hZ0]; exact h9
     obtain ⟨D1, hD1⟩ : ∃ D1, D1 = D ++ encU Dd.length := ⟨_, rfl⟩
     have hD1l : D1.length ≤ 19 := by rw [hD1, List.length_append]; omega
     have HF0 : Hid (S0 ++ Z0 = Ty.S D1) := Lib.hid (by rw [hS0, hZ0, hD1, Tx.S_add])
     have HD1 := Lib.hid hD1
     rw [← hZ0] at cU
     rw [← hS0]
     clear hS0 hZ0 h9 hD1
     go_wp2_with fail
     refine cU.mono ?_
     rintro e w2 ⟨rfl, g2⟩
     have HB2 := Lib.hid (HB1.out.trans (g2.mono hbs1))
     have HG2 := Lib.hid g2
     clear cU g2
     go_wp2_with fail
     rw [HF0.out]
     go_loopw [7, 9] (fun s i wr => ∃ j : Nat, j ≤ Dd.length ∧ i = .int .i64 j ∧ s = .string (Ty.S (D1 ++ (Dd.take j).flatMap Tx.encT)) ∧ Below w1.heap.size w1 wr) (fun _ i _ => Dd.length - (intOf i).toNat)
     case atStart => exact ⟨0, by omega, rfl, by simp, HG2.out⟩
     case round =>
      obtain ⟨j, hj, rfl, rfl, hb2⟩ := hrel
      have HB2 := Lib.hid hb2
      have hbs2 := hb2.size
      clear hb2
      by_cases hjl : j < Dd.length
      ·rcases HC2.out with h | ⟨b, o, rfl, hlt, h⟩
       ·exact absurd hjl (by rw [h.1]; simp)
       have hc1 := (HB2.out.cell (p := ⟨b, o + j, none⟩) hlt).trans (h j hjl)
       unfold Tx.sv at hc1
       have hji : (j : Int) < (Dd.length : Int) := by omega
       have hj0 : (0 : Int) ≤ (j : Int) := by omega
       have hI := HI2.out (Dd.getD j []) (by rw [List.getD, List.getElem?_eq_getElem hjl]; exact List.getElem_mem _)
       have HN : Hid ((Dd.take (j + 1)).flatMap Tx.encT = (Dd.take j).flatMap Tx.encT ++ Tx.encT (Dd.getD j [])) := Lib.hid (Tx.flat_next hjl)
       have hln := Tx.len_flat (Dd.take j) (fun x hx => HI2.out x (List.mem_of_mem_take hx))
       have hlt2 : (Dd.take j).length ≤ j := List.length_take_le _ _
       have cT := Tx.rtext_x (Dd.getD j []) hI wr
       obtain ⟨T, hT⟩ : ∃ T, T = Ty.S (D1 ++ (Dd.take j).flatMap Tx.encT) := ⟨_, rfl⟩
       have hT9 : T.size ≤ 4784147 := by rw [hT, Ty.size_S, List.length_append]; omega
       obtain ⟨Z, hZ⟩ : ∃ Z, Z = Ty.S (Tx.encT (Dd.getD j [])) := ⟨_, rfl⟩
       have hZ9 : Z.size ≤ 73 := by rw [hZ]; exact Tx.len_encT hI
       have HF : Hid (T ++ Z = Ty.S (D1 ++ (Dd.take (j + 1)).flatMap Tx.encT)) := Lib.hid (by
        rw [hT, hZ, Tx.S_add, HN.out]
        simp)
       rw [← hT]
       rw [← hZ] at cT
       generalize Ty.S (Dd.getD j []) = x at hc1 cT
       clear h hln hlt2 hT hZ hI
       go_wp2_with fail
       refine cT.mono ?_
       rintro e w3 ⟨rfl, g3⟩
       have HB3 := Lib.hid (HB2.out.trans (g3.mono hbs2))
       clear cT g3
       go_wp2
       go_roundw
       case rel => exact ⟨j + 1, by omega, by simp, by rw [← HF.out], HB3.out⟩
       case measure => simp [intOf]; omega
      ·obtain rfl : j = Dd.length := by omega
       have hji : ¬ (Dd.length : Int) < (Dd.length : Int) := by omega
       have hwb := HB2.out
       have HBW : Hid (Below w.heap.size w wr) := Lib.hid (HB1.out.trans (hwb.mono hbs1))
       have hbsW := HBW.out.size
       have HATW := Lib.hid (HAT2.out.below hwb)
       clear hwb
       go_wp2_with fail
       generalize hDA : D1 ++ Dd.flatMap Tx.encT = DA
       have HDA := Lib.hid hDA
       have hDAl : DA.length ≤ 4784147 := by
        have := Tx.len_flat Dd HI2.out
        rw [← hDA, List.length_append]
        omega
       clear hDA
       generalize wr = wp at *
       go_loopw [10, 11] (fun v i wr => ∃ j : Nat, j ≤ L.length ∧ i = .int .i64 j ∧ Bt.Buf 88 wp.heap.size wr v j (Bt.nv (Tx.ix Dd L)) ∧ Below wp.heap.size wp wr ∧ wp.heap.size ≤ wr.heap.size) (fun _ i _ => L.length - (intOf i).toNat)
       case atStart => exact ⟨0, by omega, rfl, Bt.Buf.nil _ _ _ _, Below.refl _ _, Nat.le_refl _⟩
       case round =>
        obtain ⟨j, hj, rfl, hBf, hb3, hs3⟩ := hrel
        have HBF := Lib.hid hBf
        have HB3 := Lib.hid hb3
        clear hBf
        by_cases hjl : j < L.length
        ·rcases HC.out with h | ⟨b, o, rfl, hlt, h⟩
         ·exact absurd hjl (by rw [h.1]; simp)
         have hc1 := ((HBW.out.trans (hb3.mono hbsW)).cell (p := ⟨b, o + j, none⟩) hlt).trans (h j hjl)
         unfold Tx.sv at hc1
         have hji : (j : Int) < (L.length : Int) := by omega
         have hj0 : (0 : Int) ≤ (j : Int) := by omega
         have hmem : L.getD j [] ∈ Dd := (HM.out _).2 (by rw [List.getD, List.getElem?_eq_getElem hjl]; exact List.getElem_mem _)
         have hp : Tx.posI Dd (L.getD j []) = ((Tx.ix Dd L j : Nat) : Int) := by unfold Tx.posI Tx.ix; rw [if_pos hmem]
         have hpl : Tx.ix Dd L j < Dd.length := Tx.pos_lt hmem
         have cA := Tx.rat_c _ Dd (L.getD j []) wr ((HATW.out.below (hb3.mono (HB2.out.size))).mono (by have := HB2.out.size; omega) (Nat.le_refl _)) (by omega)
         rw [hp] at cA
         have HNV : Hid (Value.int .u64 ((Tx.ix Dd L j : Nat) : Int) = Bt.nv (Tx.ix Dd L) j) := Lib.hid rfl
         generalize Tx.ix Dd L j = y at cA hpl HNV
         have hy0 : (0 : Int) ≤ (y : Int) := by omega
         have hy6 : (y : Int) < 65536 := by omega
         generalize Ty.S (L.getD j []) = x at hc1 cA
         clear h hp hmem hpl hb3
         go_wp2_with fail
         refine cA.mono ?_
         rintro e w3 ⟨rfl, g3⟩
         have hO3 := Bt.Buf.kept HBF.out g3
         have HB4 := Lib.hid (HB3.out.trans (g3.mono HB3.out.size))
         have hs4 := HB4.out.size
         clear cA g3
         go_wp2_with (at_builtin; refine Bt.wpList_append_one 88 212 (.int .u64 0) 8 Tryz.underlying212 Bt.infoU rfl hO3 (by omega) (by omega) (by omega) (.tmp 78) (.tmp 86) _ rfl rfl rfl rfl rfl ?_; intro v5 w5 h5 g5)
         have H5 := Lib.hid (h5 HNV.out)
         have HB5 := Lib.hid (HB4.out.trans (g5.below hs4 (fun k hk => by have := Bt.Buf.base_le hO3 k hk; omega)))
         clear h5 g5 hO3
         go_roundw
         case rel => exact ⟨j + 1, by omega, by simp, H5.out, HB5.out, HB5.out.size⟩
         case measure => simp [intOf]; omega
        ·obtain rfl : j = L.length := by omega
         have hji : ¬ (L.length : Int) < (L.length : Int) := by omega
         have hXb : ∀ i, Tx.ix Dd L i < 2 ^ 64 := fun i => by
          have : Tx.ix Dd L i ≤ Dd.length := List.idxOf_le_length
          omega
         have hq : Bt.wid L.length (Tx.ix Dd L) ≤ 64 := Tx.wid_ix Dd L (fun t ht => (HM.out t).2 ht) (by omega)
         have hPV : Bt.packV L.length (Tx.ix Dd L) ((Bt.wid L.length (Tx.ix Dd L) : Nat) : Int) = .tuple #[.string (Bt.bytes (Bt.need (L.length * Bt.wid L.length (Tx.ix Dd L))) (Bt.pk L.length (Tx.ix Dd L) (Bt.wid L.length (Tx.ix Dd L)))), .int .i64 0] := by
          unfold Bt.packV
          rw [if_pos (by omega), if_neg (by simp)]
          rfl
         have cw := Bt.rwidth_c _ L.length (Tx.ix Dd L) wr HBF.out.sl hXb (by omega)
         have cp := Bt.rpack_c _ L.length (Tx.ix Dd L) ((Bt.wid L.length (Tx.ix Dd L) : Nat) : Int) wr HBF.out.sl hXb (by omega)
         rw [hPV] at cp
         have HX : Hid (Tx.encX Dd L = UInt8.ofNat (Bt.wid L.length (Tx.ix Dd L)) :: (Bt.bytes (Bt.need (L.length * Bt.wid L.length (Tx.ix Dd L))) (Bt.pk L.length (Tx.ix Dd L) (Bt.wid L.length (Tx.ix Dd L)))).data.toList) := Lib.hid rfl
         have hsz := Bt.size_bytes (Bt.need (L.length * Bt.wid L.length (Tx.ix Dd L))) (Bt.pk L.length (Tx.ix Dd L) (Bt.wid L.length (Tx.ix Dd L)))
         have hnd : Bt.need (L.length * Bt.wid L.length (Tx.ix Dd L)) ≤ 524288 := by
          have := Bt.mul_le L.length (Bt.wid L.length (Tx.ix Dd L)) hq
          unfold Bt.need; omega
         generalize Bt.bytes (Bt.need (L.length * Bt.wid L.length (Tx.ix Dd L))) (Bt.pk L.length (Tx.ix Dd L) (Bt.wid L.length (Tx.ix Dd L))) = S at HX cp hsz
         have hSs : S.size ≤ 524288 := by rw [hsz]; exact hnd
         clear hsz hnd hPV hXb
         generalize Bt.wid L.length (Tx.ix Dd L) = q at HX cp cw hq
         obtain ⟨B1, hB1⟩ : ∃ B1, B1 = Ty.S [UInt8.ofNat q] := ⟨_, rfl⟩
         have hB19 : B1.size ≤ 1 := by rw [hB1]; exact Nat.le_refl _
         have two1 := Tx.one_str q (by omega)
         have two5 := Tx.one_str5 q (by omega)
         rw [← hB1] at two1 two5
         have HF9 : Hid (Ty.S DA ++ B1 ++ S = Ty.S (D ++ Tx.body k L)) := Lib.hid (by
          conv => lhs; rw [← Ty.S_data S]
          rw [hB1, Tx.S_add, Tx.S_add, HBD.out, HX.out, ← HDA.out, HD1.out]
          simp)
         obtain ⟨S9, hS9⟩ : ∃ S9, S9 = Ty.S DA := ⟨_, rfl⟩
         have hS99 : S9.size ≤ 4784147 := by rw [hS9, Ty.size_S]; exact hDAl
         have n2 : ¬ 9223372036854775807 < S9.size + B1.size := by omega
         have n3 : ¬ 9223372036854775807 < S9.size + B1.size + S.size := by omega
         rw [← hS9] at HF9
         rw [← hS9]
         have HBZ := Lib.hid (HBW.out.trans (HB3.out.mono hbsW))
         clear hS9 hB1 hb3
         go_wp2_with fail
         refine cw.mono ?_
         rintro e w4 ⟨rfl, rfl⟩
         clear cw
         go_wp2_with fail
         refine cp.mono ?_
         rintro e w5 ⟨rfl, g5⟩
         have HB5 := Lib.hid (HBZ.out.trans (g5.mono HBZ.out.size))
         have hw8 : IntKind.u8.wrap (q : Int) = (q : Int) := by rw [IntKind.wrap_u8]; omega
         clear cp g5
         go_wp2_with fail
         go_ret2
         exact ⟨by rw [← HF9.out]; rfl, HB5.out.alloc HB5.out.size _⟩
end Go.Proofs.YtbelkhkllneifaaGreatDoor

namespace Go.Proofs.YtbelkhkllneifaaGreatDoor
open Go.RowKit
open Ty (encU num)
def Tx.fit (L : List Tx.Str) : Bool := decide (L.length ≤ 65536) && L.all fun t => decide (t.length ≤ 64)
def Tx.withE (L : List Tx.Str) (z : Int) : Nat := if 0 ≤ z ∧ z ≤ 1 then (if Tx.fit L = true then 0 else 3) else 1
def Tx.withS (L : List Tx.Str) (z : Int) : List UInt8 := if Tx.withE L z = 0 then Tx.enc z.toNat L else []
def Tx.withV (L : List Tx.Str) (z : Int) : Value := .tuple #[.string (Ty.S (Tx.withS L z)), .int .i64 ((Tx.withE L z : Nat) : Int)]
theorem Tx.withV_bad {L : List Tx.Str} {z : Int} (h : ¬ (0 ≤ z ∧ z ≤ 1)) : Tx.withV L z = .tuple #[.string (Ty.S []), .int .i64 1] := by
 have e : Tx.withE L z = 1 := by unfold Tx.withE; rw [if_neg h]
 unfold Tx.withV Tx.withS
 rw [e]; rfl
theorem Tx.withV_long {L : List Tx.Str} {z : Int} (h : 0 ≤ z ∧ z ≤ 1) (hl : Tx.fit L = false) : Tx.withV L z = .tuple #[.string (Ty.S []), .int .i64 3] := by
 have e : Tx.withE L z = 3 := by unfold Tx.withE; rw [if_pos h, if_neg (by rw [hl]; simp)]
 unfold Tx.withV Tx.withS
 rw [e]; rfl
theorem Tx.withV_good {L : List Tx.Str} {k : Nat} (h : k ≤ 1) (hl : Tx.fit L = true) : Tx.withV L (k : Int) = .tuple #[.string (Ty.S (Tx.enc k L)), .int .i64 0] := by
 have e : Tx.withE L (k : Int) = 0 := by unfold Tx.withE; rw [if_pos (by omega), if_pos hl]
 unfold Tx.withV Tx.withS
 rw [e]; rfl
theorem Tx.fit_yes {L : List Tx.Str} (h : Tx.fit L = true) : L.length ≤ 65536 ∧ ∀ t ∈ L, t.length ≤ 64 := by
 unfold Tx.fit at h
 simp only [Bool.and_eq_true, decide_eq_true_iff, List.all_eq_true] at h
 exact h
theorem Tx.fit_no {L : List Tx.Str} (h : Tx.fit L = false) (hl : L.length ≤ 65536) (ha : ∀ j, j < L.length → (L.getD j []).length ≤ 64) : False := by
 have : Tx.fit L = true := by
  unfold Tx.fit
  simp only [Bool.and_eq_true, decide_eq_true_iff, List.all_eq_true]
  refine ⟨hl, fun t ht => ?_⟩
  obtain ⟨j, hj, rfl⟩ := List.getElem_of_mem ht
  have := ha j hj
  rwa [List.getD, List.getElem?_eq_getElem hj] at this
 rw [h] at this
 cases this
set_option maxHeartbeats 1000000 in
set_option maxRecDepth 100000 in
theorem Tx.rwith_c (u : Value) (L : List Tx.Str) (z : Int) (w : World) (hL : Tx.At w.heap.size w u L) (hl : L.length ≤ 140737488355328) :
 Calls Tryz.prog 148 #[u, .int .i64 z] w fun e w' => e = .returned (Tx.withV L z) ∧ Below w.heap.size w w' := by
 by_cases hz : 0 ≤ z ∧ z ≤ 1
 ·cases hf : Tx.fit L
  ·rw [Tx.withV_long hz hf]
   have hzs : ((z != 0) = false) ∨ ((z != 0) = true ∧ (z != 1) = false) := by
    rcases (by omega : z = 0 ∨ z = 1) with rfl | rfl
    ·exact .inl rfl
    ·exact .inr ⟨rfl, rfl⟩
   obtain ⟨a, c, rfl, hc, _, h⟩ := hL
   have HC := Lib.hid h
   have HF := Lib.hid hf
   clear h hf
   by_cases hln : 65536 < L.length
   ·have hli : (65536 : Int) < (L.length : Int) := by omega
    clear hln
    rcases hzs with z1 | ⟨z1, z2⟩
    all_goals
     clear hz
     go_enter Tryz.func148, Tryz.ntmps148
     go_wp2
     go_ret2
     exact ⟨rfl, Below.refl _ _⟩
   ·have hli : ¬ (65536 : Int) < (L.length : Int) := by omega
    rcases hzs with z1 | ⟨z1, z2⟩
    all_goals
     clear hz
     go_enter Tryz.func148, Tryz.ntmps148
     go_wp2_with fail
     go_loopw [6] (fun i wr => ∃ j : Nat, j ≤ L.length ∧ i = .int .i64 j ∧ w = wr ∧ ∀ i, i < j → (L.getD i []).length ≤ 64) (fun i _ => L.length - (intOf i).toNat)
     case atStart => exact ⟨0, by omega, rfl, rfl, fun i hi => by omega⟩
     case round =>
      obtain ⟨j, hj, rfl, rfl, hp⟩ := hrel
      have HP := Lib.hid hp
      clear hp
      have hjl : j < L.length := by
       rcases Nat.lt_or_ge j L.length with h | h
       ·exact h
       ·exact absurd (Tx.fit_no HF.out (by omega) fun i hi => HP.out i (by omega)) not_false
      rcases HC.out with h | ⟨b, o, rfl, hlt, h⟩
      ·exact absurd hjl (by rw [h.1]; simp)
      have hc1 := h j hjl
      unfold Tx.sv at hc1
      have hji : (j : Int) < (L.length : Int) := by omega
      have hj0 : (0 : Int) ≤ (j : Int) := by omega
      by_cases hsz : (64 : Int) < ((Ty.S (L.getD j [])).size : Int)
      ·generalize Ty.S (L.getD j []) = s at hc1 hsz
       clear h
       go_wp2
       go_ret2
       exact ⟨rfl, Below.refl _ _⟩
      ·have HJ : Hid ((L.getD j []).length ≤ 64) := Lib.hid (by rw [Ty.size_S] at hsz; omega)
       generalize Ty.S (L.getD j []) = s at hc1 hsz
       clear h
       go_wp2
       go_roundw
       case rel => exact ⟨j + 1, by omega, by simp, by simp, fun i hi => by
        by_cases e : i = j
        ·rw [e]; exact HJ.out
        ·exact HP.out i (by omega)⟩
       case measure => simp [intOf]; omega
  ·obtain ⟨k, rfl⟩ := Int.eq_ofNat_of_zero_le hz.1
   have hy := Tx.fit_yes hf
   rw [Tx.withV_good (by omega) hf]
   exact Tx.rwith_good u L k (by omega) w hL hy.2 hy.1
 ·rw [Tx.withV_bad hz]
  have z1 : (z != 0) = true := by rw [bne_iff_ne]; omega
  have z2 : (z != 1) = true := by rw [bne_iff_ne]; omega
  obtain ⟨a, c, rfl, hc, _, h⟩ := hL
  clear h hz
  go_enter Tryz.func148, Tryz.ntmps148
  go_wp2
  go_ret2
  exact ⟨rfl, Below.refl _ _⟩
def Tx.bestK (L : List Tx.Str) : Nat := if (Tx.enc 1 L).length < (Tx.enc 0 L).length then 1 else 0
def Tx.bestV (L : List Tx.Str) : Value := if Tx.fit L = true then .tuple #[.string (Ty.S (Tx.enc (Tx.bestK L) L)), .int .i64 0] else .tuple #[.string (Ty.S []), .int .i64 3]
set_option maxRecDepth 100000 in
set_option maxHeartbeats 1000000 in
theorem Tx.rbest_c (u : Value) (L : List Tx.Str) (w : World) (hL : Tx.At w.heap.size w u L) (hl : L.length ≤ 140737488355328) :
 Calls Tryz.prog 134 #[u] w fun e w' => e = .returned (Tx.bestV L) ∧ Below w.heap.size w w' := by
 have c0 := Tx.rwith_c u L 0 w hL hl
 have c1 : ∀ wz, Below w.heap.size w wz → Calls Tryz.prog 148 #[u, .int .i64 1] wz fun e w' => e = .returned (Tx.withV L 1) ∧ Below w.heap.size w w' := fun wz g =>
  (Tx.rwith_c u L 1 wz ((hL.below g).mono g.size (Nat.le_refl _)) hl).mono fun e w' ⟨he, hg⟩ => ⟨he, g.trans (hg.mono g.size)⟩
 have e1 : (0 : Int) = ((0 : Nat) : Int) := rfl
 have e2 : (1 : Int) = ((1 : Nat) : Int) := rfl
 cases hf : Tx.fit L
 ·rw [Tx.withV_long (by omega) hf] at c0
  have c1' := c1
  rw [Tx.withV_long (by omega) hf] at c1'
  have HV : Hid (Tx.bestV L = .tuple #[.string (Ty.S []), .int .i64 3]) := Lib.hid (by unfold Tx.bestV; rw [hf]; rfl)
  rw [HV.out]
  clear hf c1 e1 e2 hL hl
  go_enter Tryz.func134, Tryz.ntmps134
  go_wp2_with fail
  refine c0.mono ?_
  rintro e w1 ⟨rfl, g1⟩
  have G1 := Lib.hid g1
  have c2 := c1' w1 g1
  clear c0 c1' g1
  go_wp2_with fail
  refine c2.mono ?_
  rintro e w2 ⟨rfl, g2⟩
  go_wp2
  go_ret2
  exact ⟨rfl, g2⟩
 ·have c0' := c0
  have c1' := c1
  have v0 : Tx.withV L 0 = .tuple #[.string (Ty.S (Tx.enc 0 L)), .int .i64 0] := Tx.withV_good (k := 0) (by omega) hf
  have v1 : Tx.withV L 1 = .tuple #[.string (Ty.S (Tx.enc 1 L)), .int .i64 0] := Tx.withV_good (k := 1) (by omega) hf
  rw [v0] at c0'
  rw [v1] at c1'
  have HV : Hid (Tx.bestV L = .tuple #[.string (Ty.S (Tx.enc (Tx.bestK L) L)), .int .i64 0]) := Lib.hid (by unfold Tx.bestV; rw [if_pos hf])
  rw [HV.out]
  clear hf c0 c1 v0 v1 e1 e2 hL hl
  have hb : (Tx.bestK L = 1 ∧ ((Ty.S (Tx.enc 1 L)).size : Int) < ((Ty.S (Tx.enc 0 L)).size : Int)) ∨ (Tx.bestK L = 0 ∧ ¬ ((Ty.S (Tx.enc 1 L)).size : Int) < ((Ty.S (Tx.enc 0 L)).size : Int)) := by
   unfold Tx.bestK
   rw [Ty.size_S, Ty.size_S]
   by_cases h : (Tx.enc 1 L).length < (Tx.enc 0 L).length
   ·exact .inl ⟨by rw [if_pos h], by omega⟩
   ·exact .inr ⟨by rw [if_neg h], by omega⟩
  rcases hb with ⟨hk, hlt⟩ | ⟨hk, hlt⟩
  all_goals
   rw [hk]
   generalize Ty.S (Tx.enc 0 L) = s0 at c0' hlt ⊢
   generalize Ty.S (Tx.enc 1 L) = s1 at c1' hlt ⊢
   clear hk
   go_enter Tryz.func134, Tryz.ntmps134
   go_wp2_with fail
   refine c0'.mono ?_
   rintro e w1 ⟨rfl, g1⟩
   have c2 := c1' w1 g1
   clear c0' c1' g1
   go_wp2_with fail
   refine c2.mono ?_
   rintro e w2 ⟨rfl, g2⟩
   clear c2
   go_wp2
   go_ret2
   exact ⟨rfl, g2⟩
end Go.Proofs.YtbelkhkllneifaaGreatDoor

namespace Go.Proofs.YtbelkhkllneifaaGreatDoor
open Go.RowKit
open Ty (num encU U64)
open Ig (rest read_encU splitU)
def Cl.is (c : Kn.C) (v : Kn.V) : Bool := Kn.isK c.k v && (!v.null || c.null)
def Cl.live (l : List Kn.V) : List Kn.V := l.filter fun v => !v.null
def Cl.nums (l : List Kn.V) : List Int := (Cl.live l).map fun v => v.n
def Cl.words (l : List Kn.V) : List Tx.Str := (Cl.live l).map fun v => v.s.data.toList
def Cl.vals (c : Kn.C) (l : List Kn.V) : List UInt8 := if c.k = 1 then Ig.enc (Ig.bk (Cl.nums l) 3) (Cl.nums l) else Tx.enc (Tx.bestK (Cl.words l)) (Cl.words l)
def Cl.nulls (l : List Kn.V) (i : Nat) : Bool := (l.getD i Cl.nul).null
def Cl.enc (c : Kn.C) (l : List Kn.V) : List UInt8 := encU l.length ++ ((Bt.bytes (Bt.need l.length) (Bt.tr l.length (Cl.nulls l))).data.toList ++ Cl.vals c l)
def Cl.wE (c : Kn.C) (l : List Kn.V) : Nat := if c.good = true then (if 65536 < l.length then 3 else if l.all (Cl.is c) = true then 0 else 6) else 4
def Cl.fill : List Bool → List Kn.V → Option (List Kn.V)
 | [], [] => some []
 | [], _ :: _ => none
 | true :: T, M => (Cl.fill T M).map (Cl.nul :: ·)
 | false :: _, [] => none
 | false :: T, x :: M => (Cl.fill T M).map (x :: ·)
def Cl.back (c : Kn.C) (r : List UInt8) : Nat × List Kn.V := if c.k = 1 then ((Ig.rd r).1, (Ig.rd r).2.map Cl.ofN) else ((Tx.rd r).1, (Tx.rd r).2.map Cl.ofS)
def Cl.bits (n : Nat) (s : ByteArray) : List Bool := (List.range n).map (Bt.bit s)
def Cl.rdV (c : Kn.C) (T : List Bool) (r : List UInt8) : Nat × List Kn.V :=
 if (Cl.back c r).1 ≠ 0 then ((Cl.back c r).1, [])
 else match Cl.fill T (Cl.back c r).2 with
  | none => (4, [])
  | some out => if Cl.vals c out = r then (0, out) else (4, [])
def Cl.rd (c : Kn.C) (l : List UInt8) : Nat × List Kn.V :=
 if c.good = false then (4, [])
 else if (num l).2.2 ≠ 0 then ((num l).2.2, [])
 else if 65536 < (num l).1 then (3, [])
 else if (rest l).length < Bt.need (num l).1 then (2, [])
 else if Bt.chk (Ty.S ((rest l).take (Bt.need (num l).1))) (num l).1 ≠ 0 then (Bt.chk (Ty.S ((rest l).take (Bt.need (num l).1))) (num l).1, [])
 else if (!c.null && (Cl.bits (num l).1 (Ty.S ((rest l).take (Bt.need (num l).1)))).any id) = true then (6, [])
 else Cl.rdV c (Cl.bits (num l).1 (Ty.S ((rest l).take (Bt.need (num l).1)))) ((rest l).drop (Bt.need (num l).1))
theorem Cl.toList_nil {s : ByteArray} (h : (s.toList == (⟨#[]⟩ : ByteArray).toList) = true) : s = ⟨#[]⟩ := by
 rw [beq_iff_eq, ByteArray.toList_eq, ByteArray.toList_eq] at h
 have h2 : s.data.toList = [] := h
 apply ByteArray.ext
 exact Array.toList_inj.1 (by rw [h2])
theorem Cl.is_null {c : Kn.C} {v : Kn.V} (h : Cl.is c v = true) (hv : v.null = true) : v = Cl.nul ∧ c.null = true := by
 unfold Cl.is Kn.isK at h
 rw [hv] at h
 simp only [if_true, Bool.and_eq_true, Bool.not_true, Bool.false_or] at h
 obtain ⟨⟨h1, h2⟩, h3⟩ := h
 obtain ⟨vn, vi, vs⟩ := v
 simp only at hv h1 h2
 rw [hv, Cl.toList_nil h2, show vi = 0 by simpa using h1]
 exact ⟨rfl, h3⟩
theorem Cl.is_num {c : Kn.C} {v : Kn.V} (hk : c.k = 1) (h : Cl.is c v = true) (hv : v.null = false) : v = Cl.ofN v.n := by
 unfold Cl.is Kn.isK at h
 rw [hv, if_neg (by decide), if_pos hk] at h
 simp only [Bool.and_eq_true] at h
 obtain ⟨vn, vi, vs⟩ := v
 simp only at hv h
 rw [hv, Cl.toList_nil h.1]
 rfl
theorem Cl.is_str {c : Kn.C} {v : Kn.V} (hk : c.k ≠ 1) (h : Cl.is c v = true) (hv : v.null = false) : v = Cl.ofS v.s.data.toList ∧ v.s.data.toList.length ≤ 64 := by
 unfold Cl.is Kn.isK at h
 rw [hv, if_neg (by decide), if_neg hk] at h
 simp only [Bool.and_eq_true, decide_eq_true_iff] at h
 obtain ⟨vn, vi, vs⟩ := v
 simp only at hv h ⊢
 rw [hv, show vi = 0 by simpa using h.1.2.1]
 exact ⟨rfl, by rw [Ty.length_data]; exact h.1.2.2⟩
theorem Cl.is_nul {c : Kn.C} (h : c.null = true) : Cl.is c Cl.nul = true := by
 unfold Cl.is Kn.isK Cl.nul
 simp [h]
theorem Cl.is_ofN {c : Kn.C} (hk : c.k = 1) (x : Int) : Cl.is c (Cl.ofN x) = true := by
 unfold Cl.is Kn.isK Cl.ofN
 simp [hk]
theorem Cl.is_ofS {c : Kn.C} (hk : c.k = 2) {t : Tx.Str} (h : t.length ≤ 64) : Cl.is c (Cl.ofS t) = true := by
 unfold Cl.is Kn.isK Cl.ofS
 have : (Ty.S t).size ≤ 64 := h
 simp [hk, this]
theorem Cl.good_iff (c : Kn.C) : c.good = true ↔ c.k = 1 ∨ c.k = 2 := by
 unfold Kn.C.good
 by_cases h1 : c.k = 1
 ·simp [h1]
 ·by_cases h2 : c.k = 2
  ·simp [h2]
  ·have e1 : (c.k != 1) = true := by rw [bne_iff_ne]; exact h1
   have e2 : (c.k != 2) = true := by rw [bne_iff_ne]; exact h2
   simp [e1, e2, h1, h2]
theorem Cl.fill_live (c : Kn.C) : ∀ l : List Kn.V, l.all (Cl.is c) = true → Cl.fill (l.map fun v => v.null) (Cl.live l) = some l
 | [], _ => rfl
 | v :: l, h => by
   rw [List.all_cons, Bool.and_eq_true] at h
   have ih := Cl.fill_live c l h.2
   cases hv : v.null
   ·have e : Cl.live (v :: l) = v :: Cl.live l := by unfold Cl.live; rw [List.filter_cons, hv]; rfl
    rw [List.map_cons, hv, e]
    simp only [Cl.fill, ih, Option.map_some]
   ·have e : Cl.live (v :: l) = Cl.live l := by unfold Cl.live; rw [List.filter_cons, hv]; rfl
    rw [List.map_cons, hv, e]
    simp only [Cl.fill, ih, Option.map_some]
    rw [(Cl.is_null h.1 hv).1]
theorem Cl.fill_only : ∀ (T : List Bool) (M out : List Kn.V), (∀ v ∈ M, v.null = false) → Cl.fill T M = some out → out.map (fun v => v.null) = T ∧ Cl.live out = M
 | [], [], out, _, h => by
   simp only [Cl.fill, Option.some.injEq] at h
   rw [← h]
   exact ⟨rfl, rfl⟩
 | [], _ :: _, out, _, h => by simp [Cl.fill] at h
 | true :: T, M, out, hM, h => by
   simp only [Cl.fill, Option.map_eq_some_iff] at h
   obtain ⟨o, h1, rfl⟩ := h
   obtain ⟨h2, h3⟩ := Cl.fill_only T M o hM h1
   refine ⟨by rw [List.map_cons, h2]; rfl, ?_⟩
   rw [← h3]
   rfl
 | false :: T, [], out, _, h => by simp [Cl.fill] at h
 | false :: T, x :: M, out, hM, h => by
   simp only [Cl.fill, Option.map_eq_some_iff] at h
   obtain ⟨o, h1, rfl⟩ := h
   obtain ⟨h2, h3⟩ := Cl.fill_only T M o (fun v hv => hM v (by simp [hv])) h1
   have hx := hM x (by simp)
   refine ⟨by rw [List.map_cons, h2, hx], ?_⟩
   unfold Cl.live at h3 ⊢
   rw [List.filter_cons, hx, h3]
   rfl
theorem Cl.fill_nul : ∀ (T : List Bool) (M out : List Kn.V), (∀ v ∈ M, v.null = false) → Cl.fill T M = some out → ∀ v ∈ out, v.null = true → v = Cl.nul
 | [], [], out, _, h, v, hv, _ => by
   simp only [Cl.fill, Option.some.injEq] at h
   rw [← h] at hv
   cases hv
 | [], _ :: _, out, _, h, _, _, _ => by simp [Cl.fill] at h
 | true :: T, M, out, hM, h, v, hv, hn => by
   simp only [Cl.fill, Option.map_eq_some_iff] at h
   obtain ⟨o, h1, rfl⟩ := h
   rcases List.mem_cons.1 hv with rfl | hv
   ·rfl
   ·exact Cl.fill_nul T M o hM h1 v hv hn
 | false :: T, [], out, _, h, _, _, _ => by simp [Cl.fill] at h
 | false :: T, x :: M, out, hM, h, v, hv, hn => by
   simp only [Cl.fill, Option.map_eq_some_iff] at h
   obtain ⟨o, h1, rfl⟩ := h
   rcases List.mem_cons.1 hv with rfl | hv
   ·rw [hM v (by simp)] at hn; cases hn
   ·exact Cl.fill_nul T M o (fun v hv => hM v (by simp [hv])) h1 v hv hn
theorem Cl.live_all {l : List Kn.V} : ∀ v ∈ Cl.live l, v.null = false := fun v hv => by
 have := (List.mem_filter.1 hv).2
 simpa using this
theorem Cl.live_is {c : Kn.C} {l : List Kn.V} (h : l.all (Cl.is c) = true) : ∀ v ∈ Cl.live l, Cl.is c v = true := fun v hv => List.all_eq_true.1 h v (List.mem_filter.1 hv).1
theorem Cl.live_len (l : List Kn.V) : (Cl.live l).length ≤ l.length := List.length_filter_le _ _
theorem Cl.nums_len (l : List Kn.V) : (Cl.nums l).length ≤ l.length := by unfold Cl.nums; rw [List.length_map]; exact Cl.live_len l
theorem Cl.words_len (l : List Kn.V) : (Cl.words l).length ≤ l.length := by unfold Cl.words; rw [List.length_map]; exact Cl.live_len l
theorem Cl.words_fit {c : Kn.C} (hk : c.k ≠ 1) {l : List Kn.V} (h : l.all (Cl.is c) = true) (hl : l.length ≤ 65536) : Tx.fit (Cl.words l) = true := by
 unfold Tx.fit
 simp only [Bool.and_eq_true, decide_eq_true_iff, List.all_eq_true]
 refine ⟨Nat.le_trans (Cl.words_len l) hl, fun t ht => ?_⟩
 obtain ⟨v, hv, rfl⟩ := List.mem_map.1 ht
 exact (Cl.is_str hk (Cl.live_is h v hv) (Cl.live_all v hv)).2
theorem Cl.back_vals {c : Kn.C} {l : List Kn.V} (h : l.all (Cl.is c) = true) (hl : l.length ≤ 65536) (hi : ∀ v ∈ l, Ty.I64 v.n) : Cl.back c (Cl.vals c l) = (0, Cl.live l) := by
 unfold Cl.back Cl.vals
 by_cases hk : c.k = 1
 ·rw [if_pos hk, if_pos hk, Ig.rd_enc _ (Ig.bk_le _ 3) _ (fun x hx => by
   obtain ⟨v, hv, rfl⟩ := List.mem_map.1 hx
   exact hi v (List.mem_filter.1 hv).1) (Nat.le_trans (Cl.nums_len l) hl)]
  congr 1
  unfold Cl.nums
  rw [List.map_map]
  conv => rhs; rw [← List.map_id (Cl.live l)]
  exact List.map_congr_left fun v hv => (Cl.is_num hk (Cl.live_is h v hv) (Cl.live_all v hv)).symm
 ·have hf := Cl.words_fit hk h hl
  obtain ⟨hwl, h64⟩ := Tx.fit_yes hf
  have hb : Tx.bestK (Cl.words l) ≤ 1 := by unfold Tx.bestK; split <;> omega
  rw [if_neg hk, if_neg hk, Tx.rd_enc _ hb _ h64 hwl]
  congr 1
  unfold Cl.words
  rw [List.map_map]
  conv => rhs; rw [← List.map_id (Cl.live l)]
  exact List.map_congr_left fun v hv => (Cl.is_str hk (Cl.live_is h v hv) (Cl.live_all v hv)).1.symm
theorem Cl.bits_nulls (l : List Kn.V) : Cl.bits l.length (Bt.bytes (Bt.need l.length) (Bt.tr l.length (Cl.nulls l))) = l.map fun v => v.null := by
 unfold Cl.bits
 refine List.ext_getElem (by simp) fun i h1 h2 => ?_
 have hi : i < l.length := by simpa using h2
 rw [List.getElem_map, List.getElem_range, Bt.bit_truths _ hi, List.getElem_map]
 unfold Cl.nulls
 rw [List.getD, List.getElem?_eq_getElem hi]
 rfl
theorem Cl.rd_enc {c : Kn.C} {l : List Kn.V} (h : Cl.wE c l = 0) (hi : ∀ v ∈ l, Ty.I64 v.n) : Cl.rd c (Cl.enc c l) = (0, l) := by
 unfold Cl.wE at h
 by_cases hg : c.good = true
 ·rw [if_pos hg] at h
  by_cases hl : 65536 < l.length
  ·rw [if_pos hl] at h; cases h
  ·rw [if_neg hl] at h
   by_cases ha : l.all (Cl.is c) = true
   ·obtain ⟨a1, a2, a3⟩ := read_encU l.length (show U64 l.length by unfold U64; omega) ((Bt.bytes (Bt.need l.length) (Bt.tr l.length (Cl.nulls l))).data.toList ++ Cl.vals c l)
    have hbl : (Bt.bytes (Bt.need l.length) (Bt.tr l.length (Cl.nulls l))).data.toList.length = Bt.need l.length := by rw [Bt.length_data, Bt.size_bytes]
    have ht : ((Bt.bytes (Bt.need l.length) (Bt.tr l.length (Cl.nulls l))).data.toList ++ Cl.vals c l).take (Bt.need l.length) = (Bt.bytes (Bt.need l.length) (Bt.tr l.length (Cl.nulls l))).data.toList := List.take_left' hbl
    have hd : ((Bt.bytes (Bt.need l.length) (Bt.tr l.length (Cl.nulls l))).data.toList ++ Cl.vals c l).drop (Bt.need l.length) = Cl.vals c l := List.drop_left' hbl
    unfold Cl.rd Cl.enc
    rw [if_neg (by rw [hg]; decide), if_neg (by rw [a1]; simp), a2, if_neg hl, a3, if_neg (by rw [List.length_append, hbl]; omega), ht, hd]
    have hs : Ty.S (Bt.bytes (Bt.need l.length) (Bt.tr l.length (Cl.nulls l))).data.toList = Bt.bytes (Bt.need l.length) (Bt.tr l.length (Cl.nulls l)) := Ty.S_data _
    rw [hs, Bt.chk_truths, if_neg (by simp), Cl.bits_nulls]
    have hn : ¬ (!c.null && (l.map fun v => v.null).any id) = true := by
     intro hx
     rw [Bool.and_eq_true, List.any_eq_true] at hx
     obtain ⟨h1, x, hx, h2⟩ := hx
     obtain ⟨v, hv, rfl⟩ := List.mem_map.1 hx
     have := (Cl.is_null (List.all_eq_true.1 ha v hv) (by simpa using h2)).2
     rw [this] at h1
     cases h1
    rw [if_neg hn]
    unfold Cl.rdV
    rw [Cl.back_vals ha (by omega) hi]
    simp only [ne_eq, not_true_eq_false, if_false]
    rw [Cl.fill_live c l ha]
    simp
   ·rw [if_neg ha] at h; cases h
 ·rw [if_neg hg] at h; cases h
theorem Cl.back_is {c : Kn.C} (hg : c.good = true) {r : List UInt8} (h : (Cl.back c r).1 = 0) : ∀ v ∈ (Cl.back c r).2, v.null = false ∧ Cl.is c v = true ∧ Ty.I64 v.n := by
 unfold Cl.back at h ⊢
 by_cases hk : c.k = 1
 ·rw [if_pos hk] at h ⊢
  obtain ⟨b, q, _, _, _, _, hi⟩ := Ig.enc_rd r h
  intro v hv
  obtain ⟨x, hx, rfl⟩ := List.mem_map.1 hv
  exact ⟨rfl, Cl.is_ofN hk x, hi x hx⟩
 ·rw [if_neg hk] at h ⊢
  have hk2 : c.k = 2 := by
   rcases (Cl.good_iff c).1 hg with e | e
   ·exact absurd e hk
   ·exact e
  obtain ⟨b, q, _, _, _, _, h64⟩ := Tx.enc_rd r h
  intro v hv
  obtain ⟨x, hx, rfl⟩ := List.mem_map.1 hv
  exact ⟨rfl, Cl.is_ofS hk2 (h64 x hx), ⟨by show _ ≤ (0 : Int); omega, by show (0 : Int) ≤ _; omega⟩⟩
theorem Cl.bytes_bits {s : ByteArray} {n : Nat} (h : Bt.chk s n = 0) : Bt.bytes (Bt.need n) (Bt.tr n (Bt.bit s)) = s := by
 obtain ⟨hs, hd⟩ := Bt.chk_ok h
 refine Bt.bytes_of hs fun x hx => ?_
 unfold Bt.tr
 by_cases h1 : x < n
 ·simp [h1]
 ·rw [Bt.clean hd hx (by omega)]
  simp [h1]
theorem Cl.tr_congr {n : Nat} {F G : Nat → Bool} (h : ∀ i, i < n → F i = G i) : Bt.tr n F = Bt.tr n G := by
 funext x
 unfold Bt.tr
 by_cases h1 : x < n
 ·rw [h x h1]
 ·simp [h1]
theorem Cl.enc_rd {c : Kn.C} {l : List UInt8} (h : (Cl.rd c l).1 = 0) : Cl.wE c (Cl.rd c l).2 = 0 ∧ Cl.enc c (Cl.rd c l).2 = l ∧ (Cl.rd c l).2.length ≤ 65536 ∧ ∀ v ∈ (Cl.rd c l).2, Ty.I64 v.n := by
 unfold Cl.rd at h ⊢
 by_cases hg : c.good = true
 ·rw [if_neg (by rw [hg]; decide)] at h ⊢
  by_cases h1 : (num l).2.2 ≠ 0
  ·rw [if_pos h1] at h; exact absurd h h1
  ·rw [if_neg h1] at h ⊢
   by_cases h2 : 65536 < (num l).1
   ·rw [if_pos h2] at h; cases h
   ·rw [if_neg h2] at h ⊢
    by_cases h3 : (rest l).length < Bt.need (num l).1
    ·rw [if_pos h3] at h; cases h
    ·rw [if_neg h3] at h ⊢
     by_cases h4 : Bt.chk (Ty.S ((rest l).take (Bt.need (num l).1))) (num l).1 ≠ 0
     ·rw [if_pos h4] at h; exact absurd h h4
     ·rw [if_neg h4] at h ⊢
      by_cases h5 : (!c.null && (Cl.bits (num l).1 (Ty.S ((rest l).take (Bt.need (num l).1)))).any id) = true
      ·rw [if_pos h5] at h; cases h
      ·rw [if_neg h5] at h ⊢
       unfold Cl.rdV at h ⊢
       by_cases h6 : (Cl.back c ((rest l).drop (Bt.need (num l).1))).1 ≠ 0
       ·rw [if_pos h6] at h; exact absurd h h6
       ·rw [if_neg h6] at h ⊢
        have hb := Cl.back_is hg (by simpa using h6)
        cases hf : Cl.fill (Cl.bits (num l).1 (Ty.S ((rest l).take (Bt.need (num l).1)))) (Cl.back c ((rest l).drop (Bt.need (num l).1))).2 with
        | none => rw [hf] at h; cases h
        | some out =>
          rw [hf] at h
          simp only at h ⊢
          by_cases h7 : Cl.vals c out = (rest l).drop (Bt.need (num l).1)
          ·rw [if_pos h7]
           obtain ⟨f1, f2⟩ := Cl.fill_only _ _ _ (fun v hv => (hb v hv).1) hf
           have hlen : out.length = (num l).1 := by
            have := congrArg List.length f1
            simpa [Cl.bits] using this
           have hall : ∀ v ∈ out, Cl.is c v = true ∧ Ty.I64 v.n := fun v hv => by
            cases hn : v.null
            ·have hm : v ∈ Cl.live out := List.mem_filter.2 ⟨hv, by rw [hn]; rfl⟩
             rw [f2] at hm
             exact (hb v hm).2
            ·have hv0 := Cl.fill_nul _ _ _ (fun v hv => (hb v hv).1) hf v hv hn
             have hm : true ∈ Cl.bits (num l).1 (Ty.S ((rest l).take (Bt.need (num l).1))) := by
              rw [← f1]
              exact List.mem_map.2 ⟨v, hv, hn⟩
             have hcn : c.null = true := by
              cases hcn : c.null with
              | true => rfl
              | false =>
                refine absurd ?_ h5
                rw [hcn, Bool.and_eq_true, List.any_eq_true]
                exact ⟨rfl, true, hm, rfl⟩
             rw [hv0]
             exact ⟨Cl.is_nul hcn, ⟨by show _ ≤ (0 : Int); omega, by show (0 : Int) ≤ _; omega⟩⟩
           have hs := splitU (l := l) (by simpa using h1)
           refine ⟨?_, ?_, (by show out.length ≤ 65536; omega), fun v hv => (hall v hv).2⟩
           ·unfold Cl.wE
            rw [if_pos hg, if_neg (by show ¬ 65536 < out.length; omega), if_pos (List.all_eq_true.2 fun v hv => (hall v hv).1)]
           ·unfold Cl.enc
            have e1 : Bt.tr out.length (Cl.nulls out) = Bt.tr (num l).1 (Bt.bit (Ty.S ((rest l).take (Bt.need (num l).1)))) := by
             rw [hlen]
             refine Cl.tr_congr fun i hi => ?_
             have := congrArg (fun L => L[i]?) f1
             simp only [Cl.bits, List.getElem?_map, List.getElem?_range hi, Option.map_some] at this
             unfold Cl.nulls
             rw [List.getD, List.getElem?_eq_getElem (by omega)] at *
             simpa using this
            rw [e1, hlen, Cl.bytes_bits (by simpa using h4), Ty.data_S, h7, List.take_append_drop]
            exact hs.symm
          ·rw [if_neg h7] at h; cases h
 ·have hg2 : c.good = false := by simpa using hg
  rw [if_pos hg2] at h; cases h
end Go.Proofs.YtbelkhkllneifaaGreatDoor
