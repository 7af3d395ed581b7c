/-
  The document's answers for block: deeds that are a block, as bytes.
  The document's answers: two lists of the same deeds are the same.
  The document's Read, way by way: no program.
  Deeds whose rows are being filled: a made row of deeds, each with a row of values of its own. No program beyond its types' sizes.
  The document's answers for package deeds: a truth that is read, a value that is read.
  The document's answers for package deeds: Write.
  The document's answers for package deeds: Write.
  The document's answers for package deeds: Read.
  The plain mathematics of package disk: directories, changes, files, and what a call and a crash do. No program.
-/
import Derived.Test.YtfbjmehkipcmbaaGreatDoorZAP
import Derived.Deep.RegionHeld3
import Derived.Test.YtfbjmehkipcmbaaGreatDoorZAJ
import Derived.Test.YtfbjmehkipcmbaaGreatDoorZAK
import Derived.Test.YtfbjmehkipcmbaaGreatDoorZAD
import Derived.Deep.OwnRows
import Derived.Laws.ResultCell
import Derived.Deep.RegionWith
import Derived.Test.YtfbjmehkipcmbaaGreatDoorZAA
namespace Go.Proofs.YtfbjmehkipcmbaaGreatDoor
open Go.RowKit
open Tx (encT)
theorem Bk.col_i64 {s : List Kn.C} {L : List Dd.D} (hf : ∀ d ∈ L, Dd.fitE s d = 0) (hi : ∀ d ∈ L, ∀ x ∈ d.row, Ty.I64 x.n) {j : Nat} {c : Kn.C} (hc : s[j]? = some c) : ∀ v ∈ Bk.col L j, Ty.I64 v.n := fun v hv => by
  obtain ⟨d, hd, hh, rfl⟩ := Bk.mem_col.1 hv
  have hcol : (Dd.cols s d.gone)[j]? = some c := Bk.cols_at.2 ⟨hc, Bk.has_zero.1 hh⟩
  have hj : j < d.row.length := by rw [(Dd.fitE_0 (hf d hd)).2.1]; exact (List.getElem?_eq_some_iff.1 hcol).1
  rw [List.getD_eq_getElem?_getD, List.getElem?_eq_getElem hj, Option.getD_some]
  exact hi d hd _ (List.getElem_mem hj)
theorem Bk.col_has {s : List Kn.C} {L : List Dd.D} (hf : ∀ d ∈ L, Dd.fitE s d = 0) {j : Nat} {c : Kn.C} (hc : s[j]? = some c) : ∀ d ∈ L, Bk.has j d = true → j < d.row.length := fun d hd hh => by
  have hcol : (Dd.cols s d.gone)[j]? = some c := Bk.cols_at.2 ⟨hc, Bk.has_zero.1 hh⟩
  rw [(Dd.fitE_0 (hf d hd)).2.1]
  exact (List.getElem?_eq_some_iff.1 hcol).1
theorem Bk.col_le {L : List Dd.D} (h8 : L.length ≤ 8) (j : Nat) : (Bk.col L j).length ≤ 8 := by
  unfold Bk.col
  rw [List.length_map]
  exact Nat.le_trans (List.length_filter_le _ _) h8
def Bk.pre (s : List Kn.C) (L : List Dd.D) (k : Nat) : List UInt8 := Ty.encU L.length ++ (Bk.bools L ++ Bk.encC 0 (s.take k) L)
theorem Bk.pre_all (s : List Kn.C) (L : List Dd.D) : Bk.pre s L s.length = Bk.enc s L := by
  unfold Bk.pre Bk.enc
  rw [List.take_length]
theorem Bk.pre_next {s : List Kn.C} {k : Nat} {c : Kn.C} (h : s[k]? = some c) (L : List Dd.D) : Bk.pre s L (k + 1) = Bk.pre s L k ++ encT (Cl.enc c (Bk.col L k)) := by
  unfold Bk.pre
  rw [Bk.encC_take h, ← List.append_assoc (Bk.bools L), ← List.append_assoc (Ty.encU L.length)]
theorem Bk.pre_zero (s : List Kn.C) (L : List Dd.D) : Ty.S (Bk.pre s L 0) = Ty.S (Ty.encU L.length) ++ Bt.bytes (Bt.need L.length) (Bt.tr L.length (Bk.gones L)) := by
  unfold Bk.pre
  rw [List.take_zero, show Bk.encC 0 [] L = [] from rfl, List.append_nil, ← Ig.S_add]
  rfl
theorem Bk.meas2 {k n : Nat} (h : k < n) : n - (k + 1) < n - k := by omega
theorem Bk.pre_size {s : List Kn.C} {L : List Dd.D} {k : Nat} (h1 : (Bk.bools L).length = 1) (h2 : (Bk.encC 0 (s.take k) L).length ≤ k * 1048585) (h3 : k ≤ 6) : (Ty.S (Bk.pre s L k)).size ≤ 6291520 := by
  rw [Ty.size_S]
  unfold Bk.pre
  rw [List.length_append, List.length_append, h1]
  have := Ty.encU_len9 L.length
  omega
theorem Bk.txt_size {E : List UInt8} (h : E.length ≤ 1048576) : (Ty.S (encT E)).size ≤ 1048585 := by
  rw [Ty.size_S]
  unfold encT
  rw [List.length_append]
  have := Ty.encU_len9 E.length
  omega
theorem Bk.no_wrap {a b : Nat} (ha : a ≤ 6291520) (hb : b ≤ 1048585) : ¬ 9223372036854775807 < a + b := by omega
theorem Bk.one_byte {A B : ByteArray} {n : Nat} (hA : A.size ≤ 9) (hB : B.size = Bt.need n) (h8 : n ≤ 8) : ¬ 9223372036854775807 < A.size + B.size := by
  unfold Bt.need at hB
  omega
set_option maxHeartbeats 8000000 in
set_option maxRecDepth 100000 in
theorem Bk.rwrite_good (vs v : Value) (s : List Kn.C) (L : List Dd.D) (w : World) (hs : Kn.Cols w vs s) (hv : Bk.Ds w v L) (hz : Bk.Zs L) (hi : ∀ d ∈ L, ∀ x ∈ d.row, Ty.I64 x.n) (hw : Bk.wE s L = 0) :
    Calls Tryz.prog 10 #[vs, v] w fun e w' => e = .returned (Bk.wV s L) ∧ Below w.heap.size w w' := by
  obtain ⟨hr, h1, h8, hf, hso⟩ := Bk.wE_0 hw
  have hf0 : Bk.fitsE s L = 0 := by unfold Bk.fitsE; rw [if_pos (Bk.firstE_0.2 hf), if_pos hso]
  have hsl := Kn.right_len hr
  have cF := fun wz h1 h2 => Bk.rfits_c vs v s L wz h1 h2 hz
  have cR := Kn.rRight_c vs s w hs
  rw [hf0] at cF
  rw [hr] at cR
  have HW := Lib.hid (Bk.wV_ok hw)
  have hcw : ∀ j c, s[j]? = some c → Cl.wE c (Bk.col L j) = 0 := fun j c hc => Bk.col_fit hr h8 hf hc
  have HLN := Lib.hid (Bk.encC_len (s := s) (L := L) fun j c hc => Bk.enc_le (hcw j c hc) (Bk.col_le h8 j))
  have HCW := Lib.hid hcw
  have HEL : Hid (∀ (j : Nat) (c : Kn.C), s[j]? = some c → (Cl.enc c (Bk.col L j)).length ≤ 1048576) := Lib.hid fun j c hc => Bk.enc_le (hcw j c hc) (Bk.col_le h8 j)
  have CK := Lib.hid fun (j : Nat) (c : Kn.C) (hc : s[j]? = some c) wz h => Bk.rcolumn_c v L j h8 (by have := (List.getElem?_eq_some_iff.1 hc).1; omega) (Bk.col_has hf hc) wz h
  have CW := Lib.hid fun (j : Nat) (c : Kn.C) (hc : s[j]? = some c) u wz h => Cl.rwrite_c c u (Bk.col L j) wz h (Bk.col_i64 hf hi hc)
  have HBL : Hid ((Bk.bools L).length = 1) := Lib.hid (by rw [Bk.bools_one h1 h8]; rfl)
  have HGN : Hid (∀ (k : Nat) (d : Dd.D), L[k]? = some d → Bk.gones L k = d.gone) := Lib.hid fun k d h => Bk.gones_at h
  have HPN : Hid (∀ (k : Nat) (c : Kn.C), s[k]? = some c → Bk.pre s L (k + 1) = Bk.pre s L k ++ encT (Cl.enc c (Bk.col L k))) := Lib.hid fun k c h => Bk.pre_next h L
  have HV := Lib.hid hv
  have HS := Lib.hid hs
  have CF := Lib.hid cF
  have H8 := Lib.hid h8
  have H6 := Lib.hid hsl
  have hi1 : ¬ (L.length : Int) < 1 := by omega
  have hi2 : ¬ (8 : Int) < (L.length : Int) := by omega
  have hwk : IntKind.u64.wrap (L.length : Int) = (L.length : Int) := by rw [IntKind.wrap_u64]; omega
  have HWK := Lib.hid hwk
  rw [HW.out]
  clear hcw hf0 hf hso hw hr hz hi cF hwk h1 h8 hsl
  obtain ⟨a, c, rfl, hlc, hcm, h⟩ := hv
  obtain ⟨sa, sc, rfl, hsa⟩ := hs
  have HH := Lib.hid h
  have HSA := Lib.hid hsa
  clear h hsa
  go_enter Tryz.func10, Tryz.ntmps10
  go_wp2_with fail
  with_reducible refine cR.mono ?_
  rintro e w1 ⟨rfl, rfl⟩
  go_wp2_with fail
  with_reducible refine (CF.out _ HS.out HV.out).mono ?_
  rintro e w2 ⟨rfl, g2⟩
  have HG2 := Lib.hid g2
  clear cR g2
  go_wp2_with fail
  go_loopw [7, 8] (fun nv i wr => ∃ k : Nat, k ≤ L.length ∧ i = .int .i64 k ∧ Bt.Buf 4 w1.heap.size wr nv k (Bt.bv (Bk.gones L)) ∧ Below w1.heap.size w1 wr) (fun _ i _ => L.length - (intOf i).toNat)
  case atStart => exact ⟨0, Nat.zero_le _, rfl, Bt.Buf.nil _ _ _ _, HG2.out⟩
  case round =>
    obtain ⟨k, hkl, rfl, hO, hb⟩ := hrel
    have HB := Lib.hid hb
    have HO := Lib.hid hO
    clear hO
    by_cases hlt : k < L.length
    · rcases HH.out with rfl | ⟨b, o, rfl, hbl, hc⟩
      · simp at hlt
      · have hx := List.getElem?_eq_getElem hlt
        generalize L[k] = d at hx
        obtain ⟨u0, c0, c1, _⟩ := hc k d hx
        have c0 := (hb.cell (p := ⟨b, o + k * 2, none⟩) hbl).trans c0
        have dk : (k : Int) < (L.length : Int) := by omega
        have dk0 : (0 : Int) ≤ (k : Int) := by omega
        have HX := Lib.hid hx
        have HC := Lib.hid hc
        have HK := Lib.hid hlt
        have hws := hb.size
        have hOq := HO.out
        have hk8 : k + 1 ≤ 8 := by have := H8.out; omega
        clear hc hx c1 hlt hkl hb
        go_wp2_with (at_builtin; refine Bt.wpList_append_one 4 49 (.bool false) 1 Tryz.underlying49 Bt.infoB rfl hOq (by omega) (by omega) (by omega) (.tmp 36) (.tmp 42) _ rfl rfl rfl rfl rfl ?_; intro v5 w5 h5 g5)
        have H5 := Lib.hid (h5 (by unfold Bt.bv; rw [HGN.out k d HX.out]))
        have HB5 := Lib.hid (Cl.grew_below HB.out hOq g5)
        clear h5 g5 hOq
        go_roundw
        case rel => exact ⟨k + 1, HK.out, by simp, H5.out, HB5.out⟩
        case measure => (have := HK.out; simp [intOf]; omega)
    · obtain rfl : k = L.length := by omega
      have dk : ¬ (L.length : Int) < (L.length : Int) := by omega
      clear hlt hkl hb
      have hwz := HWK.out
      go_wp2_with fail
      with_reducible refine (Ty.ruint_nat L.length _).mono ?_
      rintro e w3 ⟨rfl, g3⟩
      have HB3 := Lib.hid (HB.out.trans (g3.mono HB.out.size))
      have HO3 := Lib.hid (HO.out.kept g3).sl
      have hl9 : L.length ≤ 140737488355328 := Nat.le_trans H8.out (by decide)
      clear dk
      clear g3
      go_wp2_with fail
      with_reducible refine (Bt.rbytes_c _ L.length (Bk.gones L) _ HO3.out hl9).mono ?_
      rintro e w4 ⟨rfl, g4⟩
      have HB4 := Lib.hid (HB3.out.trans (g4.mono HB3.out.size))
      clear g4 hl9
      obtain ⟨A, hA⟩ : ∃ A, A = Ty.S (Ty.encU L.length) := ⟨_, rfl⟩
      obtain ⟨B, hBB⟩ : ∃ B, B = Bt.bytes (Bt.need L.length) (Bt.tr L.length (Bk.gones L)) := ⟨_, rfl⟩
      have n1 : ¬ 9223372036854775807 < A.size + B.size := Bk.one_byte (by rw [hA]; exact Ty.encU_len9 L.length) (by rw [hBB]; exact Bt.size_bytes _ _) H8.out
      have HAB : Hid (Ty.S (Bk.pre s L 0) = A ++ B) := Lib.hid (by rw [hA, hBB]; exact Bk.pre_zero s L)
      rw [← hA, ← hBB]
      clear hA hBB HO3 HO hwz hi1 hi2
      go_wp2_with fail
      go_loopw [9, 10] (fun out i wr2 => ∃ k : Nat, k ≤ s.length ∧ i = .int .i64 k ∧ out = .string (Ty.S (Bk.pre s L k)) ∧ Below w1.heap.size w1 wr2) (fun _ i _ => s.length - (intOf i).toNat)
      case atStart => exact ⟨0, Nat.zero_le _, rfl, by rw [HAB.out], HB4.out⟩
      case round =>
        obtain ⟨k, hkl, rfl, rfl, hb⟩ := hrel
        have HB5 := Lib.hid hb
        have hpl : (Ty.S (Bk.pre s L k)).size ≤ 6291520 := Bk.pre_size HBL.out (HLN.out k hkl) (Nat.le_trans hkl H6.out.2)
        have HPL := Lib.hid hpl
        clear hpl
        by_cases hlt : k < s.length
        · rcases HSA.out with rfl | ⟨b, o, rfl, hbl, hm, hc⟩
          · simp at hlt
          · have hx := List.getElem?_eq_getElem hlt
            generalize s[k] = cc at hx
            have c0 := (hb.cell (p := ⟨b, o + k * 2, none⟩) hbl).trans (hc k cc hx).1
            have c1 := (hb.cell (p := ⟨b, o + k * 2 + 1, none⟩) hbl).trans (hc k cc hx).2
            have dk : (k : Int) < (s.length : Int) := by omega
            have dk0 : (0 : Int) ≤ (k : Int) := by omega
            have HK := Lib.hid hlt
            have HX := Lib.hid hx
            have HC := Lib.hid hc
            have hbr : b < wr.heap.size := Nat.lt_of_lt_of_le hbl hb.size
            have hHS : ∀ W, Below wr.heap.size wr W → W.cell? ⟨b, o + k * 2, none⟩ = some (.int .i64 cc.k) ∧ W.cell? ⟨b, o + k * 2 + 1, none⟩ = some (.bool cc.null) := fun W g =>
              ⟨(g.cell (p := ⟨b, o + k * 2, none⟩) hbr).trans c0, (g.cell (p := ⟨b, o + k * 2 + 1, none⟩) hbr).trans c1⟩
            have HHS := Lib.hid hHS
            have HDR : Hid (Below wr.heap.size wr wr.drew) := Lib.hid (Bt.drewN_below wr 1)
            have HVD := Lib.hid (HV.out.later (hb.trans (HDR.out.mono hb.size)))
            have CK2 := Lib.hid (CK.out k cc HX.out)
            have hCW : ∀ u wz, Kn.Vals wz u (Bk.col L k) → Calls Tryz.prog 28 #[.agg #[.int .i64 cc.k, .bool cc.null], u] wz fun e w' => e = .returned (.tuple #[.string (Ty.S (Cl.enc cc (Bk.col L k))), .int .i64 0]) ∧ Below wz.heap.size wz w' := fun u wz h => by
              have := CW.out k cc HX.out u wz h
              rw [Cl.wV_ok (HCW.out k cc HX.out)] at this
              exact this
            have HE1 := HEL.out k cc HX.out
            have HP1 := HPN.out k cc HX.out
            generalize Cl.enc cc (Bk.col L k) = E at hCW HE1 HP1
            have CW2 := Lib.hid hCW
            have hE9 : (Ty.S E).size ≤ 140737488351232 := by rw [Ty.size_S]; omega
            have CT : Hid (∀ wz, Calls Tryz.prog 30 #[.string (Ty.S E)] wz fun e w' => e = .returned (.string (Ty.S (encT E))) ∧ Below wz.heap.size wz w') := Lib.hid fun wz => Ty.rtext_c (Ty.S E) hE9 wz
            have HPR := Lib.hid HP1
            have hpl := HPL.out
            have htl : (Ty.S (encT E)).size ≤ 1048585 := Bk.txt_size HE1
            have n2 : ¬ 9223372036854775807 < (Ty.S (Bk.pre s L k)).size + (Ty.S (encT E)).size := Bk.no_wrap hpl htl
            clear hpl htl hE9 HE1 HP1 hCW hHS c0 c1 hc hx hlt hkl hb hbl
            go_upto_region 17 with (fail)
            go_region_held3 (fun W => W.cell? ⟨b, o + k * 2, none⟩ = some (.int .i64 cc.k) ∧ W.cell? ⟨b, o + k * 2 + 1, none⟩ = some (.bool cc.null))
              (first
                | exact HHS.out _ HDR.out
                | exact HHS.out _ (HDR.out.trans (g5.mono HDR.out.size))
                | exact HHS.out _ (HDR.out.trans ((g5.trans (g6.mono g5.size)).mono HDR.out.size)))
              (first
                | (go_at_call 29; (with_reducible refine (CK2.out _ HVD.out).mono ?_); rintro e w5 ⟨u, rfl, hu, g5⟩)
                | (go_at_call 28; (with_reducible refine (CW2.out u _ hu).mono ?_); rintro e w6 ⟨rfl, g6⟩))
            have hg6 := HDR.out.trans ((g5.trans (g6.mono g5.size)).mono HDR.out.size)
            have HB6 := Lib.hid (HB5.out.trans (hg6.mono HB5.out.size))
            clear hu g5 g6 hg6
            go_wp2_with fail
            with_reducible refine (CT.out _).mono ?_
            rintro e w7 ⟨rfl, g7⟩
            have HB7 := Lib.hid (HB6.out.trans (g7.mono HB6.out.size))
            clear g7
            go_wp2
            go_roundw
            case rel => exact ⟨k + 1, HK.out, by simp, (by rw [HPR.out, ← Ig.S_add]), HB7.out⟩
            case measure =>
              simp [intOf]
              exact Bk.meas2 HK.out
        · obtain rfl : k = s.length := by omega
          have dk : ¬ (s.length : Int) < (s.length : Int) := by omega
          rw [Bk.pre_all]
          clear hlt hkl hb HPL
          go_wp2
          go_ret2
          exact ⟨rfl, HB5.out⟩
theorem Bk.rwrite_c (vs v : Value) (s : List Kn.C) (L : List Dd.D) (w : World) (hs : Kn.Cols w vs s) (hv : Bk.Ds w v L) (hz : Bk.Zs L) (hi : ∀ d ∈ L, ∀ x ∈ d.row, Ty.I64 x.n) :
    Calls Tryz.prog 10 #[vs, v] w fun e w' => e = .returned (Bk.wV s L) ∧ Below w.heap.size w w' := by
  by_cases h : Bk.wE s L = 0
  · exact Bk.rwrite_good vs v s L w hs hv hz hi h
  · exact Bk.rwrite_bad vs v s L w hs hv hz h
end Go.Proofs.YtfbjmehkipcmbaaGreatDoor

namespace Go.Proofs.YtfbjmehkipcmbaaGreatDoor
open Go.RowKit
theorem Bk.same_self (d : Dd.D) : Dd.same d d = true := by
  unfold Dd.same
  rw [Kn.sameR_self]
  simp
set_option maxHeartbeats 4000000 in
set_option maxRecDepth 100000 in
theorem Bk.rsame_c (u v : Value) (L : List Dd.D) (w : World) (hu : Bk.Ds w u L) (hv : Bk.Ds w v L) :
    Calls Tryz.prog 15 #[u, v] w fun e w' => e = .returned (.bool true) ∧ Below w.heap.size w w' := by
  obtain ⟨a, c, rfl, hlc, hcm, h⟩ := hu
  obtain ⟨a2, c2, rfl, hlc2, hcm2, h2⟩ := hv
  have HH := Lib.hid h
  have HH2 := Lib.hid h2
  clear h h2
  have hz : ((L.length : Int) != (L.length : Int)) = false := by simp
  go_enter Tryz.func15, Tryz.ntmps15
  go_wp2_with fail
  go_loopw [5] (fun i wr => ∃ k : Nat, k ≤ L.length ∧ i = .int .i64 k ∧ Below w.heap.size w wr) (fun i _ => L.length - (intOf i).toNat)
  case atStart => exact ⟨0, Nat.zero_le _, rfl, Below.refl _ _⟩
  case round =>
    obtain ⟨k, hk, rfl, hg⟩ := hrel
    have HG := Lib.hid hg
    by_cases hkl : k < L.length
    · rcases HH.out with rfl | ⟨b, o, rfl, hlt, hc⟩
      · simp at hkl
      · rcases HH2.out with rfl | ⟨b2, o2, rfl, hlt2, hc2⟩
        · simp at hkl
        · have hx := List.getElem?_eq_getElem hkl
          generalize L[k] = d at hx
          obtain ⟨u0, c0, c1, hu⟩ := hc k d hx
          obtain ⟨u2, d0, d1, hu2⟩ := hc2 k d hx
          have hu := hu.later hg
          have hu2 := hu2.later hg
          have c0 := (hg.cell (p := ⟨b, o + k * 2, none⟩) hlt).trans c0
          have c1 := (hg.cell (p := ⟨b, o + k * 2 + 1, none⟩) hlt).trans c1
          have d0 := (hg.cell (p := ⟨b2, o2 + k * 2, none⟩) hlt2).trans d0
          have d1 := (hg.cell (p := ⟨b2, o2 + k * 2 + 1, none⟩) hlt2).trans d1
          have dk : (k : Int) < (L.length : Int) := by omega
          have dk0 : (0 : Int) ≤ (k : Int) := by omega
          have HK := Lib.hid hkl
          have hm : L.length ≤ 9223372036854775807 := Nat.le_trans hlc hcm
          have C0 := fun d os => cell_regrown c0 d os
          have C1 := fun d os => cell_regrown c1 d os
          have D0 := fun d os => cell_regrown d0 d os
          have D1 := fun d os => cell_regrown d1 d os
          have CS : Hid (∀ p : Regrown, _) := Lib.hid fun p : Regrown => Calls.regrown_of (d := p.d) (os := p.os) (w := wr) (Dd.rsame_c u0 u2 d d _ (hu.later (below_regrown wr p.d p.os)) (hu2.later (below_regrown wr p.d p.os)))
          rw [Bk.same_self] at CS
          obtain ⟨ua, uc, e1, -⟩ := hu
          obtain ⟨ub, ud, e2, -⟩ := hu2
          have HC := Lib.hid hc
          have HC2 := Lib.hid hc2
          clear c0 c1 d0 d1 hc hc2 hx hkl hk hg
          subst e1 e2
          go_upto_region 6 with (fail)
          refine wp_region_quiet_below (by kernel_rfl) (by kernel_rfl) ?_
          repeat (go_big_quiet_step (first | with_reducible exact CS.out _))
          refine wpQuiet_nil ?_
          intro _ hw'
          have HG2 := Lib.hid (HG.out.trans ((Bk.below_reg hw').mono HG.out.size))
          go_wp2
          go_roundw
          case rel => exact ⟨k + 1, HK.out, by simp, HG2.out⟩
          case measure => (have := HK.out; simp [intOf]; omega)
    · obtain rfl : k = L.length := by omega
      have dk : ¬ (L.length : Int) < (L.length : Int) := by omega
      clear hk hkl hg
      go_wp2
      go_ret
      exact ⟨rfl, HG.out⟩
end Go.Proofs.YtfbjmehkipcmbaaGreatDoor

namespace Go.Proofs.YtfbjmehkipcmbaaGreatDoor
open Go
open Ty (num txt encU U64 I64)
open Ig (rest)
theorem Bk.rd_k {s : List Kn.C} {l : List UInt8} (h : Kn.right s = false) : Bk.rd s l = (4, []) := by unfold Bk.rd; rw [if_pos h]
theorem Bk.rd_h {s : List Kn.C} {l : List UInt8} (h : Kn.right s = true) (h1 : (num l).2.2 ≠ 0) : Bk.rd s l = (8, []) := by unfold Bk.rd; rw [if_neg (by rw [h]; decide), if_pos h1]
theorem Bk.rd_e {s : List Kn.C} {l : List UInt8} (h : Kn.right s = true) (h1 : (num l).2.2 = 0) (h2 : rest l = []) : Bk.rd s l = (8, []) := by
  unfold Bk.rd; rw [if_neg (by rw [h]; decide), if_neg (by rw [h1]; simp), h2]
theorem Bk.rd_b {s : List Kn.C} {l : List UInt8} (h : Kn.right s = true) (h1 : (num l).2.2 = 0) {b : UInt8} {r : List UInt8} (h2 : rest l = b :: r) (h3 : (num l).1 < 1 ∨ 8 < (num l).1 ∨ b.toNat / 2 ^ (num l).1 ≠ 0) : Bk.rd s l = (8, []) := by
  unfold Bk.rd; rw [if_neg (by rw [h]; decide), if_neg (by rw [h1]; simp), h2]
  dsimp only
  rw [if_pos h3]
def Bk.rdE (s : List Kn.C) (n : Nat) (b : UInt8) (r : List UInt8) : Nat × List Dd.D :=
  match Bk.rdC 0 s (Bk.none_ n b) r with
  | none => (8, [])
  | some (L, r') => if r' = [] ∧ Bk.sorted L = true then (0, L) else (8, [])
theorem Bk.rd_g {s : List Kn.C} {l : List UInt8} (h : Kn.right s = true) (h1 : (num l).2.2 = 0) {b : UInt8} {r : List UInt8} (h2 : rest l = b :: r) (h3 : ¬ ((num l).1 < 1 ∨ 8 < (num l).1 ∨ b.toNat / 2 ^ (num l).1 ≠ 0)) : Bk.rd s l = Bk.rdE s (num l).1 b r := by
  unfold Bk.rd Bk.rdE; rw [if_neg (by rw [h]; decide), if_neg (by rw [h1]; simp), h2]
  dsimp only
  rw [if_neg h3]
  generalize Bk.rdC 0 s (Bk.none_ (num l).1 b) r = o
  cases o <;> rfl
def Bk.lv (L : List Dd.D) : Nat := (L.filter fun d => !d.gone).length
theorem Bk.dist_size (i : Nat) : ∀ (L : List Dd.D) (vs : List Kn.V), (Bk.dist i L vs).length = L.length
  | [], _ => rfl
  | d :: r, vs => by
    unfold Bk.dist
    split
    · rw [List.length_cons, List.length_cons, Bk.dist_size i r]
    · rw [List.length_cons, List.length_cons, Bk.dist_size i r]
theorem Bk.dist_lv (i : Nat) : ∀ (L : List Dd.D) (vs : List Kn.V), Bk.lv (Bk.dist i L vs) = Bk.lv L
  | [], _ => rfl
  | d :: r, vs => by
    have h1 := Bk.dist_lv i r vs.tail
    have h2 := Bk.dist_lv i r vs
    unfold Bk.lv at h1 h2 ⊢
    unfold Bk.dist
    split
    · cases hg : d.gone <;> simp [hg, h1]
    · cases hg : d.gone <;> simp [hg, h2]
def Bk.MidC (s : List Kn.C) (A0 : List Dd.D) (r : List UInt8) (k : Nat) (A : List Dd.D) (l2 : List UInt8) : Prop :=
  k ≤ s.length ∧ A.length = A0.length ∧ Bk.lv A = Bk.lv A0 ∧ Bk.rdC 0 s A0 r = Bk.rdC k (s.drop k) A l2
def Bk.okC (c : Kn.C) (k : Nat) (A : List Dd.D) (l : List UInt8) : Prop := (txt l Bk.most).2.2 = 0 ∧ (Cl.rd c (txt l Bk.most).1).1 = 0 ∧ (Cl.rd c (txt l Bk.most).1).2.length = (A.filter (Bk.has k)).length
theorem Bk.MidC.fail {s : List Kn.C} {A0 A : List Dd.D} {r l2 : List UInt8} {k : Nat} (h : Bk.MidC s A0 r k A l2) {c : Kn.C} (hc : s[k]? = some c) (hn : ¬ Bk.okC c k A l2) : Bk.rdC 0 s A0 r = none := by
  obtain ⟨_, _, _, h4⟩ := h
  obtain ⟨h1, rfl⟩ := List.getElem?_eq_some_iff.1 hc
  rw [h4, List.drop_eq_getElem_cons h1]
  unfold Bk.rdC
  exact if_neg hn
theorem Bk.MidC.next {s : List Kn.C} {A0 A : List Dd.D} {r l2 : List UInt8} {k : Nat} (h : Bk.MidC s A0 r k A l2) {c : Kn.C} (hc : s[k]? = some c) (hn : Bk.okC c k A l2) : Bk.MidC s A0 r (k + 1) (Bk.dist k A (Cl.rd c (txt l2 Bk.most).1).2) (Bk.restM l2) := by
  obtain ⟨_, a2, a3, h4⟩ := h
  obtain ⟨h1, rfl⟩ := List.getElem?_eq_some_iff.1 hc
  refine ⟨h1, by rw [Bk.dist_size]; exact a2, by rw [Bk.dist_lv]; exact a3, ?_⟩
  rw [h4, List.drop_eq_getElem_cons h1]
  conv => lhs; unfold Bk.rdC
  exact if_pos hn
theorem Bk.MidC.done {s : List Kn.C} {A0 A : List Dd.D} {r l2 : List UInt8} {k : Nat} (h : Bk.MidC s A0 r k A l2) (hk : k = s.length) : Bk.rdC 0 s A0 r = some (A, l2) := by
  obtain ⟨_, _, _, h4⟩ := h
  rw [h4, hk, List.drop_length]
  rfl
theorem Bk.rdE_fail {s : List Kn.C} {n : Nat} {b : UInt8} {r : List UInt8} (h : Bk.rdC 0 s (Bk.none_ n b) r = none) : Bk.rdE s n b r = (8, []) := by unfold Bk.rdE; rw [h]
theorem Bk.rdE_bad {s : List Kn.C} {n : Nat} {b : UInt8} {r l2 : List UInt8} {A : List Dd.D} (h : Bk.rdC 0 s (Bk.none_ n b) r = some (A, l2)) (h2 : ¬ (l2 = [] ∧ Bk.sorted A = true)) : Bk.rdE s n b r = (8, []) := by
  unfold Bk.rdE; rw [h]
  exact if_neg h2
theorem Bk.rdE_good {s : List Kn.C} {n : Nat} {b : UInt8} {r l2 : List UInt8} {A : List Dd.D} (h : Bk.rdC 0 s (Bk.none_ n b) r = some (A, l2)) (h2 : l2 = []) (h3 : Bk.sorted A = true) : Bk.rdE s n b r = (0, A) := by
  unfold Bk.rdE; rw [h]
  exact if_pos ⟨h2, h3⟩
def Bk.MidD (i : Nat) (A : List Dd.D) (vs : List Kn.V) (B : List Dd.D) (j at_ : Nat) : Prop :=
  B.length = A.length ∧ j ≤ A.length ∧ B.drop j = A.drop j ∧ at_ + ((A.drop j).filter (Bk.has i)).length = vs.length ∧ Bk.dist i A vs = B.take j ++ Bk.dist i (A.drop j) (vs.drop at_)
theorem Bk.MidD.at_ {i : Nat} {A B : List Dd.D} {vs : List Kn.V} {j at_ : Nat} (h : Bk.MidD i A vs B j at_) : B[j]? = A[j]? := by
  have := congrArg (fun l => l[0]?) h.2.2.1
  simpa using this
theorem Bk.MidD.done {i : Nat} {A B : List Dd.D} {vs : List Kn.V} {j at_ : Nat} (h : Bk.MidD i A vs B j at_) (hj : j = A.length) : Bk.dist i A vs = B := by
  obtain ⟨h1, _, _, _, h5⟩ := h
  rw [h5, hj, List.drop_length, ← h1, List.take_length]
  simp [Bk.dist]
def Bk.mk (n : Nat) (b : UInt8) (j : Nat) : List Dd.D := (List.range n).map fun i => if i < j then ⟨b.toNat.testBit i, []⟩ else Bk.nod
end Go.Proofs.YtfbjmehkipcmbaaGreatDoor

namespace Go.Proofs.YtfbjmehkipcmbaaGreatDoor
open Go.RowKit
def Bk.df (L : List Dd.D) (R : Nat → Value) (i : Nat) : Value := if i % 2 = 0 then .bool (L.getD (i / 2) Bk.nod).gone else R (i / 2)
structure Bk.St (base q : Nat) (w : World) (R : Nat → Value) (L : List Dd.D) : Prop where
  row : w.rowIs q 37 (L.length * 2) (Bk.df L R)
  own : ∀ i x, L[i]? = some x → Cl.Own base w (R i) x.row
  sep : ∀ i j b, i < L.length → j < L.length → i ≠ j → (R i).ownBlock = some b → (R j).ownBlock ≠ some b
  lt : q < base
  le : base ≤ w.heap.size
variable {base q : Nat} {w w' : World} {R : Nat → Value} {L : List Dd.D}
theorem Bk.St.cells (h : Bk.St base q w R L) {k : Nat} {d : Dd.D} (hk : L[k]? = some d) : w.cell? ⟨q, k * 2, none⟩ = some (.bool d.gone) ∧ w.cell? ⟨q, k * 2 + 1, none⟩ = some (R k) ∧ w.frozen? ⟨q, k * 2, none⟩ = false ∧ w.frozen? ⟨q, k * 2 + 1, none⟩ = false := by
  have hl := (List.getElem?_eq_some_iff.1 hk).1
  refine ⟨?_, ?_, h.row.frozen _, h.row.frozen _⟩
  · rw [h.row.cell (by omega)]
    unfold Bk.df
    rw [if_pos (by omega), show k * 2 / 2 = k by omega, List.getD_eq_getElem?_getD, hk]
    rfl
  · rw [h.row.cell (by omega)]
    unfold Bk.df
    rw [if_neg (by omega), show (k * 2 + 1) / 2 = k by omega]
theorem Bk.St.ob {i : Nat} {x : Dd.D} (h : Bk.St base q w R L) (hi : L[i]? = some x) : ∀ b, (R i).ownBlock = some b → base ≤ b ∧ b < w.heap.size := fun b hb => World.ownsRow.lt (h.own i x hi) b hb
theorem Bk.St.same (h : Bk.St base q w R L) (hs : w.heap.size ≤ w'.heap.size) (g : ∀ b, (b = q ∨ base ≤ b) → b < w.heap.size → w'.heap[b]? = w.heap[b]?) : Bk.St base q w' R L := by
  refine ⟨h.row.of_block (g q (.inl rfl) h.row.lt), fun i x hx => ?_, h.sep, h.lt, Nat.le_trans h.le hs⟩
  have ho := h.own i x hx
  refine ⟨ho.1, ?_⟩
  rcases ho.2 with hn | ⟨b, cap, cur, e, hbb, hgg, rest⟩
  · exact .inl hn
  · exact .inr ⟨b, cap, cur, e, hbb, by rw [g b (.inr hbb) (lt_of_block hgg)]; exact hgg, rest⟩
theorem Bk.St.kept (h : Bk.St base q w R L) (g : Below w.heap.size w w') : Bk.St base q w' R L := h.same g.size fun b _ hb => g.block b hb
theorem Bk.St.by_ {r : Nat} (h : Bk.St base q w R L) (g : w.grownBy w' (some r)) (hr : r < base) (hq : q ≠ r) : Bk.St base q w' R L :=
  h.same g.size fun b hb hbs => g.block b hbs (fun e => by
    have := Option.some.inj e
    rcases hb with rfl | hb <;> omega)
theorem Bk.St.alloc (h : Bk.St base q w R L) (o : Obj) : Bk.St base q (w.alloc o) R L := h.kept ((Below.refl _ w).alloc (Nat.le_refl _) o)
theorem Bk.St.ds (h : Bk.St base q w R L) (hl : L.length ≤ 8) (c : Nat) (hc : c = L.length) : Bk.Ds w (.slice (some ⟨q, 0, none⟩) L.length c) L := by
  subst hc
  refine ⟨_, L.length, rfl, Nat.le_refl _, by omega, .inr ⟨q, 0, rfl, h.row.lt, fun i x hx => ?_⟩⟩
  obtain ⟨c0, c1, _⟩ := h.cells hx
  rw [Nat.zero_add]
  exact ⟨R i, c0, c1, (h.own i x hx).vals⟩
theorem Bk.St.grow (h : Bk.St base q w R L) {k : Nat} {d : Dd.D} (hk : L[k]? = some d) {x : Kn.V} {v' : Value} (ho : Cl.Own base w' v' (d.row ++ [x])) (g : Ty.Grew w w' (R k) v') :
    Bk.St base q (w'.setCell ⟨q, k * 2 + 1, none⟩ v') (fun i => if i = k then v' else R i) (L.set k ⟨d.gone, d.row ++ [x]⟩) := by
  have hl := (List.getElem?_eq_some_iff.1 hk).1
  have hqk : ∀ b, (R k).ownBlock = some b → b ≠ q := fun b hb => by have := (h.ob hk b hb).1; have := h.lt; omega
  have hrow : w'.rowIs q 37 (L.length * 2) (Bk.df L R) := h.row.of_block (g.by_.block q h.row.lt (fun e => hqk q e.symm rfl))
  have hset : ∀ b, b ≠ q → (w'.setCell ⟨q, k * 2 + 1, none⟩ v').heap[b]? = w'.heap[b]? := fun b hb => Below.heap_setCell _ _ _ _ hb
  have hown : ∀ b, base ≤ b → b ≠ q := fun b hb => by have := h.lt; omega
  refine ⟨?_, fun i y hy => ?_, fun i j b hi hj hij hb => ?_, h.lt, by have := h.le; have := g.by_.size; simp only [World.setCell, Array.size_modify]; omega⟩
  · rw [List.length_set]
    refine (World.rowIs.set hrow (k * 2 + 1) v').congr fun i hi => ?_
    unfold Bk.df
    by_cases e : i = k * 2 + 1
    · subst e
      rw [if_pos rfl, if_neg (by omega)]
      dsimp only
      rw [if_pos (by omega)]
    · rw [if_neg e]
      by_cases e2 : i % 2 = 0
      · rw [if_pos e2, if_pos e2]
        congr 1
        simp only [List.getD_eq_getElem?_getD, List.getElem?_set]
        by_cases e3 : k = i / 2
        · rw [if_pos e3, if_pos (by omega), ← e3, hk]
          rfl
        · rw [if_neg e3]
      · rw [if_neg e2, if_neg e2]
        dsimp only
        rw [if_neg (by omega)]
  · rw [List.getElem?_set] at hy
    by_cases e : k = i
    · subst e
      rw [if_pos rfl, if_pos hl] at hy
      obtain rfl := Option.some.inj hy
      rw [if_pos rfl]
      refine ⟨ho.1, ?_⟩
      rcases ho.2 with hn | ⟨b, cap, cur, e, hbb, hgg, rest⟩
      · exact .inl hn
      · exact .inr ⟨b, cap, cur, e, hbb, by rw [hset b (hown b hbb)]; exact hgg, rest⟩
    · rw [if_neg e] at hy
      rw [if_neg (fun e2 => e e2.symm)]
      have hio := h.own i y hy
      refine ⟨hio.1, ?_⟩
      rcases hio.2 with hn | ⟨b, cap, cur, e4, hbb, hgg, rest⟩
      · exact .inl hn
      · have hob : (R i).ownBlock = some b := by rw [e4]; rfl
        have hil := (List.getElem?_eq_some_iff.1 hy).1
        refine .inr ⟨b, cap, cur, e4, hbb, ?_, rest⟩
        rw [hset b (hown b hbb), g.by_.block b (lt_of_block hgg) (fun e5 => h.sep i k b hil hl (fun e6 => e e6.symm) hob e5.symm)]
        exact hgg
  · rw [List.length_set] at hi hj
    have hnew : ∀ (m : Nat) (c : Nat), m < L.length → m ≠ k → (R m).ownBlock = some c → v'.ownBlock ≠ some c := fun m c hm hmk hc hv => by
      have hml := List.getElem?_eq_getElem hm
      rcases g.own with e | ⟨n, e, hn⟩
      · rw [e] at hv
        exact h.sep m k c hm hl hmk hc hv
      · rw [e] at hv
        have := (h.ob hml c hc).2
        have := Option.some.inj hv
        omega
    by_cases ei : i = k
    · have ej : j ≠ k := fun e => hij (ei.trans e.symm)
      simp only [if_pos ei] at hb
      simp only [if_neg ej]
      intro hc
      exact hnew j b hj ej hc hb
    · by_cases ej : j = k
      · simp only [if_neg ei] at hb
        simp only [if_pos ej]
        exact hnew i b hi ei hb
      · simp only [if_neg ei] at hb
        simp only [if_neg ej]
        exact h.sep i j b hi hj hij hb
end Go.Proofs.YtfbjmehkipcmbaaGreatDoor

namespace Go.Proofs.YtfbjmehkipcmbaaGreatDoor
open Go.RowKit
open Ty (num txt)
open Ig (rest sg)
open Tx (restT)
def Dd.RdV (r : Nat) (s : ByteArray) (w : World) (t : Nat × Kn.V × List UInt8) (e : Ending) (w' : World) : Prop :=
  e = .returned (.tuple #[.agg #[.bool t.2.1.null, .int .i64 t.2.1.n, .string t.2.1.s], .int .i64 ((t.1 : Nat) : Int)]) ∧ (t.1 = 0 → Ty.RS r s w' t.2.2 0) ∧ w.grownBy w' (some r)
end Go.Proofs.YtfbjmehkipcmbaaGreatDoor

namespace Go.Proofs.YtfbjmehkipcmbaaGreatDoor
open Go.RowKit
open Ty (I64)
open Ig (encI)
open Tx (encT)
def Dd.wS (s : List Kn.C) (d : Dd.D) : List UInt8 := if Dd.fitE s d = 0 then Dd.enc s d else []
def Dd.wV (s : List Kn.C) (d : Dd.D) : Value := .tuple #[.string (Ty.S (Dd.wS s d)), .int .i64 (Dd.fitE s d)]
theorem Dd.wV_bad {s : List Kn.C} {d : Dd.D} (h : Dd.fitE s d ≠ 0) : Dd.wV s d = .tuple #[.string (Ty.S []), .int .i64 (Dd.fitE s d)] := by
  unfold Dd.wV Dd.wS
  rw [if_neg h]
theorem Dd.wV_ok {s : List Kn.C} {d : Dd.D} (h : Dd.fitE s d = 0) : Dd.wV s d = .tuple #[.string (Ty.S (Dd.enc s d)), .int .i64 0] := by
  unfold Dd.wV Dd.wS
  rw [h, if_pos rfl]
def Dd.pre (s : List Kn.C) (g : Bool) (r : List Kn.V) (k : Nat) : List UInt8 := Dd.flag g :: Dd.encR (s.take k) (r.take k)
theorem Dd.pre_step {s : List Kn.C} {g : Bool} {r : List Kn.V} {k : Nat} {c : Kn.C} {v : Kn.V} (hc : s[k]? = some c) (hv : r[k]? = some v) : Dd.pre s g r (k + 1) = Dd.pre s g r k ++ Dd.encV c v := by
  obtain ⟨h1, rfl⟩ := List.getElem?_eq_some_iff.1 hc
  obtain ⟨h2, rfl⟩ := List.getElem?_eq_some_iff.1 hv
  unfold Dd.pre
  rw [List.take_succ_eq_append_getElem h1, List.take_succ_eq_append_getElem h2, Dd.encR_snoc _ _ _ _ (by rw [List.length_take, List.length_take]; omega)]
  rfl
theorem Dd.pre_all {s : List Kn.C} {d : Dd.D} (h : Dd.fitE s d = 0) : Dd.pre s d.gone d.row d.row.length = Dd.enc s d := by
  obtain ⟨_, h2, _⟩ := Dd.fitE_0 h
  unfold Dd.pre Dd.enc
  rw [List.take_length]
  congr 1
  unfold Dd.cols at h2
  obtain ⟨g, r⟩ := d
  cases g
  · simp only [Bool.false_eq_true, if_false] at h2 ⊢
    rw [h2, List.take_length]
  · simp only [if_true] at h2 ⊢
    match s, r, h2 with
    | [], [], _ => rfl
    | [], _ :: _, h2 => simp at h2
    | c :: cs, [], h2 => simp at h2
    | c :: cs, [x], _ => simp [Dd.encR]
    | c :: cs, _ :: _ :: _, h2 => simp at h2
theorem Dd.encV_len {c : Kn.C} {v : Kn.V} (h : Kn.fits c v = true) : (Dd.encV c v).length ≤ 80 := by
  unfold Dd.encV
  rw [List.length_append]
  have h1 : (if c.null = true then [Dd.flag v.null] else []).length ≤ 1 := by split <;> simp
  have h2 : (if v.null = true then [] else Dd.encP c v).length ≤ 73 := by
    cases hn : v.null
    · rw [if_neg (by decide)]
      unfold Dd.encP
      by_cases hk : c.k = 1
      · rw [if_pos hk]
        have := Ty.encU_len9 (Ty.zig v.n).toNat
        unfold encI
        omega
      · rw [if_neg hk]
        have h64 := (Dd.fits_str hk h hn).2
        have := Ty.encU_len9 v.s.data.toList.length
        unfold encT
        rw [List.length_append]
        omega
    · simp
  omega
theorem Dd.encR_len : ∀ (s : List Kn.C) (r : List Kn.V), Kn.fitsAll s r = true → (Dd.encR s r).length ≤ 80 * r.length
  | [], [], _ => by simp [Dd.encR]
  | [], _ :: _, _ => by simp [Dd.encR]
  | _ :: _, [], _ => by simp [Dd.encR]
  | c :: cs, v :: vs, h => by
    simp only [Kn.fitsAll, Bool.and_eq_true] at h
    have h1 := Dd.encV_len h.1
    have h2 := Dd.encR_len cs vs h.2
    simp only [Dd.encR, List.length_append, List.length_cons]
    omega
theorem Dd.fitsAll_at : ∀ (s : List Kn.C) (r : List Kn.V) (k : Nat) (c : Kn.C) (v : Kn.V), Kn.fitsAll s r = true → s[k]? = some c → r[k]? = some v → Kn.fits c v = true
  | [], _, _, _, _, _, h, _ => by simp at h
  | _ :: _, [], _, _, _, _, _, h => by simp at h
  | a :: s, x :: r, 0, c, v, hf, hc, hv => by
    obtain rfl : a = c := by simpa using hc
    obtain rfl : x = v := by simpa using hv
    simp only [Kn.fitsAll, Bool.and_eq_true] at hf
    exact hf.1
  | a :: s, x :: r, k + 1, c, v, hf, hc, hv => by
    simp only [Kn.fitsAll, Bool.and_eq_true] at hf
    exact Dd.fitsAll_at s r k c v hf.2 (by simpa using hc) (by simpa using hv)
theorem Dd.fitsAll_take : ∀ (s : List Kn.C) (r : List Kn.V) (k : Nat), Kn.fitsAll s r = true → Kn.fitsAll (s.take k) (r.take k) = true
  | [], r, k, _ => by simp [Kn.fitsAll]
  | _ :: _, [], k, _ => by cases k <;> simp [Kn.fitsAll]
  | a :: s, x :: r, 0, _ => by simp [Kn.fitsAll]
  | a :: s, x :: r, k + 1, h => by
    simp only [Kn.fitsAll, Bool.and_eq_true, List.take_succ_cons] at h ⊢
    exact ⟨h.1, Dd.fitsAll_take s r k h.2⟩
theorem Dd.fit_at {s : List Kn.C} {d : Dd.D} (h : Dd.fitE s d = 0) : d.row.length ≤ 6 ∧ d.row.length ≤ s.length ∧ ∀ (k : Nat) (c : Kn.C) (v : Kn.V), s[k]? = some c → d.row[k]? = some v → Kn.fits c v = true := by
  obtain ⟨h1, h2, h3⟩ := Dd.fitE_0 h
  have hl := Kn.right_len h1
  have hc : (Dd.cols s d.gone).length ≤ s.length := by
    unfold Dd.cols
    split
    · rw [List.length_take]; omega
    · exact Nat.le_refl _
  refine ⟨by omega, by omega, fun k c v hk hv => ?_⟩
  refine Dd.fitsAll_at _ _ k c v h3 ?_ hv
  have hkl := (List.getElem?_eq_some_iff.1 hv).1
  unfold Dd.cols at h2 ⊢
  split
  · rename_i hg
    rw [if_pos hg, List.length_take] at h2
    rw [List.getElem?_take_of_lt (by omega)]
    exact hk
  · exact hk
theorem Dd.pre_len {s : List Kn.C} {d : Dd.D} (h : Dd.fitE s d = 0) {k : Nat} (hk : k ≤ d.row.length) : (Dd.pre s d.gone d.row k).length ≤ 500 := by
  obtain ⟨h1, h2, h3⟩ := Dd.fit_at h
  have hf : Kn.fitsAll (s.take k) (d.row.take k) = true := by
    obtain ⟨_, a2, a3⟩ := Dd.fitE_0 h
    have e : s.take k = (Dd.cols s d.gone).take k := by
      unfold Dd.cols at a2 ⊢
      split
      · rename_i hg
        rw [if_pos hg, List.length_take] at a2
        rw [List.take_take]
        congr 1
        omega
      · rfl
    rw [e]
    exact Dd.fitsAll_take _ _ k a3
  have := Dd.encR_len _ _ hf
  unfold Dd.pre
  rw [List.length_cons]
  have hl : (d.row.take k).length ≤ 6 := by rw [List.length_take]; omega
  omega
end Go.Proofs.YtfbjmehkipcmbaaGreatDoor

namespace Go.Proofs.YtfbjmehkipcmbaaGreatDoor
open Go.RowKit
open Ty (I64)
open Ig (encI)
open Tx (encT)
end Go.Proofs.YtfbjmehkipcmbaaGreatDoor

namespace Go.Proofs.YtfbjmehkipcmbaaGreatDoor
open Go.RowKit
open Ty (num txt)
def Dd.MidR (cs : List Kn.C) (l : List UInt8) (k : Nat) (M : List Kn.V) (l2 : List UInt8) : Prop :=
  M.length = k ∧ k ≤ cs.length ∧ Dd.rdR cs l = ((Dd.rdR (cs.drop k) l2).1, M ++ (Dd.rdR (cs.drop k) l2).2.1, (Dd.rdR (cs.drop k) l2).2.2)
theorem Dd.MidR.fail {cs : List Kn.C} {l : List UInt8} {k : Nat} {M : List Kn.V} {l2 : List UInt8} (h : Dd.MidR cs l k M l2) {c : Kn.C} (hc : cs[k]? = some c) (hq : (Dd.rdV c l2).1 ≠ 0) : (Dd.rdR cs l).1 = (Dd.rdV c l2).1 := by
  obtain ⟨_, _, h3⟩ := h
  obtain ⟨h1, rfl⟩ := List.getElem?_eq_some_iff.1 hc
  rw [h3, List.drop_eq_getElem_cons h1]
  simp only [Dd.rdR]
  rw [if_pos hq]
theorem Dd.MidR.next {cs : List Kn.C} {l : List UInt8} {k : Nat} {M : List Kn.V} {l2 : List UInt8} (h : Dd.MidR cs l k M l2) {c : Kn.C} (hc : cs[k]? = some c) (hq : (Dd.rdV c l2).1 = 0) : Dd.MidR cs l (k + 1) (M ++ [(Dd.rdV c l2).2.1]) (Dd.rdV c l2).2.2 := by
  obtain ⟨a1, _, h3⟩ := h
  obtain ⟨h1, rfl⟩ := List.getElem?_eq_some_iff.1 hc
  refine ⟨by rw [List.length_append, a1]; rfl, h1, ?_⟩
  rw [h3, List.drop_eq_getElem_cons h1]
  simp only [Dd.rdR]
  rw [if_neg (by rw [hq]; simp)]
  simp only [List.append_assoc, List.singleton_append]
theorem Dd.MidR.done {cs : List Kn.C} {l : List UInt8} {k : Nat} {M : List Kn.V} {l2 : List UInt8} (h : Dd.MidR cs l k M l2) (hk : k = cs.length) : Dd.rdR cs l = (0, M, l2) := by
  obtain ⟨_, _, h3⟩ := h
  rw [h3, hk, List.drop_length]
  simp [Dd.rdR]
def Dd.Fresh (B : Nat) (v : Value) : Prop := ∀ k, v.ownBlock = some k → B ≤ k
theorem Dd.Fresh.nil (B : Nat) : Dd.Fresh B (.slice none 0 0) := fun k h => by cases h
theorem Dd.Fresh.mono {B B' : Nat} {v : Value} (h : Dd.Fresh B v) (hb : B' ≤ B) : Dd.Fresh B' v := fun k hk => Nat.le_trans hb (h k hk)
def Dd.Got (w : World) (r : Nat × Dd.D) (e : Ending) (w' : World) : Prop :=
  ∃ u, e = .returned (.tuple #[.agg #[.bool r.2.gone, u], .int .i64 ((r.1 : Nat) : Int)]) ∧ Kn.Vals w' u r.2.row ∧ Dd.Fresh w.heap.size u ∧ Below w.heap.size w w'
theorem Dd.Got.bad {w w' : World} {r : Nat × Dd.D} {z : Int} {q : Nat} (hr : r = (q, ⟨false, []⟩)) (hz : z = (q : Int)) (g : Below w.heap.size w w') : Dd.Got w r (.returned (.tuple #[.agg #[.bool false, .slice none 0 0], .int .i64 z])) w' :=
  ⟨_, by rw [hr, hz], by rw [hr]; exact ⟨_, 0, rfl, .inl rfl⟩, Dd.Fresh.nil _, g⟩
theorem Dd.Got.good {w w' : World} {r : Nat × Dd.D} {u : Value} {B : Bool} {L : List Kn.V} (hr : r = (0, ⟨B, L⟩)) (h : Kn.Vals w' u L) (hf : Dd.Fresh w.heap.size u) (g : Below w.heap.size w w') : Dd.Got w r (.returned (.tuple #[.agg #[.bool B, u], .int .i64 0])) w' :=
  ⟨u, by rw [hr]; rfl, by rw [hr]; exact h, hf, g⟩
theorem Dd.two {w : World} {q : Nat} {x y : Value} {t : TypeId} (h : w.heap[q]? = some (.cells #[x, y] t (0, 0))) : w.cell? ⟨q, 0, none⟩ = some x ∧ w.cell? ⟨q, 1, none⟩ = some y ∧ w.frozen? ⟨q, 0, none⟩ = false ∧ w.frozen? ⟨q, 1, none⟩ = false := by
  refine ⟨?_, ?_, ?_, ?_⟩ <;> simp [World.cell?, World.frozen?, h]
end Go.Proofs.YtfbjmehkipcmbaaGreatDoor

namespace Go.Proofs.YtfbjmehkipcmbaaGreatDoor.Dk
open Go
abbrev Str := List UInt8
abbrev Dir := List (Str × Nat)
structure Ch where
  a : Str
  b : Str
  f : Int
structure D where
  files : List (Str × Nat)
  dir : Dir
  sure : Dir
  chg : List Ch
  room : Int
  halt : Int
  deny : Int
  calls : Nat
def okc (b : UInt8) : Bool := (97 ≤ b.toNat && b.toNat ≤ 122) || (48 ≤ b.toNat && b.toNat ≤ 57) || b.toNat == 46
def right (s : Str) : Bool := s.all okc && (1 ≤ s.length && s.length ≤ 12)
def lt (a b : Str) : Bool := Op.bytesLess a b
theorem lt_irrefl (a : Str) : lt a a = false := Kn.bl_irrefl a
theorem lt_trans {a b c : Str} : lt a b = true → lt b c = true → lt a c = true := Kn.bl_trans a b c
theorem lt_ne {a b : Str} (h : lt a b = true) : a ≠ b := (Kn.bl_ne h).2
theorem lt_total {a b : Str} (h : lt a b = false) (n : a ≠ b) : lt b a = true := by
  rcases Kn.bl_total a b with g | g | g
  · rw [lt, g] at h; cases h
  · exact absurd g n
  · exact g
def look (l : Dir) (s : Str) : Option Nat := (l.find? fun y => y.1 == s).map (·.2)
def wo (l : Dir) (s : Str) : Dir := l.filter fun y => y.1 != s
def wi (l : Dir) (x : Str × Nat) : Dir := (wo l x.1).takeWhile (fun y => lt y.1 x.1) ++ x :: (wo l x.1).dropWhile (fun y => lt y.1 x.1)
def Asc (l : Dir) : Prop := l.Pairwise fun x y => lt x.1 y.1 = true
theorem mem_wo {l : Dir} {s : Str} {y : Str × Nat} : y ∈ wo l s ↔ y ∈ l ∧ y.1 ≠ s := by
  unfold wo
  rw [List.mem_filter]
  simp
theorem mem_split (p : (Str × Nat) → Bool) (l : Dir) (y : Str × Nat) : y ∈ l ↔ y ∈ l.takeWhile p ∨ y ∈ l.dropWhile p := by
  conv => lhs; rw [← List.takeWhile_append_dropWhile (p := p) (l := l)]
  rw [List.mem_append]
theorem mem_wi {l : Dir} {x y : Str × Nat} : y ∈ wi l x ↔ y = x ∨ (y ∈ l ∧ y.1 ≠ x.1) := by
  unfold wi
  rw [List.mem_append, List.mem_cons, ← mem_wo, mem_split (fun y => lt y.1 x.1) (wo l x.1) y]
  constructor
  · rintro (h | h | h)
    · exact .inr (.inl h)
    · exact .inl h
    · exact .inr (.inr h)
  · rintro (h | h | h)
    · exact .inr (.inl h)
    · exact .inl h
    · exact .inr (.inr h)
theorem asc_wo {l : Dir} (h : Asc l) (s : Str) : Asc (wo l s) := List.Pairwise.filter _ h
theorem asc_drop {l : Dir} (h : Asc l) (x : Str) (hx : ∀ y ∈ l, y.1 ≠ x) : ∀ y ∈ l.dropWhile (fun y => lt y.1 x), lt x y.1 = true := by
  induction l with
  | nil => simp
  | cons a l ih =>
    rw [Asc, List.pairwise_cons] at h
    by_cases hl : lt a.1 x = true
    · rw [List.dropWhile_cons_of_pos (p := fun y : Str × Nat => lt y.1 x) hl]
      exact ih h.2 fun y hy => hx y (List.mem_cons_of_mem _ hy)
    · rw [List.dropWhile_cons_of_neg (p := fun y : Str × Nat => lt y.1 x) hl]
      have ha := lt_total (by simpa using hl) (hx a List.mem_cons_self)
      intro y hy
      rcases List.mem_cons.1 hy with rfl | hy
      · exact ha
      · exact lt_trans ha (h.1 y hy)
theorem take_lt (p : (Str × Nat) → Bool) (l : Dir) : ∀ y ∈ l.takeWhile p, p y = true := by
  induction l with
  | nil => simp
  | cons a l ih =>
    by_cases ha : p a = true
    · rw [List.takeWhile_cons_of_pos ha]
      intro y hy
      rcases List.mem_cons.1 hy with rfl | hy
      · exact ha
      · exact ih y hy
    · rw [List.takeWhile_cons_of_neg ha]
      simp
theorem asc_wi {l : Dir} (h : Asc l) (x : Str × Nat) : Asc (wi l x) := by
  have hw := asc_wo h x.1
  have hd := asc_drop hw x.1 fun y hy => (mem_wo.1 hy).2
  have ht := take_lt (fun y => lt y.1 x.1) (wo l x.1)
  unfold wi Asc
  rw [List.pairwise_append]
  refine ⟨hw.sublist (List.takeWhile_sublist _), ?_, ?_⟩
  · rw [List.pairwise_cons]
    exact ⟨hd, hw.sublist (List.dropWhile_sublist _)⟩
  · intro a ha b hb
    have h1 := ht a ha
    rcases List.mem_cons.1 hb with rfl | hb
    · exact h1
    · exact lt_trans h1 (hd b hb)
theorem asc_inj {l : Dir} (h : Asc l) {x y : Str × Nat} (hx : x ∈ l) (hy : y ∈ l) (e : x.1 = y.1) : x = y := by
  induction l with
  | nil => cases hx
  | cons a l ih =>
    rw [Asc, List.pairwise_cons] at h
    rcases List.mem_cons.1 hx with gx | gx <;> rcases List.mem_cons.1 hy with gy | gy
    · rw [gx, gy]
    · exact absurd e (by rw [gx]; exact lt_ne (h.1 y gy))
    · exact absurd e.symm (by rw [gy]; exact lt_ne (h.1 x gx))
    · exact ih h.2 gx gy
theorem look_some {l : Dir} (h : Asc l) {s : Str} {f : Nat} : look l s = some f ↔ (s, f) ∈ l := by
  unfold look
  constructor
  · intro e
    cases hf : l.find? fun y => y.1 == s with
    | none => rw [hf] at e; cases e
    | some y =>
      rw [hf] at e
      have h1 := List.mem_of_find?_eq_some hf
      have h2 := List.find?_some hf
      simp only [beq_iff_eq] at h2
      simp only [Option.map_some, Option.some.injEq] at e
      rw [← h2, ← e]
      exact h1
  · intro hm
    cases hf : l.find? fun y => y.1 == s with
    | none =>
      have := List.find?_eq_none.1 hf _ hm
      simp at this
    | some y =>
      have h1 := List.mem_of_find?_eq_some hf
      have h2 := List.find?_some hf
      simp only [beq_iff_eq] at h2
      rw [asc_inj h h1 hm h2]
      rfl
theorem len_wo (l : Dir) (s : Str) : (wo l s).length ≤ l.length := List.length_filter_le _ _
theorem len_wi (l : Dir) (x : Str × Nat) : (wi l x).length ≤ l.length + 1 := by
  have := len_wo l x.1
  have e : ((wo l x.1).takeWhile (fun y => lt y.1 x.1)).length + ((wo l x.1).dropWhile (fun y => lt y.1 x.1)).length = (wo l x.1).length := by
    rw [← List.length_append, List.takeWhile_append_dropWhile]
  unfold wi
  rw [List.length_append, List.length_cons]
  omega
def apply (l : Dir) (c : Ch) : Dir :=
  if c.b ≠ [] then (match look l c.a with | none => l | some f => wi (wo l c.a) (c.b, f))
  else if c.f < 0 then wo l c.a else wi l (c.a, c.f.toNat)
def Ok (n : Nat) (l : Dir) (c : Ch) : Prop :=
  if c.b ≠ [] then ∃ f, look l c.a = some f ∧ c.a ≠ c.b
  else if c.f < 0 then ∃ f, look l c.a = some f else look l c.a = none ∧ c.f.toNat < n ∧ ∀ y ∈ l, y.2 ≠ c.f.toNat
structure Well (n : Nat) (l : Dir) : Prop where
  asc : Asc l
  one : (l.map (·.2)).Nodup
  lim : ∀ y ∈ l, y.2 < n
theorem Well.mono {n m : Nat} {l : Dir} (h : Well n l) (hm : n ≤ m) : Well m l := ⟨h.asc, h.one, fun y hy => Nat.lt_of_lt_of_le (h.lim y hy) hm⟩
theorem Well.nil (n : Nat) : Well n [] := ⟨List.Pairwise.nil, List.nodup_nil, by simp⟩
theorem Well.wo {n : Nat} {l : Dir} (h : Well n l) (s : Str) : Well n (wo l s) :=
  ⟨asc_wo h.asc s, h.one.sublist ((List.filter_sublist (p := fun y : Str × Nat => y.1 != s) (l := l)).map _), fun y hy => h.lim y (mem_wo.1 hy).1⟩
theorem perm_wi (l : Dir) (x : Str × Nat) : (wi l x).Perm (x :: Dk.wo l x.1) := by
  have h : (wi l x).Perm (x :: ((Dk.wo l x.1).takeWhile (fun y => lt y.1 x.1) ++ (Dk.wo l x.1).dropWhile (fun y => lt y.1 x.1))) := List.perm_middle
  rwa [List.takeWhile_append_dropWhile] at h
theorem Well.wi {n : Nat} {l : Dir} (h : Well n l) (x : Str × Nat) (hx : x.2 < n) (hf : ∀ y ∈ Dk.wo l x.1, y.2 ≠ x.2) : Well n (wi l x) := by
  refine ⟨asc_wi h.asc x, ?_, fun y hy => ?_⟩
  · have hp := (perm_wi l x).map (fun y : Str × Nat => y.2)
    rw [hp.nodup_iff, List.map_cons, List.nodup_cons]
    refine ⟨fun hm => ?_, (h.wo x.1).one⟩
    obtain ⟨y, hy, e⟩ := List.mem_map.1 hm
    exact hf y hy e
  · rcases mem_wi.1 hy with rfl | ⟨hy, _⟩
    · exact hx
    · exact h.lim y hy
theorem Well.inj {n : Nat} {l : Dir} (h : Well n l) {x y : Str × Nat} (hx : x ∈ l) (hy : y ∈ l) (e : x.2 = y.2) : x = y := by
  have h1 := h.one
  induction l with
  | nil => cases hx
  | cons a l ih =>
    rw [List.map_cons, List.nodup_cons] at h1
    have ha := h.asc
    rw [Asc, List.pairwise_cons] at ha
    rcases List.mem_cons.1 hx with gx | gx <;> rcases List.mem_cons.1 hy with gy | gy
    · rw [gx, gy]
    · exact absurd (List.mem_map.2 ⟨y, gy, by rw [← gx]; exact e.symm⟩) h1.1
    · exact absurd (List.mem_map.2 ⟨x, gx, by rw [← gy]; exact e⟩) h1.1
    · exact ih ⟨ha.2, h1.2, fun y hy => h.lim y (List.mem_cons_of_mem _ hy)⟩ gx gy h1.2
theorem Well.apply {n : Nat} {l : Dir} (h : Well n l) {c : Ch} (hc : Ok n l c) : Well n (apply l c) := by
  unfold Ok at hc
  unfold Dk.apply
  by_cases hb : c.b ≠ []
  · rw [if_pos hb] at hc ⊢
    obtain ⟨f, hf, hne⟩ := hc
    rw [hf]
    have hm := (look_some h.asc).1 hf
    refine (h.wo c.a).wi (c.b, f) (h.lim (c.a, f) hm) fun y hy e => ?_
    have h1 := mem_wo.1 hy
    have h2 := mem_wo.1 h1.1
    exact h2.2 (congrArg Prod.fst (h.inj h2.1 hm e))
  · rw [if_neg hb] at hc ⊢
    by_cases hf : c.f < 0
    · rw [if_pos hf]; exact h.wo _
    · rw [if_neg hf] at hc ⊢
      exact h.wi _ hc.2.1 fun y hy => hc.2.2 y (mem_wo.1 hy).1
theorem len_apply (l : Dir) (c : Ch) : (apply l c).length ≤ l.length + 1 := by
  unfold apply
  split
  · split
    · omega
    · next f _ =>
      have := len_wo l c.a
      have := len_wi (wo l c.a) (c.b, f)
      omega
  · split
    · have := len_wo l c.a; omega
    · exact len_wi _ _
def Chain (n : Nat) : Dir → List Ch → Dir → Prop
  | l, [], d => l = d
  | l, c :: cs, d => Ok n l c ∧ Chain n (apply l c) cs d
def fold (l : Dir) (cs : List Ch) : Dir := cs.foldl apply l
theorem Chain.fold {n : Nat} : ∀ {l : Dir} {cs : List Ch} {d : Dir}, Chain n l cs d → d = Dk.fold l cs
  | _, [], _, h => h.symm
  | _, _ :: _, _, h => by
    have := Chain.fold h.2
    exact this
theorem Ok.mono {n m : Nat} {l : Dir} {c : Ch} (h : Ok n l c) (hm : n ≤ m) : Ok m l c := by
  unfold Ok at h ⊢
  split
  · next hb => rwa [if_pos hb] at h
  · next hb =>
    rw [if_neg hb] at h
    split
    · next hf => rwa [if_pos hf] at h
    · next hf => rw [if_neg hf] at h; exact ⟨h.1, by omega, h.2.2⟩
theorem Chain.mono {n m : Nat} (hm : n ≤ m) : ∀ {l : Dir} {cs : List Ch} {d : Dir}, Chain n l cs d → Chain m l cs d
  | _, [], _, h => h
  | _, _ :: _, _, h => ⟨h.1.mono hm, Chain.mono hm h.2⟩
theorem Chain.snoc {n : Nat} {c : Ch} : ∀ {l : Dir} {cs : List Ch} {d : Dir}, Chain n l cs d → Ok n d c → Chain n l (cs ++ [c]) (apply d c)
  | _, [], _, h, hc => by
    cases h
    exact ⟨hc, rfl⟩
  | _, _ :: _, _, h, hc => ⟨h.1, Chain.snoc h.2 hc⟩
theorem Chain.take {n : Nat} : ∀ {l : Dir} {cs : List Ch} {d : Dir} (k : Nat), Chain n l cs d → Chain n l (cs.take k) (Dk.fold l (cs.take k))
  | _, [], _, k, h => by rw [List.take_nil]; rfl
  | _, _ :: _, _, 0, h => rfl
  | _, c :: cs, _, k + 1, h => ⟨h.1, Chain.take k h.2⟩
theorem Chain.well {n : Nat} : ∀ {l : Dir} {cs : List Ch} {d : Dir}, Well n l → Chain n l cs d → Well n d
  | _, [], _, hw, h => by cases h; exact hw
  | _, _ :: _, _, hw, h => Chain.well (hw.apply h.1) h.2
theorem len_fold : ∀ (cs : List Ch) (l : Dir), (fold l cs).length ≤ l.length + cs.length
  | [], l => by simp [fold]
  | c :: cs, l => by
    have h1 := len_fold cs (apply l c)
    have h2 := len_apply l c
    rw [List.length_cons]
    have : fold l (c :: cs) = fold (apply l c) cs := rfl
    rw [this]
    omega
structure Inv (d : D) : Prop where
  chain : Chain d.files.length d.sure d.chg d.dir
  well : Well d.files.length d.sure
  part : ∀ x ∈ d.files, x.2 ≤ x.1.length
theorem Inv.dir {d : D} (h : Inv d) : Well d.files.length d.dir := h.chain.well h.well
def size (fs : List (Str × Nat)) : Nat := (fs.map fun x => x.1.length).sum
structure Sz (n : Nat) (d : D) : Prop where
  files : d.files.length ≤ n
  dirs : d.sure.length + d.chg.length ≤ n
  bytes : size d.files ≤ n * 1048576
  calls : d.calls ≤ n
theorem Sz.dir {n : Nat} {d : D} (h : Sz n d) (hi : Inv d) : d.dir.length ≤ n := by
  have := len_fold d.chg d.sure
  rw [← hi.chain.fold] at this
  have := h.dirs
  omega
theorem Sz.mono {n m : Nat} {d : D} (h : Sz n d) (hm : n ≤ m) : Sz m d :=
  ⟨Nat.le_trans h.files hm, Nat.le_trans h.dirs hm, Nat.le_trans h.bytes (Nat.mul_le_mul_right _ hm), Nat.le_trans h.calls hm⟩
end Go.Proofs.YtfbjmehkipcmbaaGreatDoor.Dk
