/-
  
  
  
  
  
  
  
  
  
-/
import Derived.Test.YtbelkhkllneifaaGreatDoorWBAM
import Derived.Test.YtbelkhkllneifaaGreatDoorWBAI
import Derived.Test.YtbelkhkllneifaaGreatDoorWBAO
import Derived.Deep.RegionHeld3
import Derived.Test.YtbelkhkllneifaaGreatDoorWBAJ
import Derived.Test.YtbelkhkllneifaaGreatDoorWBAD
import Derived.Laws.BitsAllLaws
import Derived.Deep.RegionWith
import Derived.BigQuiet
import Derived.Test.YtbelkhkllneifaaGreatDoorWBAL
import Derived.Test.YtbelkhkllneifaaGreatDoorWBAA
import Derived.Deep.OwnRows
import Derived.Laws.Rows
import Derived.Laws.ResultCell
namespace Go.Proofs.YtbelkhkllneifaaGreatDoor
open Go.RowKit
open Tx (encT)
def Bk.wS (s : List Kn.C) (L : List Dd.D) : List UInt8 := if Bk.wE s L = 0 then Bk.enc s L else []
def Bk.wV (s : List Kn.C) (L : List Dd.D) : Value := .tuple #[.string (Ty.S (Bk.wS s L)), .int .i64 (Bk.wE s L)]
theorem Bk.wV_bad {s : List Kn.C} {L : List Dd.D} {q : Int} (h : Bk.wE s L = q) (hq : q ≠ 0) : Bk.wV s L = .tuple #[.string (Ty.S []), .int .i64 q] := by
 unfold Bk.wV Bk.wS
 rw [h, if_neg hq]
theorem Bk.wV_ok {s : List Kn.C} {L : List Dd.D} (h : Bk.wE s L = 0) : Bk.wV s L = .tuple #[.string (Ty.S (Bk.enc s L)), .int .i64 0] := by
 unfold Bk.wV Bk.wS
 rw [h, if_pos rfl]
theorem Bk.encC_append : ∀ (a b : List Kn.C) (i : Nat) (L : List Dd.D), Bk.encC i (a ++ b) L = Bk.encC i a L ++ Bk.encC (i + a.length) b L
 | [], b, i, L => rfl
 | c :: a, b, i, L => by
   show encT (Cl.enc c (Bk.col L i)) ++ Bk.encC (i + 1) (a ++ b) L = (encT (Cl.enc c (Bk.col L i)) ++ Bk.encC (i + 1) a L) ++ Bk.encC (i + (a.length + 1)) b L
   rw [Bk.encC_append a b (i + 1) L, List.append_assoc, show i + 1 + a.length = i + (a.length + 1) by omega]
theorem Bk.encC_take {s : List Kn.C} {k : Nat} {c : Kn.C} (h : s[k]? = some c) (L : List Dd.D) : Bk.encC 0 (s.take (k + 1)) L = Bk.encC 0 (s.take k) L ++ encT (Cl.enc c (Bk.col L k)) := by
 obtain ⟨hk, rfl⟩ := List.getElem?_eq_some_iff.1 h
 rw [List.take_succ_eq_append_getElem hk, Bk.encC_append, List.length_take, Nat.min_eq_left (by omega), Nat.zero_add]
 congr 1
 unfold Bk.encC Bk.encC
 rw [List.append_nil]
theorem Bk.encC_len {s : List Kn.C} {L : List Dd.D} (h : ∀ j c, s[j]? = some c → (Cl.enc c (Bk.col L j)).length ≤ 1048576) : ∀ k, k ≤ s.length → (Bk.encC 0 (s.take k) L).length ≤ k * 1048585
 | 0, _ => by simp [Bk.encC]
 | k + 1, hk => by
   have hx := List.getElem?_eq_getElem (show k < s.length by omega)
   have ih := Bk.encC_len h k (by omega)
   have h1 := h k _ hx
   rw [Bk.encC_take hx, List.length_append]
   unfold encT
   rw [List.length_append]
   have := Ty.encU_len9 (Cl.enc s[k] (Bk.col L k)).length
   omega
theorem Bk.gones_at {L : List Dd.D} {k : Nat} {d : Dd.D} (h : L[k]? = some d) : Bk.gones L k = d.gone := by
 unfold Bk.gones
 rw [List.getD_eq_getElem?_getD, h]
 rfl
set_option maxHeartbeats 4000000 in
set_option maxRecDepth 100000 in
theorem Bk.rwrite_bad (vs v : Value) (s : List Kn.C) (L : List Dd.D) (w : World) (hs : Kn.Cols w vs s) (hv : Bk.Ds w v L) (hz : Bk.Zs L) (hw : Bk.wE s L ≠ 0) :
 Calls Tryz.prog 41 #[vs, v] w fun e w' => e = .returned (Bk.wV s L) ∧ Below w.heap.size w w' := by
 have HV := Lib.hid hv
 have HS := Lib.hid hs
 have CF := Lib.hid fun wz h1 h2 => Bk.rfits_c vs v s L wz h1 h2 hz
 have cR := Kn.rRight_c vs s w hs
 obtain ⟨V, hV⟩ : ∃ V, V = Bk.wV s L := ⟨_, rfl⟩
 rw [← hV]
 have HVV := Lib.hid hV
 have HW := Lib.hid hw
 have HE : Hid (Bk.wE s L = if Kn.right s = true then (if L.length < 1 ∨ 8 < L.length then 1 else Bk.fitsE s L) else 4) := Lib.hid rfl
 clear hV hw hz
 obtain ⟨a, c, rfl, hlc, hcm, -⟩ := hv
 obtain ⟨sa, sc, rfl, -⟩ := hs
 generalize Kn.right s = R at cR HE
 cases R
 ·have hq : Bk.wE s L = 4 := HE.out
  have HQ := Lib.hid (HVV.out.trans (Bk.wV_bad hq (by decide)))
  clear hq
  go_enter Tryz.func41, Tryz.ntmps41
  go_wp2_with fail
  with_reducible refine cR.mono ?_
  rintro e w1 ⟨rfl, rfl⟩
  go_wp2
  go_ret2
  exact ⟨by rw [HQ.out]; rfl, Below.refl _ _⟩
 ·by_cases h1 : L.length < 1
  ·have hq : Bk.wE s L = 1 := by rw [HE.out, if_pos rfl, if_pos (.inl h1)]
   have HQ := Lib.hid (HVV.out.trans (Bk.wV_bad hq (by decide)))
   have hi1 : (L.length : Int) < 1 := by omega
   clear hq h1
   go_enter Tryz.func41, Tryz.ntmps41
   go_wp2_with fail
   with_reducible refine cR.mono ?_
   rintro e w1 ⟨rfl, rfl⟩
   go_wp2
   go_ret2
   exact ⟨by rw [HQ.out]; rfl, Below.refl _ _⟩
  ·have hi1 : ¬ (L.length : Int) < 1 := by omega
   by_cases h2 : 8 < L.length
   ·have hq : Bk.wE s L = 1 := by rw [HE.out, if_pos rfl, if_pos (.inr h2)]
    have HQ := Lib.hid (HVV.out.trans (Bk.wV_bad hq (by decide)))
    have hi2 : (8 : Int) < (L.length : Int) := by omega
    clear hq h1 h2
    go_enter Tryz.func41, Tryz.ntmps41
    go_wp2_with fail
    with_reducible refine cR.mono ?_
    rintro e w1 ⟨rfl, rfl⟩
    go_wp2
    go_ret2
    exact ⟨by rw [HQ.out]; rfl, Below.refl _ _⟩
   ·have hi2 : ¬ (8 : Int) < (L.length : Int) := by omega
    have hq : Bk.wE s L = Bk.fitsE s L := by rw [HE.out, if_pos rfl, if_neg (by omega)]
    have hne : Bk.fitsE s L ≠ 0 := by rw [← hq]; exact HW.out
    have HQ := Lib.hid (HVV.out.trans (Bk.wV_bad hq hne))
    have hnb : (Bk.fitsE s L != 0) = true := by rw [bne_iff_ne]; exact hne
    clear hq hne h1 h2
    generalize Bk.fitsE s L = E at CF HQ hnb
    go_enter Tryz.func41, Tryz.ntmps41
    go_wp2_with fail
    with_reducible refine cR.mono ?_
    rintro e w1 ⟨rfl, rfl⟩
    go_wp2_with fail
    with_reducible refine (CF.out _ HS.out HV.out).mono ?_
    rintro e w2 ⟨rfl, g2⟩
    have HG := Lib.hid g2
    clear g2
    go_wp2
    go_ret2
    exact ⟨by rw [HQ.out]; rfl, HG.out⟩
end Go.Proofs.YtbelkhkllneifaaGreatDoor

namespace Go.Proofs.YtbelkhkllneifaaGreatDoor
open Go.RowKit
open Tx (encT)
theorem Bk.col_i64 {s : List Kn.C} {L : List Dd.D} (hf : ∀ d ∈ L, Dd.fitE s d = 0) (hi : ∀ d ∈ L, ∀ x ∈ d.row, Ty.I64 x.n) {j : Nat} {c : Kn.C} (hc : s[j]? = some c) : ∀ v ∈ Bk.col L j, Ty.I64 v.n := fun v hv => by
 obtain ⟨d, hd, hh, rfl⟩ := Bk.mem_col.1 hv
 have hcol : (Dd.cols s d.gone)[j]? = some c := Bk.cols_at.2 ⟨hc, Bk.has_zero.1 hh⟩
 have hj : j < d.row.length := by rw [(Dd.fitE_0 (hf d hd)).2.1]; exact (List.getElem?_eq_some_iff.1 hcol).1
 rw [List.getD_eq_getElem?_getD, List.getElem?_eq_getElem hj, Option.getD_some]
 exact hi d hd _ (List.getElem_mem hj)
theorem Bk.col_has {s : List Kn.C} {L : List Dd.D} (hf : ∀ d ∈ L, Dd.fitE s d = 0) {j : Nat} {c : Kn.C} (hc : s[j]? = some c) : ∀ d ∈ L, Bk.has j d = true → j < d.row.length := fun d hd hh => by
 have hcol : (Dd.cols s d.gone)[j]? = some c := Bk.cols_at.2 ⟨hc, Bk.has_zero.1 hh⟩
 rw [(Dd.fitE_0 (hf d hd)).2.1]
 exact (List.getElem?_eq_some_iff.1 hcol).1
theorem Bk.col_le {L : List Dd.D} (h8 : L.length ≤ 8) (j : Nat) : (Bk.col L j).length ≤ 8 := by
 unfold Bk.col
 rw [List.length_map]
 exact Nat.le_trans (List.length_filter_le _ _) h8
def Bk.pre (s : List Kn.C) (L : List Dd.D) (k : Nat) : List UInt8 := Ty.encU L.length ++ (Bk.bools L ++ Bk.encC 0 (s.take k) L)
theorem Bk.pre_all (s : List Kn.C) (L : List Dd.D) : Bk.pre s L s.length = Bk.enc s L := by
 unfold Bk.pre Bk.enc
 rw [List.take_length]
theorem Bk.pre_next {s : List Kn.C} {k : Nat} {c : Kn.C} (h : s[k]? = some c) (L : List Dd.D) : Bk.pre s L (k + 1) = Bk.pre s L k ++ encT (Cl.enc c (Bk.col L k)) := by
 unfold Bk.pre
 rw [Bk.encC_take h, ← List.append_assoc (Bk.bools L), ← List.append_assoc (Ty.encU L.length)]
theorem Bk.pre_zero (s : List Kn.C) (L : List Dd.D) : Ty.S (Bk.pre s L 0) = Ty.S (Ty.encU L.length) ++ Bt.bytes (Bt.need L.length) (Bt.tr L.length (Bk.gones L)) := by
 unfold Bk.pre
 rw [List.take_zero, show Bk.encC 0 [] L = [] from rfl, List.append_nil, ← Ig.S_add]
 rfl
theorem Bk.meas2 {k n : Nat} (h : k < n) : n - (k + 1) < n - k := by omega
theorem Bk.pre_size {s : List Kn.C} {L : List Dd.D} {k : Nat} (h1 : (Bk.bools L).length = 1) (h2 : (Bk.encC 0 (s.take k) L).length ≤ k * 1048585) (h3 : k ≤ 6) : (Ty.S (Bk.pre s L k)).size ≤ 6291520 := by
 rw [Ty.size_S]
 unfold Bk.pre
 rw [List.length_append, List.length_append, h1]
 have := Ty.encU_len9 L.length
 omega
theorem Bk.txt_size {E : List UInt8} (h : E.length ≤ 1048576) : (Ty.S (encT E)).size ≤ 1048585 := by
 rw [Ty.size_S]
 unfold encT
 rw [List.length_append]
 have := Ty.encU_len9 E.length
 omega
theorem Bk.no_wrap {a b : Nat} (ha : a ≤ 6291520) (hb : b ≤ 1048585) : ¬ 9223372036854775807 < a + b := by omega
theorem Bk.one_byte {A B : ByteArray} {n : Nat} (hA : A.size ≤ 9) (hB : B.size = Bt.need n) (h8 : n ≤ 8) : ¬ 9223372036854775807 < A.size + B.size := by
 unfold Bt.need at hB
 omega
set_option maxHeartbeats 8000000 in
set_option maxRecDepth 100000 in
theorem Bk.rwrite_good (vs v : Value) (s : List Kn.C) (L : List Dd.D) (w : World) (hs : Kn.Cols w vs s) (hv : Bk.Ds w v L) (hz : Bk.Zs L) (hi : ∀ d ∈ L, ∀ x ∈ d.row, Ty.I64 x.n) (hw : Bk.wE s L = 0) :
 Calls Tryz.prog 41 #[vs, v] w fun e w' => e = .returned (Bk.wV s L) ∧ Below w.heap.size w w' := by
 obtain ⟨hr, h1, h8, hf, hso⟩ := Bk.wE_0 hw
 have hf0 : Bk.fitsE s L = 0 := by unfold Bk.fitsE; rw [if_pos (Bk.firstE_0.2 hf), if_pos hso]
 have hsl := Kn.right_len hr
 have cF := fun wz h1 h2 => Bk.rfits_c vs v s L wz h1 h2 hz
 have cR := Kn.rRight_c vs s w hs
 rw [hf0] at cF
 rw [hr] at cR
 have HW := Lib.hid (Bk.wV_ok hw)
 have hcw : ∀ j c, s[j]? = some c → Cl.wE c (Bk.col L j) = 0 := fun j c hc => Bk.col_fit hr h8 hf hc
 have HLN := Lib.hid (Bk.encC_len (s := s) (L := L) fun j c hc => Bk.enc_le (hcw j c hc) (Bk.col_le h8 j))
 have HCW := Lib.hid hcw
 have HEL : Hid (∀ (j : Nat) (c : Kn.C), s[j]? = some c → (Cl.enc c (Bk.col L j)).length ≤ 1048576) := Lib.hid fun j c hc => Bk.enc_le (hcw j c hc) (Bk.col_le h8 j)
 have CK := Lib.hid fun (j : Nat) (c : Kn.C) (hc : s[j]? = some c) wz h => Bk.rcolumn_c v L j h8 (by have := (List.getElem?_eq_some_iff.1 hc).1; omega) (Bk.col_has hf hc) wz h
 have CW := Lib.hid fun (j : Nat) (c : Kn.C) (hc : s[j]? = some c) u wz h => Cl.rwrite_c c u (Bk.col L j) wz h (Bk.col_i64 hf hi hc)
 have HBL : Hid ((Bk.bools L).length = 1) := Lib.hid (by rw [Bk.bools_one h1 h8]; rfl)
 have HGN : Hid (∀ (k : Nat) (d : Dd.D), L[k]? = some d → Bk.gones L k = d.gone) := Lib.hid fun k d h => Bk.gones_at h
 have HPN : Hid (∀ (k : Nat) (c : Kn.C), s[k]? = some c → Bk.pre s L (k + 1) = Bk.pre s L k ++ encT (Cl.enc c (Bk.col L k))) := Lib.hid fun k c h => Bk.pre_next h L
 have HV := Lib.hid hv
 have HS := Lib.hid hs
 have CF := Lib.hid cF
 have H8 := Lib.hid h8
 have H6 := Lib.hid hsl
 have hi1 : ¬ (L.length : Int) < 1 := by omega
 have hi2 : ¬ (8 : Int) < (L.length : Int) := by omega
 have hwk : IntKind.u64.wrap (L.length : Int) = (L.length : Int) := by rw [IntKind.wrap_u64]; omega
 have HWK := Lib.hid hwk
 rw [HW.out]
 clear hcw hf0 hf hso hw hr hz hi cF hwk h1 h8 hsl
 obtain ⟨a, c, rfl, hlc, hcm, h⟩ := hv
 obtain ⟨sa, sc, rfl, hsa⟩ := hs
 have HH := Lib.hid h
 have HSA := Lib.hid hsa
 clear h hsa
 go_enter Tryz.func41, Tryz.ntmps41
 go_wp2_with fail
 with_reducible refine cR.mono ?_
 rintro e w1 ⟨rfl, rfl⟩
 go_wp2_with fail
 with_reducible refine (CF.out _ HS.out HV.out).mono ?_
 rintro e w2 ⟨rfl, g2⟩
 have HG2 := Lib.hid g2
 clear cR g2
 go_wp2_with fail
 go_loopw [7, 8] (fun nv i wr => ∃ k : Nat, k ≤ L.length ∧ i = .int .i64 k ∧ Bt.Buf 4 w1.heap.size wr nv k (Bt.bv (Bk.gones L)) ∧ Below w1.heap.size w1 wr) (fun _ i _ => L.length - (intOf i).toNat)
 case atStart => exact ⟨0, Nat.zero_le _, rfl, Bt.Buf.nil _ _ _ _, HG2.out⟩
 case round =>
  obtain ⟨k, hkl, rfl, hO, hb⟩ := hrel
  have HB := Lib.hid hb
  have HO := Lib.hid hO
  clear hO
  by_cases hlt : k < L.length
  ·rcases HH.out with rfl | ⟨b, o, rfl, hbl, hc⟩
   ·simp at hlt
   ·have hx := List.getElem?_eq_getElem hlt
    generalize L[k] = d at hx
    obtain ⟨u0, c0, c1, _⟩ := hc k d hx
    have c0 := (hb.cell (p := ⟨b, o + k * 2, none⟩) hbl).trans c0
    have dk : (k : Int) < (L.length : Int) := by omega
    have dk0 : (0 : Int) ≤ (k : Int) := by omega
    have HX := Lib.hid hx
    have HC := Lib.hid hc
    have HK := Lib.hid hlt
    have hws := hb.size
    have hOq := HO.out
    have hk8 : k + 1 ≤ 8 := by have := H8.out; omega
    clear hc hx c1 hlt hkl hb
    go_wp2_with (at_builtin; refine Bt.wpList_append_one 4 132 (.bool false) 1 Tryz.underlying132 Bt.infoB rfl hOq (by omega) (by omega) (by omega) (.tmp 36) (.tmp 42) _ rfl rfl rfl rfl rfl ?_; intro v5 w5 h5 g5)
    have H5 := Lib.hid (h5 (by unfold Bt.bv; rw [HGN.out k d HX.out]))
    have HB5 := Lib.hid (Cl.grew_below HB.out hOq g5)
    clear h5 g5 hOq
    go_roundw
    case rel => exact ⟨k + 1, HK.out, by simp, H5.out, HB5.out⟩
    case measure => (have := HK.out; simp [intOf]; omega)
  ·obtain rfl : k = L.length := by omega
   have dk : ¬ (L.length : Int) < (L.length : Int) := by omega
   clear hlt hkl hb
   have hwz := HWK.out
   go_wp2_with fail
   with_reducible refine (Ty.ruint_nat L.length _).mono ?_
   rintro e w3 ⟨rfl, g3⟩
   have HB3 := Lib.hid (HB.out.trans (g3.mono HB.out.size))
   have HO3 := Lib.hid (HO.out.kept g3).sl
   have hl9 : L.length ≤ 140737488355328 := Nat.le_trans H8.out (by decide)
   clear dk
   clear g3
   go_wp2_with fail
   with_reducible refine (Bt.rbytes_c _ L.length (Bk.gones L) _ HO3.out hl9).mono ?_
   rintro e w4 ⟨rfl, g4⟩
   have HB4 := Lib.hid (HB3.out.trans (g4.mono HB3.out.size))
   clear g4 hl9
   obtain ⟨A, hA⟩ : ∃ A, A = Ty.S (Ty.encU L.length) := ⟨_, rfl⟩
   obtain ⟨B, hBB⟩ : ∃ B, B = Bt.bytes (Bt.need L.length) (Bt.tr L.length (Bk.gones L)) := ⟨_, rfl⟩
   have n1 : ¬ 9223372036854775807 < A.size + B.size := Bk.one_byte (by rw [hA]; exact Ty.encU_len9 L.length) (by rw [hBB]; exact Bt.size_bytes _ _) H8.out
   have HAB : Hid (Ty.S (Bk.pre s L 0) = A ++ B) := Lib.hid (by rw [hA, hBB]; exact Bk.pre_zero s L)
   rw [← hA, ← hBB]
   clear hA hBB HO3 HO hwz hi1 hi2
   go_wp2_with fail
   go_loopw [9, 10] (fun out i wr2 => ∃ k : Nat, k ≤ s.length ∧ i = .int .i64 k ∧ out = .string (Ty.S (Bk.pre s L k)) ∧ Below w1.heap.size w1 wr2) (fun _ i _ => s.length - (intOf i).toNat)
   case atStart => exact ⟨0, Nat.zero_le _, rfl, by rw [HAB.out], HB4.out⟩
   case round =>
    obtain ⟨k, hkl, rfl, rfl, hb⟩ := hrel
    have HB5 := Lib.hid hb
    have hpl : (Ty.S (Bk.pre s L k)).size ≤ 6291520 := Bk.pre_size HBL.out (HLN.out k hkl) (Nat.le_trans hkl H6.out.2)
    have HPL := Lib.hid hpl
    clear hpl
    by_cases hlt : k < s.length
    ·rcases HSA.out with rfl | ⟨b, o, rfl, hbl, hm, hc⟩
     ·simp at hlt
     ·have hx := List.getElem?_eq_getElem hlt
      generalize s[k] = cc at hx
      have c0 := (hb.cell (p := ⟨b, o + k * 2, none⟩) hbl).trans (hc k cc hx).1
      have c1 := (hb.cell (p := ⟨b, o + k * 2 + 1, none⟩) hbl).trans (hc k cc hx).2
      have dk : (k : Int) < (s.length : Int) := by omega
      have dk0 : (0 : Int) ≤ (k : Int) := by omega
      have HK := Lib.hid hlt
      have HX := Lib.hid hx
      have HC := Lib.hid hc
      have hbr : b < wr.heap.size := Nat.lt_of_lt_of_le hbl hb.size
      have hHS : ∀ W, Below wr.heap.size wr W → W.cell? ⟨b, o + k * 2, none⟩ = some (.int .i64 cc.k) ∧ W.cell? ⟨b, o + k * 2 + 1, none⟩ = some (.bool cc.null) := fun W g =>
       ⟨(g.cell (p := ⟨b, o + k * 2, none⟩) hbr).trans c0, (g.cell (p := ⟨b, o + k * 2 + 1, none⟩) hbr).trans c1⟩
      have HHS := Lib.hid hHS
      have HDR : Hid (Below wr.heap.size wr wr.drew) := Lib.hid (Bt.drewN_below wr 1)
      have HVD := Lib.hid (HV.out.later (hb.trans (HDR.out.mono hb.size)))
      have CK2 := Lib.hid (CK.out k cc HX.out)
      have hCW : ∀ u wz, Kn.Vals wz u (Bk.col L k) → Calls Tryz.prog 75 #[.agg #[.int .i64 cc.k, .bool cc.null], u] wz fun e w' => e = .returned (.tuple #[.string (Ty.S (Cl.enc cc (Bk.col L k))), .int .i64 0]) ∧ Below wz.heap.size wz w' := fun u wz h => by
       have := CW.out k cc HX.out u wz h
       rw [Cl.wV_ok (HCW.out k cc HX.out)] at this
       exact this
      have HE1 := HEL.out k cc HX.out
      have HP1 := HPN.out k cc HX.out
      generalize Cl.enc cc (Bk.col L k) = E at hCW HE1 HP1
      have CW2 := Lib.hid hCW
      have hE9 : (Ty.S E).size ≤ 140737488351232 := by rw [Ty.size_S]; omega
      have CT : Hid (∀ wz, Calls Tryz.prog 76 #[.string (Ty.S E)] wz fun e w' => e = .returned (.string (Ty.S (encT E))) ∧ Below wz.heap.size wz w') := Lib.hid fun wz => Ty.rtext_c (Ty.S E) hE9 wz
      have HPR := Lib.hid HP1
      have hpl := HPL.out
      have htl : (Ty.S (encT E)).size ≤ 1048585 := Bk.txt_size HE1
      have n2 : ¬ 9223372036854775807 < (Ty.S (Bk.pre s L k)).size + (Ty.S (encT E)).size := Bk.no_wrap hpl htl
      clear hpl htl hE9 HE1 HP1 hCW hHS c0 c1 hc hx hlt hkl hb hbl
      go_upto_region 17 with (fail)
      go_region_held3 (fun W => W.cell? ⟨b, o + k * 2, none⟩ = some (.int .i64 cc.k) ∧ W.cell? ⟨b, o + k * 2 + 1, none⟩ = some (.bool cc.null))
       (first
        | exact HHS.out _ HDR.out
        | exact HHS.out _ (HDR.out.trans (g5.mono HDR.out.size))
        | exact HHS.out _ (HDR.out.trans ((g5.trans (g6.mono g5.size)).mono HDR.out.size)))
       (first
        | (go_at_call 57; (with_reducible refine (CK2.out _ HVD.out).mono ?_); rintro e w5 ⟨u, rfl, hu, g5⟩)
        | (go_at_call 75; (with_reducible refine (CW2.out u _ hu).mono ?_); rintro e w6 ⟨rfl, g6⟩))
      have hg6 := HDR.out.trans ((g5.trans (g6.mono g5.size)).mono HDR.out.size)
      have HB6 := Lib.hid (HB5.out.trans (hg6.mono HB5.out.size))
      clear hu g5 g6 hg6
      go_wp2_with fail
      with_reducible refine (CT.out _).mono ?_
      rintro e w7 ⟨rfl, g7⟩
      have HB7 := Lib.hid (HB6.out.trans (g7.mono HB6.out.size))
      clear g7
      go_wp2
      go_roundw
      case rel => exact ⟨k + 1, HK.out, by simp, (by rw [HPR.out, ← Ig.S_add]), HB7.out⟩
      case measure =>
       simp [intOf]
       exact Bk.meas2 HK.out
    ·obtain rfl : k = s.length := by omega
     have dk : ¬ (s.length : Int) < (s.length : Int) := by omega
     rw [Bk.pre_all]
     clear hlt hkl hb HPL
     go_wp2
     go_ret2
     exact ⟨rfl, HB5.out⟩
theorem Bk.rwrite_c (vs v : Value) (s : List Kn.C) (L : List Dd.D) (w : World) (hs : Kn.Cols w vs s) (hv : Bk.Ds w v L) (hz : Bk.Zs L) (hi : ∀ d ∈ L, ∀ x ∈ d.row, Ty.I64 x.n) :
 Calls Tryz.prog 41 #[vs, v] w fun e w' => e = .returned (Bk.wV s L) ∧ Below w.heap.size w w' := by
 by_cases h : Bk.wE s L = 0
 ·exact Bk.rwrite_good vs v s L w hs hv hz hi h
 ·exact Bk.rwrite_bad vs v s L w hs hv hz h
end Go.Proofs.YtbelkhkllneifaaGreatDoor

namespace Go.Proofs.YtbelkhkllneifaaGreatDoor
open Go.RowKit
theorem Fr.Tn_last (j r : Nat) : Fr.Tn (j + 1) r = Fr.T (Fr.Tn j r) := Fr.Tn_add j 1 r
theorem Fr.T_odd {r : Nat} (h : r % 2 = 1) : Fr.T r = r / 2 ^^^ 2197175160 := by unfold Fr.T; rw [if_pos h]; rfl
theorem Fr.T_even {r : Nat} (h : r % 2 = 0) : Fr.T r = r / 2 := by unfold Fr.T; rw [if_neg (by omega), Nat.xor_zero]
theorem Fr.reg_snoc (l : List UInt8) (b : UInt8) (r : Nat) : Fr.reg r (l ++ [b]) = Fr.Tn 8 (Fr.reg r l ^^^ b.toNat) := by
 rw [Fr.reg_append]
 rfl
theorem Fr.reg_step {s : ByteArray} {k : Nat} (h : k < s.size) (r : Nat) : Fr.reg r (s.data.toList.take (k + 1)) = Fr.Tn 8 (Fr.reg r (s.data.toList.take k) ^^^ (s[k]).toNat) := by
 have hl : k < s.data.toList.length := by rw [Ty.length_data]; exact h
 rw [List.take_succ_eq_append_getElem hl, Fr.reg_snoc]
 rfl
set_option maxHeartbeats 4000000 in
set_option maxRecDepth 100000 in
theorem Fr.rsum_c (s : ByteArray) (hs : s.size ≤ 9223372036854775807) (w : World) :
 Calls Tryz.prog 78 #[.string s] w fun e w' => e = .returned (.int .u32 ((Fr.sum s.data.toList : Nat) : Int)) ∧ w' = w := by
 have HS := Lib.hid hs
 have HST : Hid (∀ k (h : k < s.size), Fr.reg Fr.ones (s.data.toList.take (k + 1)) = Fr.Tn 8 (Fr.reg Fr.ones (s.data.toList.take k) ^^^ (s[k]).toNat)) := Lib.hid fun k h => Fr.reg_step h _
 have HLT : Hid (∀ l, Fr.reg Fr.ones l < 4294967296) := Lib.hid fun l => Fr.reg_lt l Fr.ones (by decide)
 go_enter Tryz.func78, Tryz.ntmps78
 go_wp2
 go_loop [3, 4] (fun r i => ∃ k : Nat, k ≤ s.size ∧ i = .int .i64 k ∧ r = .int .u32 (Fr.reg Fr.ones (s.data.toList.take k) : Nat)) (fun _ i => s.size - (intOf i).toNat)
 case atStart => exact ⟨0, by omega, rfl, rfl⟩
 case round =>
  obtain ⟨k, hk, rfl, rfl⟩ := hrel
  have hk0 : (0 : Int) ≤ (k : Int) := by omega
  have hr := HLT.out (s.data.toList.take k)
  by_cases hl : k < s.size
  ·have hki : (k : Int) < (s.size : Int) := by omega
   have hks : (k : Int) < 9223372036854775807 := by have := HS.out; omega
   have HN := Lib.hid (HST.out k hl)
   have hb := (s[k]).toNat_lt
   generalize Fr.reg Fr.ones (s.data.toList.take k) = R at hr HN ⊢
   generalize hbb : s[k] = b at hb HN
   obtain ⟨X, hX⟩ : ∃ X, X = R ^^^ b.toNat := ⟨_, rfl⟩
   have hx : bits .xor .u32 (R : Int) (b.toNat : Int) = (X : Int) := by rw [hX]; exact u32_xor_nat R b.toNat hr (by omega)
   have hXl : X < 4294967296 := by rw [hX]; exact Nat.xor_lt_two_pow (n := 32) hr (by omega)
   rw [← hX] at HN
   have HTL : Hid (∀ j, Fr.Tn j X < 4294967296) := Lib.hid fun j => Fr.Tn_lt hXl
   clear hX
   go_wp2_with fail
   go_loop [3, 5] (fun r j => ∃ i : Nat, i ≤ 8 ∧ j = .int .i64 i ∧ r = .int .u32 (Fr.Tn i X : Nat)) (fun _ j => 8 - (intOf j).toNat)
   case atStart => exact ⟨0, by omega, rfl, rfl⟩
   case round =>
    obtain ⟨i, hi, rfl, rfl⟩ := hrel
    have hi0 : (0 : Int) ≤ (i : Int) := by omega
    by_cases hi8 : i < 8
    ·have hii : (i : Int) < 8 := by omega
     have hT := HTL.out i
     have HTN := Lib.hid (Fr.Tn_last i X)
     generalize Fr.Tn i X = Y at hT HTN ⊢
     obtain ⟨Z, hZ⟩ : ∃ Z, Z = Y / 2 := ⟨_, rfl⟩
     have hd : (Y : Int) / 2 = (Z : Int) := by omega
     have hZl : Z < 4294967296 := by omega
     rcases Nat.mod_two_eq_zero_or_one Y with hm | hm
     ·have hmi : (Y : Int) % 2 = 0 := by omega
      have HE := Lib.hid (HTN.out.trans (Fr.T_even hm))
      rw [← hZ] at HE
      clear hZ hm
      go_wp2
      go_round
      case rel => exact ⟨i + 1, by omega, by simp, by rw [HE.out]⟩
      case measure => simp [intOf]; omega
     ·have hmi : (Y : Int) % 2 = 1 := by omega
      have HE := Lib.hid (HTN.out.trans (Fr.T_odd hm))
      rw [← hZ] at HE
      have hx2 : bits .xor .u32 (Z : Int) 2197175160 = ((Z ^^^ 2197175160 : Nat) : Int) := u32_xor_nat Z 2197175160 hZl (by decide)
      clear hZ hm
      go_wp2
      go_round
      case rel => exact ⟨i + 1, by omega, by simp, by rw [HE.out]⟩
      case measure => simp [intOf]; omega
    ·obtain rfl : i = 8 := by omega
     go_wp2
     go_round
     case rel => exact ⟨k + 1, by omega, by simp, by rw [HN.out]⟩
     case measure => simp [intOf]; omega
  ·obtain rfl : k = s.size := by omega
   have hki : ¬ (s.size : Int) < (s.size : Int) := by omega
   have hta : s.data.toList.take s.size = s.data.toList := List.take_of_length_le (by rw [Ty.length_data]; exact Nat.le_refl _)
   have HSM : Hid (Fr.sum s.data.toList = Fr.reg Fr.ones (s.data.toList.take s.size) ^^^ 4294967295) := Lib.hid (by rw [hta]; rfl)
   generalize Fr.reg Fr.ones (s.data.toList.take s.size) = R at hr HSM ⊢
   have hx : bits .xor .u32 IntKind.u32.max (R : Int) = ((4294967295 ^^^ R : Nat) : Int) := u32_xor_nat 4294967295 R (by decide) hr
   go_wp2
   go_ret
   exact ⟨by rw [HSM.out, Nat.xor_comm]; rfl, rfl⟩
theorem Fr.four_buf (n : Nat) (hn : n < 4294967296) (w : World) : Ty.Buf w.heap.size (w.alloc (.cells #[.int .u8 ((n : Int) % 256), .int .u8 ((n : Int) / 256 % 256), .int .u8 ((n : Int) / 65536 % 256), .int .u8 ((n : Int) / 16777216)] 5)) (.slice (some ⟨w.heap.size, 0, none⟩) 4 4) (Fr.four n) := by
 refine ⟨by simp, .inr ⟨w.heap.size, 4, _, rfl, Nat.le_refl _, heap_alloc_new w _, Nat.le_refl _, by unfold maxLen; omega, by simp, ?_⟩⟩
 have e0 := Ty.toNat_ofNat8 (n % 256) (by omega)
 have e1 := Ty.toNat_ofNat8 (n / 256 % 256) (by omega)
 have e2 := Ty.toNat_ofNat8 (n / 65536 % 256) (by omega)
 have e3 := Ty.toNat_ofNat8 (n / 16777216 % 256) (by omega)
 have i3 : ((n / 16777216 % 256 : Nat) : Int) = (n : Int) / 16777216 := by omega
 simp only [Fr.four, List.map_cons, List.map_nil, Ty.B, e0, e1, e2, e3, i3]
 simp
set_option maxHeartbeats 1000000 in
set_option maxRecDepth 100000 in
theorem Fr.rfour_c (n : Nat) (hn : n < 4294967296) (w : World) :
 Calls Tryz.prog 77 #[.int .u32 (n : Int)] w fun e w' => e = .returned (.string (Ty.S (Fr.four n))) ∧ Below w.heap.size w w' := by
 have hcv := (Fr.four_buf n hn w).str
 go_enter Tryz.func77, Tryz.ntmps77
 go_wp2
 go_ret
 exact ⟨rfl, (Below.refl _ _).alloc (Nat.le_refl _) _⟩
def Fr.at4 (s : ByteArray) : Nat := Fr.val (s.data.toList.take 4)
theorem Fr.val4 {s : ByteArray} (h : 4 ≤ s.size) : Fr.val (s.data.toList.take 4) = s[0].toNat + s[1].toNat * 256 + s[2].toNat * 65536 + s[3].toNat * 16777216 := by
 have hl : 4 ≤ s.data.toList.length := by rw [Ty.length_data]; exact h
 have e : s.data.toList.take 4 = [s[0], s[1], s[2], s[3]] := by
  refine List.ext_getElem (by rw [List.length_take]; simp; omega) fun i h1 h2 => ?_
  have hi : i < 4 := by simpa using h2
  rw [List.getElem_take]
  rcases (by omega : i = 0 ∨ i = 1 ∨ i = 2 ∨ i = 3) with rfl | rfl | rfl | rfl <;> rfl
 rw [e]
 simp only [Fr.val]
 omega
theorem Fr.S_add (a b : List UInt8) : Ty.S a ++ Ty.S b = Ty.S (a ++ b) := by
 apply ByteArray.ext
 apply Array.toList_inj.1
 rw [ByteArray.data_append, Array.toList_append]
 simp [Ty.S]
theorem Fr.four_mod (n : Nat) : Fr.four (n % 4294967296) = Fr.four n := by
 unfold Fr.four
 rw [show n % 4294967296 % 256 = n % 256 by omega, show n % 4294967296 / 256 % 256 = n / 256 % 256 by omega, show n % 4294967296 / 65536 % 256 = n / 65536 % 256 by omega, show n % 4294967296 / 16777216 % 256 = n / 16777216 % 256 by omega]
set_option maxHeartbeats 2000000 in
set_option maxRecDepth 100000 in
theorem Fr.rwrite_c (s : ByteArray) (hs : s.size ≤ 9223372036854775000) (w : World) :
 Calls Tryz.prog 42 #[.string s] w fun e w' => e = .returned (.string (Ty.S (Fr.frm s.data.toList))) ∧ Below w.heap.size w w' := by
 have hN : s.size % 4294967296 < 4294967296 := Nat.mod_lt _ (by decide)
 have hw : IntKind.u32.wrap (s.size : Int) = ((s.size % 4294967296 : Nat) : Int) := by rw [IntKind.wrap_u32]; omega
 have c1 := fun wz => Fr.rfour_c (s.size % 4294967296) hN wz
 have c2 := fun wz => Fr.rsum_c s (by omega) wz
 have c3 := fun wz => Fr.rfour_c (Fr.sum s.data.toList) (Fr.sum_lt _) wz
 have HF : Hid (Ty.S (Fr.frm s.data.toList) = (Ty.S (Fr.four (s.size % 4294967296)) ++ s) ++ Ty.S (Fr.four (Fr.sum s.data.toList))) := Lib.hid (by
  unfold Fr.frm
  rw [Fr.four_mod, Ty.length_data]
  conv => rhs; lhs; rhs; rw [← Ty.S_data s]
  rw [Fr.S_add, Fr.S_add, List.append_assoc])
 have e1 : (Ty.S (Fr.four (s.size % 4294967296))).size = 4 := rfl
 have e3 : (Ty.S (Fr.four (Fr.sum s.data.toList))).size = 4 := rfl
 obtain ⟨A, hA⟩ : ∃ A, A = Ty.S (Fr.four (s.size % 4294967296)) := ⟨_, rfl⟩
 obtain ⟨B, hB⟩ : ∃ B, B = Ty.S (Fr.four (Fr.sum s.data.toList)) := ⟨_, rfl⟩
 rw [← hA] at c1 HF e1
 rw [← hB] at c3 HF e3
 generalize Fr.sum s.data.toList = M at c2 c3
 generalize s.size % 4294967296 = N at c1 hw
 have n1 : ¬ 9223372036854775807 < A.size + s.size := by omega
 have n2 : ¬ 9223372036854775807 < A.size + s.size + B.size := by omega
 clear hA hB e1 e3 hN
 go_enter Tryz.func42, Tryz.ntmps42
 go_wp2_with fail
 with_reducible refine (c1 _).mono ?_
 rintro e w1 ⟨rfl, g1⟩
 have HB1 := Lib.hid g1
 clear g1 c1
 go_wp2_with fail
 with_reducible refine (c2 _).mono ?_
 rintro e w2 ⟨rfl, h2⟩
 subst w2
 clear c2
 go_wp2_with fail
 with_reducible refine (c3 _).mono ?_
 rintro e w3 ⟨rfl, g3⟩
 have HB3 := Lib.hid (HB1.out.trans (g3.mono HB1.out.size))
 clear g3 c3
 go_wp2
 go_ret
 exact ⟨by rw [HF.out]; rfl, HB3.out⟩
end Go.Proofs.YtbelkhkllneifaaGreatDoor

namespace Go.Proofs.YtbelkhkllneifaaGreatDoor
open Go.RowKit
def Rn.pre (s : List Kn.C) (L : List Dd.D) (k : Nat) : List UInt8 := ((List.range k).map (Rn.bk L)).flatMap fun b => Fr.frm (Bk.enc s b)
def Rn.ipre (s : List Kn.C) (L : List Dd.D) (k : Nat) : List UInt8 := Ty.encU (Rn.nb L.length) ++ ((List.range k).map (Rn.bk L)).flatMap fun b => Ty.encU (Fr.frm (Bk.enc s b)).length
theorem Rn.pre_next (s : List Kn.C) (L : List Dd.D) (k : Nat) : Rn.pre s L (k + 1) = Rn.pre s L k ++ Fr.frm (Bk.enc s (Rn.bk L k)) := by
 unfold Rn.pre
 rw [List.range_succ, List.map_append, List.flatMap_append]
 simp
theorem Rn.ipre_next (s : List Kn.C) (L : List Dd.D) (k : Nat) : Rn.ipre s L (k + 1) = Rn.ipre s L k ++ Ty.encU (Fr.frm (Bk.enc s (Rn.bk L k))).length := by
 unfold Rn.ipre
 rw [List.range_succ, List.map_append, List.flatMap_append, List.append_assoc]
 simp
theorem Rn.enc_is (s : List Kn.C) (L : List Dd.D) : Rn.enc s L = Rn.pre s L (Rn.nb L.length) ++ Fr.frm (Rn.ipre s L (Rn.nb L.length)) := by
 unfold Rn.enc Rn.texts Rn.pre
 rw [List.flatMap_append, List.flatMap_map]
 simp only [List.flatMap_cons, List.flatMap_nil, List.append_nil]
 rfl
theorem Rn.wE_k {s : List Kn.C} {L : List Dd.D} (h : Kn.right s = false) : Rn.wE s L = 4 := by unfold Rn.wE; rw [if_neg (by rw [h]; decide)]
theorem Rn.wE_n {s : List Kn.C} {L : List Dd.D} (h : Kn.right s = true) (h1 : L.length = 0) : Rn.wE s L = 1 := by unfold Rn.wE; rw [if_pos h, if_pos h1]
theorem Rn.wE_f {s : List Kn.C} {L : List Dd.D} (h : Kn.right s = true) (h1 : L.length ≠ 0) (h2 : Bk.fitsE s L ≠ 0) : Rn.wE s L = Bk.fitsE s L := by unfold Rn.wE; rw [if_pos h, if_neg h1, if_neg h2]
theorem Rn.wE_l {s : List Kn.C} {L : List Dd.D} (h : Kn.right s = true) (h1 : L.length ≠ 0) (h2 : Bk.fitsE s L = 0) (h3 : 1048576 < (Rn.enc s L).length) : Rn.wE s L = 3 := by unfold Rn.wE; rw [if_pos h, if_neg h1, if_pos h2, if_pos h3]
theorem Rn.wE_g {s : List Kn.C} {L : List Dd.D} (h : Kn.right s = true) (h1 : L.length ≠ 0) (h2 : Bk.fitsE s L = 0) (h3 : ¬ 1048576 < (Rn.enc s L).length) : Rn.wE s L = 0 := by unfold Rn.wE; rw [if_pos h, if_neg h1, if_pos h2, if_neg h3]
theorem Rn.wV_bad {s : List Kn.C} {L : List Dd.D} {q : Int} (h : Rn.wE s L = q) (hq : q ≠ 0) : Rn.wV s L = .tuple #[.string (Ty.S []), .int .i64 q] := by
 unfold Rn.wV Rn.wS
 rw [h, if_neg hq]
theorem Rn.wV_ok {s : List Kn.C} {L : List Dd.D} (h : Rn.wE s L = 0) : Rn.wV s L = .tuple #[.string (Ty.S (Rn.enc s L)), .int .i64 0] := by
 unfold Rn.wV Rn.wS
 rw [h, if_pos rfl]
theorem Rn.fits_0 {s : List Kn.C} {L : List Dd.D} (h : Bk.fitsE s L = 0) : (∀ d ∈ L, Dd.fitE s d = 0) ∧ Bk.sorted L = true := by
 unfold Bk.fitsE at h
 by_cases h5 : Bk.firstE s L = 0
 ·rw [if_pos h5] at h
  by_cases h6 : Bk.sorted L = true
  ·exact ⟨Bk.firstE_0.1 h5, h6⟩
  ·rw [if_neg h6] at h; cases h
 ·rw [if_neg h5] at h
  exact absurd h h5
theorem Rn.enc_few {s : List Kn.C} {b : List Dd.D} (h : Bk.wE s b = 0) : (Bk.enc s b).length ≤ 6291520 := by
 obtain ⟨hr, h1, h8, hf, _⟩ := Bk.wE_0 h
 have hln := Bk.encC_len (s := s) (L := b) fun j c hc => Bk.enc_le (Bk.col_fit hr h8 hf hc) (Bk.col_le h8 j)
 have := Bk.pre_size (s := s) (L := b) (k := s.length) (by rw [Bk.bools_one h1 h8]; rfl) (hln s.length (Nat.le_refl _)) (Kn.right_len hr).2
 rw [Bk.pre_all, Ty.size_S] at this
 exact this
theorem Rn.pre_few {s : List Kn.C} {L : List Dd.D} (h : ∀ i, i < Rn.nb L.length → Bk.wE s (Rn.bk L i) = 0) : ∀ k, k ≤ Rn.nb L.length → (Rn.pre s L k).length ≤ k * 6291528 ∧ (Rn.ipre s L k).length ≤ 9 + k * 9
 | 0, _ => by
   refine ⟨by simp [Rn.pre], ?_⟩
   unfold Rn.ipre
   simp only [List.range_zero, List.map_nil, List.flatMap_nil, List.append_nil, Nat.zero_mul, Nat.add_zero]
   exact Ty.encU_len9 _
 | k + 1, hk => by
   obtain ⟨h1, h2⟩ := Rn.pre_few h k (by omega)
   rw [Rn.pre_next, Rn.ipre_next, List.length_append, List.length_append, Fr.frm_len]
   have h3 := Rn.enc_few (h k (by omega))
   have h4 := Ty.encU_len9 ((Bk.enc s (Rn.bk L k)).length + 8)
   omega
set_option maxHeartbeats 8000000 in
set_option maxRecDepth 100000 in
theorem Rn.rwrite_c (vs v : Value) (s : List Kn.C) (L : List Dd.D) (w : World) (hs : Kn.Cols w vs s) (hv : Bk.Ds w v L) (hz : Bk.Zs L) (hi : ∀ d ∈ L, ∀ x ∈ d.row, Ty.I64 x.n) (h200 : L.length ≤ 200) :
 Calls Tryz.prog 12 #[vs, v] w fun e w' => e = .returned (Rn.wV s L) ∧ Below w.heap.size w w' := by
 obtain ⟨V, hV⟩ : ∃ V, V = Rn.wV s L := ⟨_, rfl⟩
 rw [← hV]
 have HV9 := Lib.hid hV
 have HS := Lib.hid hs
 have HV := Lib.hid hv
 have HZ := Lib.hid hz
 have HI := Lib.hid hi
 have H2 := Lib.hid h200
 have cR := Kn.rRight_c vs s w hs
 have CF := Lib.hid fun (wz : World) (h : Bk.Ds wz v L) (h2 : Kn.Cols wz vs s) => Bk.rfits_c vs v s L wz h2 h HZ.out
 obtain ⟨a, c, rfl, hlc, hcm, h⟩ := hv
 obtain ⟨sa, sc, rfl, -⟩ := hs
 have HH := Lib.hid h
 have HLC := Lib.hid (And.intro hlc hcm)
 clear hV hz hi h h200 hlc hcm
 cases hr : Kn.right s
 ·rw [hr] at cR
  have HE := Lib.hid (HV9.out.trans (Rn.wV_bad (Rn.wE_k (L := L) hr) (by decide)))
  clear hr
  go_enter Tryz.func12, Tryz.ntmps12
  go_wp2_with fail
  with_reducible refine cR.mono ?_
  rintro e w1 ⟨rfl, rfl⟩
  go_wp2
  go_ret2
  exact ⟨by rw [HE.out]; rfl, Below.refl _ _⟩
 rw [hr] at cR
 have HR := Lib.hid hr
 clear hr
 by_cases hl0 : L.length = 0
 ·have HE := Lib.hid (HV9.out.trans (Rn.wV_bad (Rn.wE_n HR.out hl0) (by decide)))
  have hb0 : ((L.length : Int) == 0) = true := by rw [hl0]; rfl
  clear hl0
  go_enter Tryz.func12, Tryz.ntmps12
  go_wp2_with fail
  with_reducible refine cR.mono ?_
  rintro e w1 ⟨rfl, rfl⟩
  go_wp2
  go_ret2
  exact ⟨by rw [HE.out]; rfl, Below.refl _ _⟩
 have hb0 : ((L.length : Int) == 0) = false := by rw [beq_eq_false_iff_ne]; omega
 have HL0 := Lib.hid hl0
 clear hl0
 by_cases hf : Bk.fitsE s L = 0
 rotate_left
 ·have HE := Lib.hid (HV9.out.trans (Rn.wV_bad (Rn.wE_f HR.out HL0.out hf) hf))
  have hnb : (Bk.fitsE s L != 0) = true := by rw [bne_iff_ne]; exact hf
  generalize Bk.fitsE s L = E at CF hnb HE
  clear hf
  go_enter Tryz.func12, Tryz.ntmps12
  go_wp2_with fail
  with_reducible refine cR.mono ?_
  rintro e w1 ⟨rfl, rfl⟩
  go_wp2_with fail
  with_reducible refine (CF.out _ HV.out HS.out).mono ?_
  rintro e w2 ⟨rfl, g2⟩
  have HG := Lib.hid g2
  clear g2
  go_wp2
  go_ret2
  exact ⟨by rw [HE.out]; rfl, HG.out⟩
 rw [hf] at CF
 have HF := Lib.hid (Rn.fits_0 hf)
 have HF0 := Lib.hid hf
 clear hf
 rcases HH.out with hn | ⟨b, o, rfl, hbl, -⟩
 ·exact absurd (by rw [hn]; rfl) HL0.out
 have hwe : ∀ i, i < Rn.nb L.length → Bk.wE s (Rn.bk L i) = 0 := fun i hi => Rn.bk_wE HR.out HF.out.1 HF.out.2 hi
 have HWE := Lib.hid hwe
 have HPF := Lib.hid (Rn.pre_few hwe)
 have HNB : Hid (Rn.nb L.length ≤ 25) := Lib.hid (by unfold Rn.nb; have := H2.out; omega)
 have CB := Lib.hid fun (wz : World) => Rn.rblocks_c b o L.length c wz (by have := HL0.out; omega) HLC.out.1 (by have := H2.out; omega)
 have CW := Lib.hid fun (i : Nat) (hi : i < Rn.nb L.length) (u : Value) (wz : World) (h1 : Kn.Cols wz (.slice sa s.length sc) s) (h2 : Bk.Ds wz u (Rn.bk L i)) => Bk.rwrite_c _ u s (Rn.bk L i) wz h1 h2 (fun d hd => HZ.out d (Rn.bk_mem hd)) (fun d hd => HI.out d (Rn.bk_mem hd))
 have hwn : IntKind.u64.wrap (Rn.nb L.length : Int) = (Rn.nb L.length : Int) := by rw [IntKind.wrap_u64]; have := HNB.out; omega
 have HEI := Lib.hid (Rn.enc_is s L)
 have HWN := Lib.hid hwn
 clear hwe hwn
 go_enter Tryz.func12, Tryz.ntmps12
 go_wp2_with fail
 with_reducible refine cR.mono ?_
 rintro e w1 ⟨rfl, rfl⟩
 go_wp2_with fail
 with_reducible refine (CF.out _ HV.out HS.out).mono ?_
 rintro e w2 ⟨rfl, g2⟩
 have HG2 := Lib.hid g2
 clear g2 cR
 go_wp2_with fail
 with_reducible refine (CB.out w2).mono ?_
 rintro e w3 ⟨u3, rfl, hO3, g3⟩
 have HG3 := Lib.hid (HG2.out.trans (g3.mono HG2.out.size))
 have HO3 := Lib.hid hO3
 have hf3 := hO3.form
 have hpl := Rn.parts_len b o L.length c (Rn.nb L.length)
 have HPA : Hid (∀ k, k < Rn.nb L.length → (Rn.parts b o L.length c (Rn.nb L.length))[k]? = some (Rn.part b o L.length c k)) := Lib.hid fun k hk => Rn.parts_at hk
 generalize Rn.parts b o L.length c (Rn.nb L.length) = P at hf3 hpl HPA HO3
 rw [hpl] at hf3
 obtain ⟨nb, hnb⟩ : ∃ nb, nb = Rn.nb L.length := ⟨_, rfl⟩
 have hnb0 : 0 < nb := by rw [hnb]; unfold Rn.nb; have := HL0.out; omega
 rw [← hnb] at hf3 hpl HPA HNB HWN HPF CW HEI HWE
 have HNE := Lib.hid hnb
 obtain ⟨ub, uc, rfl, hub⟩ : ∃ ub uc, u3 = .slice (some ⟨ub, 0, none⟩) nb uc ∧ ub < w3.heap.size := by
  rcases hf3 with ⟨_, h0⟩ | ⟨g, cc, h1, _, _, _, h2⟩
  ·rw [h0] at hpl; simp at hpl; omega
  ·exact ⟨g, cc, h1, h2⟩
 have HUB := Lib.hid hub
 have hwn := HWN.out
 clear hO3 g3 hf3 hpl hnb hub CB
 go_wp2_with fail
 with_reducible refine (Ty.ruint_nat nb _).mono ?_
 rintro e w4 ⟨rfl, g4⟩
 have HG4 := Lib.hid (HG3.out.trans (g4.mono HG3.out.size))
 have HO4 := Lib.hid (HO3.out.kept g4)
 have HUB4 : Hid (ub < w4.heap.size) := Lib.hid (Nat.lt_of_lt_of_le HUB.out g4.size)
 have HP0 : Hid (Ty.S (Rn.pre s L 0) = ⟨#[]⟩ ∧ Ty.S (Rn.ipre s L 0) = Ty.S (Ty.encU nb)) := Lib.hid ⟨rfl, by unfold Rn.ipre; rw [← HNE.out]; simp⟩
 clear g4 hwn HO3 HUB
 go_wp2_with fail
 go_loopw [8, 9, 10] (fun out ix i wr => ∃ k : Nat, k ≤ nb ∧ i = .int .i64 k ∧ out = .string (Ty.S (Rn.pre s L k)) ∧ ix = .string (Ty.S (Rn.ipre s L k)) ∧ Below w4.heap.size w4 wr) (fun _ _ i _ => nb - (intOf i).toNat)
 case atStart => exact ⟨0, Nat.zero_le _, rfl, by rw [HP0.out.1], by rw [HP0.out.2], Below.refl _ _⟩
 case round =>
  obtain ⟨k, hk, rfl, rfl, rfl, hB⟩ := hrel
  have HB := Lib.hid hB
  have HPK := Lib.hid (HPF.out k hk)
  have hk0 : (0 : Int) ≤ (k : Int) := by omega
  have hk25 : (k : Int) ≤ 25 := by have := HNB.out; omega
  clear hB
  by_cases hl : k < nb
  ·have c0 := HO4.out.cell Bk.e1_len rfl (HPA.out k hl) (j := 0) (by decide)
   rw [Nat.mul_one, Nat.add_zero] at c0
   have c0 := (HB.out.cell (p := ⟨ub, k, none⟩) HUB4.out).trans c0
   simp only [Bk.e1, List.getElem?_cons_zero] at c0
   have HDS := Lib.hid (Rn.ds_part (HV.out.later (HG4.out.trans (HB.out.mono HG4.out.size))) (i := k) (by rw [← HNE.out]; exact hl))
   have hHSc := HS.out.later (HG4.out.trans (HB.out.mono HG4.out.size))
   have HSC := Lib.hid hHSc
   generalize hpt : Rn.part b o L.length c k = pt at c0 HDS
   obtain ⟨p1, p2, p3⟩ := pt
   simp only [Bk.sv] at c0 HDS
   have cw := CW.out k hl _ wr HSC.out HDS.out
   rw [Bk.wV_ok (HWE.out k hl)] at cw
   have hef := Rn.enc_few (HWE.out k hl)
   have HPN : Hid (Rn.pre s L (k + 1) = Rn.pre s L k ++ Fr.frm (Bk.enc s (Rn.bk L k)) ∧ Rn.ipre s L (k + 1) = Rn.ipre s L k ++ Ty.encU (Fr.frm (Bk.enc s (Rn.bk L k))).length) := Lib.hid ⟨Rn.pre_next .., Rn.ipre_next ..⟩
   generalize Bk.enc s (Rn.bk L k) = E at cw hef HPN
   have HEF := Lib.hid hef
   have CFW := Lib.hid fun wz => Fr.rwrite_c (Ty.S E) (by rw [Ty.size_S]; omega) wz
   rw [Ty.data_S] at CFW
   have hfl : (Fr.frm E).length ≤ 6291528 := by rw [Fr.frm_len]; omega
   generalize Fr.frm E = F at CFW HPN hfl
   have hpk := HPK.out
   obtain ⟨x, hx⟩ : ∃ x, x = Ty.S (Rn.pre s L k) := ⟨_, rfl⟩
   obtain ⟨y, hy⟩ : ∃ y, y = Ty.S (Rn.ipre s L k) := ⟨_, rfl⟩
   obtain ⟨f, hf⟩ : ∃ f, f = Ty.S F := ⟨_, rfl⟩
   have hxs : x.size ≤ 160000000 := by rw [hx, Ty.size_S]; have := HNB.out; omega
   have hys : y.size ≤ 1000 := by rw [hy, Ty.size_S]; have := HNB.out; omega
   have hfs : f.size = F.length := by rw [hf, Ty.size_S]
   have n1 : ¬ 9223372036854775807 < x.size + f.size := by omega
   have hu9 := Ty.encU_len9 F.length
   obtain ⟨z, hz⟩ : ∃ z, z = Ty.S (Ty.encU F.length) := ⟨_, rfl⟩
   have hzs : z.size ≤ 9 := by rw [hz, Ty.size_S]; exact hu9
   have n2 : ¬ 9223372036854775807 < y.size + z.size := by omega
   have hwf : IntKind.u64.wrap (F.length : Int) = (F.length : Int) := by rw [IntKind.wrap_u64]; omega
   have CUN := Lib.hid fun wz => Ty.ruint_nat F.length wz
   unfold Ty.Str at CUN
   have HFS := Lib.hid hfs
   have HXE : Hid (Ty.S (Rn.pre s L (k + 1)) = x ++ f) := Lib.hid (by rw [HPN.out.1, hx, hf, Ig.S_add])
   have HYE : Hid (Ty.S (Rn.ipre s L (k + 1)) = y ++ z) := Lib.hid (by rw [HPN.out.2, hy, hz, Ig.S_add])
   have hkl : (k : Int) < (nb : Int) := by omega
   simp only [← hf, ← hz] at CFW CUN
   rw [← hx, ← hy]
   have HK := Lib.hid hl
   have HWF := Lib.hid hwf
   clear hpt hef hpk hx hy hf hz hxs hys hzs hu9 hl hk hHSc hfl hfs hwf
   go_wp2_with fail
   with_reducible refine cw.mono ?_
   rintro e w5 ⟨rfl, g5⟩
   have HB5 := Lib.hid (HB.out.trans (g5.mono HB.out.size))
   clear cw g5 c0
   go_wp2_with fail
   with_reducible refine (CFW.out _).mono ?_
   rintro e w6 ⟨rfl, g6⟩
   have HB6 := Lib.hid (HB5.out.trans (g6.mono HB5.out.size))
   have hfs := HFS.out
   have hwf := HWF.out
   clear g6
   go_wp2_with fail
   with_reducible refine (CUN.out _).mono ?_
   rintro e w7 ⟨rfl, g7⟩
   have HB7 := Lib.hid (HB6.out.trans (g7.mono HB6.out.size))
   clear g7 hfs hwf
   go_wp2
   go_roundw
   case rel => exact ⟨k + 1, HK.out, by simp, by rw [HXE.out], by rw [HYE.out], HB7.out⟩
   case measure => (have := HK.out; simp [intOf]; omega)
  ·obtain rfl : k = nb := by omega
   have hkl : ¬ (k : Int) < (k : Int) := by omega
   have hpk := HPK.out
   have CFW := Lib.hid fun wz => Fr.rwrite_c (Ty.S (Rn.ipre s L k)) (by rw [Ty.size_S]; have := HNB.out; omega) wz
   rw [Ty.data_S] at CFW
   have hfl : (Fr.frm (Rn.ipre s L k)).length ≤ 1000 := by rw [Fr.frm_len]; have := HNB.out; omega
   generalize Fr.frm (Rn.ipre s L k) = F at CFW HEI hfl
   obtain ⟨x, hx⟩ : ∃ x, x = Ty.S (Rn.pre s L k) := ⟨_, rfl⟩
   obtain ⟨f, hf⟩ : ∃ f, f = Ty.S F := ⟨_, rfl⟩
   have hxs : x.size ≤ 160000000 := by rw [hx, Ty.size_S]; have := HNB.out; omega
   have hfs : f.size ≤ 1000 := by rw [hf, Ty.size_S]; exact hfl
   have n1 : ¬ 9223372036854775807 < x.size + f.size := by omega
   have HXE : Hid (Ty.S (Rn.enc s L) = x ++ f ∧ (Rn.enc s L).length = x.size + f.size) := Lib.hid (by
    rw [HEI.out, hx, hf, Ig.S_add, Ty.size_S, Ty.size_S, List.length_append]
    exact ⟨rfl, rfl⟩)
   simp only [← hf] at CFW
   rw [← hx]
   clear hk hl hx hf hfl hpk
   by_cases hbig : 1048576 < (Rn.enc s L).length
   ·have HE := Lib.hid (HV9.out.trans (Rn.wV_bad (Rn.wE_l HR.out HL0.out HF0.out hbig) (by decide)))
    have hb9 : (1048576 : Int) < ((x.size + f.size : Nat) : Int) := by have := HXE.out.2; omega
    have hb8 : (1048576 : Int) < (x.size : Int) + (f.size : Int) := by omega
    clear hbig hb9
    go_wp2_with fail
    with_reducible refine (CFW.out _).mono ?_
    rintro e w6 ⟨rfl, g6⟩
    have HB6 := Lib.hid (HG4.out.trans ((HB.out.trans (g6.mono HB.out.size)).mono HG4.out.size))
    clear g6
    go_wp2
    go_ret2
    exact ⟨by rw [HE.out]; rfl, HB6.out⟩
   ·have HE := Lib.hid (HV9.out.trans (Rn.wV_ok (Rn.wE_g HR.out HL0.out HF0.out hbig)))
    have hb8 : ¬ (1048576 : Int) < (x.size : Int) + (f.size : Int) := by have := HXE.out.2; omega
    clear hbig
    go_wp2_with fail
    with_reducible refine (CFW.out _).mono ?_
    rintro e w6 ⟨rfl, g6⟩
    have HB6 := Lib.hid (HG4.out.trans ((HB.out.trans (g6.mono HB.out.size)).mono HG4.out.size))
    clear g6
    go_wp2
    go_ret2
    exact ⟨by rw [HE.out, HXE.out.1]; rfl, HB6.out⟩
end Go.Proofs.YtbelkhkllneifaaGreatDoor

namespace Go.Proofs.YtbelkhkllneifaaGreatDoor
open Go.RowKit
abbrev Zn.cs (z : Zn.Zo) : Array Value := #[.bool z.nulls, .bool z.values, .bool z.lo.null, .int .i64 z.lo.n, .string z.lo.s, .bool z.hi.null, .int .i64 z.hi.n, .string z.hi.s]
def Zn.Blk (w : World) (q : Nat) (z : Zn.Zo) : Prop := w.heap[q]? = some (.cells (Zn.cs z) 68 (0, 0))
theorem Zn.Blk.lt {w : World} {q : Nat} {z : Zn.Zo} (h : Zn.Blk w q z) : q < w.heap.size := lt_of_block h
theorem Zn.Blk.new (w : World) (z : Zn.Zo) : Zn.Blk (w.alloc (.cells (Zn.cs z) 68)) w.heap.size z := heap_alloc_new w _
theorem Zn.Blk.kept {w w' : World} {q : Nat} {z : Zn.Zo} (h : Zn.Blk w q z) (g : Below w.heap.size w w') : Zn.Blk w' q z := (g.block q h.lt).trans h
theorem Zn.Blk.alloc {w : World} {q : Nat} {z : Zn.Zo} (h : Zn.Blk w q z) (o : Obj) : Zn.Blk (w.alloc o) q z := h.kept ((Below.refl _ w).alloc (Nat.le_refl _) o)
theorem Zn.Blk.drew {w : World} {q : Nat} {z : Zn.Zo} (h : Zn.Blk w q z) : Zn.Blk w.drew q z := h
theorem Zn.Blk.other {w : World} {q g : Nat} {z : Zn.Zo} (h : Zn.Blk w q z) (hne : q ≠ g) (i : Nat) (v : Value) : Zn.Blk (w.setCell ⟨g, i, none⟩ v) q z := (heap_setCell_other w ⟨g, i, none⟩ q v hne).trans h
theorem Zn.Blk.cells {w : World} {q : Nat} {z : Zn.Zo} (h : Zn.Blk w q z) :
 w.cell? ⟨q, 0, none⟩ = some (.bool z.nulls) ∧ w.cell? ⟨q, 1, none⟩ = some (.bool z.values) ∧ w.cell? ⟨q, 2, none⟩ = some (.bool z.lo.null) ∧ w.cell? ⟨q, 3, none⟩ = some (.int .i64 z.lo.n) ∧ w.cell? ⟨q, 4, none⟩ = some (.string z.lo.s)
 ∧ w.cell? ⟨q, 5, none⟩ = some (.bool z.hi.null) ∧ w.cell? ⟨q, 6, none⟩ = some (.int .i64 z.hi.n) ∧ w.cell? ⟨q, 7, none⟩ = some (.string z.hi.s) := by
 unfold Zn.Blk at h
 refine ⟨?_, ?_, ?_, ?_, ?_, ?_, ?_, ?_⟩ <;> simp [World.cell?, h]
theorem Zn.Blk.frozen {w : World} {q : Nat} {z : Zn.Zo} (h : Zn.Blk w q z) (i : Nat) : w.frozen? ⟨q, i, none⟩ = false := by
 unfold Zn.Blk at h
 simp [World.frozen?, h]
theorem Zn.Blk.frozens {w : World} {q : Nat} {z : Zn.Zo} (h : Zn.Blk w q z) : w.frozen? ⟨q, 0, none⟩ = false ∧ w.frozen? ⟨q, 1, none⟩ = false ∧ w.frozen? ⟨q, 2, none⟩ = false ∧ w.frozen? ⟨q, 3, none⟩ = false ∧ w.frozen? ⟨q, 4, none⟩ = false
 ∧ w.frozen? ⟨q, 5, none⟩ = false ∧ w.frozen? ⟨q, 6, none⟩ = false ∧ w.frozen? ⟨q, 7, none⟩ = false :=
 ⟨h.frozen 0, h.frozen 1, h.frozen 2, h.frozen 3, h.frozen 4, h.frozen 5, h.frozen 6, h.frozen 7⟩
theorem Zn.Blk.set0 {w : World} {q : Nat} {z : Zn.Zo} (h : Zn.Blk w q z) (b : Bool) : Zn.Blk (w.setCell ⟨q, 0, none⟩ (.bool b)) q ⟨b, z.values, z.lo, z.hi⟩ :=
 heap_setCell_same w q 0 _ _ _ h
theorem Zn.Blk.set1 {w : World} {q : Nat} {z : Zn.Zo} (h : Zn.Blk w q z) (b : Bool) : Zn.Blk (w.setCell ⟨q, 1, none⟩ (.bool b)) q ⟨z.nulls, b, z.lo, z.hi⟩ :=
 heap_setCell_same w q 1 _ _ _ h
theorem Zn.Blk.set4 {w : World} {q : Nat} {z : Zn.Zo} (h : Zn.Blk w q z) (s : ByteArray) : Zn.Blk (w.setCell ⟨q, 4, none⟩ (.string s)) q ⟨z.nulls, z.values, ⟨z.lo.null, z.lo.n, s⟩, z.hi⟩ :=
 heap_setCell_same w q 4 _ _ _ h
theorem Zn.Blk.set7 {w : World} {q : Nat} {z : Zn.Zo} (h : Zn.Blk w q z) (s : ByteArray) : Zn.Blk (w.setCell ⟨q, 7, none⟩ (.string s)) q ⟨z.nulls, z.values, z.lo, ⟨z.hi.null, z.hi.n, s⟩⟩ :=
 heap_setCell_same w q 7 _ _ _ h
theorem Zn.Blk.setLo {w : World} {q : Nat} {z : Zn.Zo} (h : Zn.Blk w q z) (v : Kn.V) : Zn.Blk (((w.setCell ⟨q, 2, none⟩ (.bool v.null)).setCell ⟨q, 3, none⟩ (.int .i64 v.n)).setCell ⟨q, 4, none⟩ (.string v.s)) q ⟨z.nulls, z.values, v, z.hi⟩ :=
 heap_setCell_same _ q 4 _ _ _ (heap_setCell_same _ q 3 _ _ _ (heap_setCell_same _ q 2 _ _ _ h))
theorem Zn.Blk.setHi {w : World} {q : Nat} {z : Zn.Zo} (h : Zn.Blk w q z) (v : Kn.V) : Zn.Blk (((w.setCell ⟨q, 5, none⟩ (.bool v.null)).setCell ⟨q, 6, none⟩ (.int .i64 v.n)).setCell ⟨q, 7, none⟩ (.string v.s)) q ⟨z.nulls, z.values, z.lo, v⟩ :=
 heap_setCell_same _ q 7 _ _ _ (heap_setCell_same _ q 6 _ _ _ (heap_setCell_same _ q 5 _ _ _ h))
theorem Zn.below_set {B : Nat} {w w' : World} {q : Nat} (g : Below B w w') (h : B ≤ q) (i : Nat) (v : Value) : Below B w (w'.setCell ⟨q, i, none⟩ v) :=
 ⟨g.os, g.tape, g.output, by have := g.size; simpa [World.setCell] using this, fun b hb => (heap_setCell_other w' ⟨q, i, none⟩ b v (by show b ≠ q; omega)).trans (g.block b hb)⟩
theorem Zn.below_set3 {B : Nat} {w w' : World} {q : Nat} (g : Below B w w') (h : B ≤ q) (i j k : Nat) (x y z : Value) : Below B w (((w'.setCell ⟨q, i, none⟩ x).setCell ⟨q, j, none⟩ y).setCell ⟨q, k, none⟩ z) :=
 Zn.below_set (Zn.below_set (Zn.below_set g h i x) h j y) h k z
def Zn.put (w : World) (q : Nat) (z : Zn.Zo) : World := (((((((w.setCell ⟨q, 0, none⟩ (.bool z.nulls)).setCell ⟨q, 1, none⟩ (.bool z.values)).setCell ⟨q, 2, none⟩ (.bool z.lo.null)).setCell ⟨q, 3, none⟩ (.int .i64 z.lo.n)).setCell ⟨q, 4, none⟩ (.string z.lo.s)).setCell ⟨q, 5, none⟩ (.bool z.hi.null)).setCell ⟨q, 6, none⟩ (.int .i64 z.hi.n)).setCell ⟨q, 7, none⟩ (.string z.hi.s)
theorem Zn.put_below {B : Nat} {w w' : World} {q : Nat} (g : Below B w w') (h : B ≤ q) (z : Zn.Zo) : Below B w (Zn.put w' q z) :=
 Zn.below_set (Zn.below_set (Zn.below_set (Zn.below_set (Zn.below_set (Zn.below_set (Zn.below_set (Zn.below_set g h _ _) h _ _) h _ _) h _ _) h _ _) h _ _) h _ _) h _ _
theorem Zn.Blk.put {w : World} {q : Nat} {y : Zn.Zo} (h : Zn.Blk w q y) (z : Zn.Zo) : Zn.Blk (Zn.put w q z) q z :=
 (((h.set0 z.nulls).set1 z.values).setLo z.lo).setHi z.hi
abbrev Zn.acs (a : Zn.As) : Array Value := #[.int .i64 a.op, .int .i64 a.col, .bool a.v.null, .int .i64 a.v.n, .string a.v.s]
structure Zn.ABlk (w : World) (q : Nat) (a : Zn.As) : Prop where
 c0 : w.cell? ⟨q, 0, none⟩ = some (.int .i64 a.op)
 c1 : w.cell? ⟨q, 1, none⟩ = some (.int .i64 a.col)
 c2 : w.cell? ⟨q, 2, none⟩ = some (.bool a.v.null)
 c3 : w.cell? ⟨q, 3, none⟩ = some (.int .i64 a.v.n)
 c4 : w.cell? ⟨q, 4, none⟩ = some (.string a.v.s)
theorem Zn.ABlk.lt {w : World} {q : Nat} {a : Zn.As} (h : Zn.ABlk w q a) : q < w.heap.size := World.block_lt_of_cell? w _ h.c0
theorem Zn.ABlk.kept {w w' : World} {q : Nat} {a : Zn.As} (h : Zn.ABlk w q a) (g : Below w.heap.size w w') : Zn.ABlk w' q a :=
 ⟨(g.cell (p := ⟨q, 0, none⟩) h.lt).trans h.c0, (g.cell (p := ⟨q, 1, none⟩) h.lt).trans h.c1, (g.cell (p := ⟨q, 2, none⟩) h.lt).trans h.c2, (g.cell (p := ⟨q, 3, none⟩) h.lt).trans h.c3, (g.cell (p := ⟨q, 4, none⟩) h.lt).trans h.c4⟩
theorem Zn.ABlk.new (w : World) (a : Zn.As) (t : TypeId) : Zn.ABlk (w.alloc (.cells (Zn.acs a) t)) w.heap.size a :=
 ⟨Kn.cell_new w _ t 0 _ rfl, Kn.cell_new w _ t 1 _ rfl, Kn.cell_new w _ t 2 _ rfl, Kn.cell_new w _ t 3 _ rfl, Kn.cell_new w _ t 4 _ rfl⟩
end Go.Proofs.YtbelkhkllneifaaGreatDoor

namespace Go.Proofs.YtbelkhkllneifaaGreatDoor
open Go.RowKit
theorem Kn.Cols.alloc {w : World} {v : Value} {l : List Kn.C} (h : Kn.Cols w v l) (x : Obj) : Kn.Cols (w.alloc x) v l := h.later ((Below.refl _ w).alloc (Nat.le_refl _) x)
theorem Kn.Vals.alloc {w : World} {v : Value} {l : List Kn.V} (h : Kn.Vals w v l) (x : Obj) : Kn.Vals (w.alloc x) v l := h.later ((Below.refl _ w).alloc (Nat.le_refl _) x)
end Go.Proofs.YtbelkhkllneifaaGreatDoor

namespace Go.Proofs.YtbelkhkllneifaaGreatDoor
open Go.RowKit
theorem Kn.drewN_below (w : World) (n : Nat) : Below w.heap.size w (w.drewN n) := Kn.below_drewN (Below.refl _ _) n
end Go.Proofs.YtbelkhkllneifaaGreatDoor

namespace Go.Proofs.YtbelkhkllneifaaGreatDoor
open Go.RowKit
theorem Zn.ops (x : Int) : x = 0 ∨ x = 4 ∨ x = 5 ∨ x = 1 ∨ x = 2 ∨ x = 3 ∨ ((x == 0) = false ∧ (x == 1) = false ∧ (x == 2) = false ∧ (x == 3) = false ∧ (x == 4) = false ∧ (x == 5) = false ∧ x ≠ 0 ∧ x ≠ 1 ∧ x ≠ 2 ∧ x ≠ 3 ∧ x ≠ 4 ∧ x ≠ 5) := by
 simp only [beq_eq_false_iff_ne]
 omega
end Go.Proofs.YtbelkhkllneifaaGreatDoor

namespace Go.Proofs.YtbelkhkllneifaaGreatDoor
open Go.RowKit
theorem Zn.results_cell {fn : Func} {p : Tmp} {ty : TypeId} (h : fn.results = #[.cell p ty]) (tmps : Array Value) (P : Program) (w : World) :
 (results fn tmps).run P w = ((asAddr (tmps.getD p undef)).run P w).andThen fun a w1 => (loadVar ty a).run P w1 := by
 simp only [results, h]
 simp [Sem.run_bind, Result.andThen]
end Go.Proofs.YtbelkhkllneifaaGreatDoor
