import Derived.Test.YtbelkhkllneifaaGreatDoorWEAZ
import Derived.Test.YtbelkhkllneifaaGreatDoorWEAQ
import Derived.Test.YtbelkhkllneifaaGreatDoorWEAK
import Derived.Test.YtbelkhkllneifaaGreatDoorWEAD
import Derived.Test.YtbelkhkllneifaaGreatDoorWEAG
import Derived.Test.YtbelkhkllneifaaGreatDoorWEAP
import Derived.Lib.QuietBelow
import Derived.BigQuiet
import Derived.Test.YtbelkhkllneifaaGreatDoorWEAT
import Derived.Test.YtbelkhkllneifaaGreatDoorWEAS
import Derived.Shelf.Abstract
import Derived.Shelf.RegionOpen
import Derived.OwnWalkIn
import Derived.TacticsInMore
import Derived.LoopNIn
import Derived.LoopIn
namespace Go.Proofs.YtbelkhkllneifaaGreatDoor
section
open Go.RowKit
def Fr.W (w : World) : Prop := w = w
theorem Fr.W.below {w w' : World} (_ : Fr.W w) (_ : Below w.heap.size w w') : Fr.W w' := rfl
set_option maxHeartbeats 1000000 in
set_option maxRecDepth 100000 in
theorem Fr.sum_c (s : ByteArray) (hs : s.size ≤ 140737488355328) (w : World) (_ : Fr.W w) :
 Calls Tryz.prog 103 #[.string s] w fun e w' => e = .returned (.int .u32 ((Fr.sum s.data.toList : Nat) : Int)) ∧ Below w.heap.size w w' := by
 have c1 := Fr.steps_c w
 have C2 : Hid (∀ g wz, Fr.Tab wz g → Calls Tryz.prog 131 #[.pointer (some ⟨g, 0, none⟩), .string s] wz fun e w' => e = .returned (.int .u32 ((Fr.sum s.data.toList : Nat) : Int)) ∧ w' = wz) := Lib.hid fun g wz h => Fr.tsum_c g s hs wz h
 generalize Fr.sum s.data.toList = M at C2 ⊢
 clear hs
 go_enter Tryz.func103, Tryz.ntmps103
 go_wp2_with fail
 with_reducible refine c1.mono ?_
 rintro e w1 ⟨g, rfl, hT, g1⟩
 have c2 := C2.out g w1 hT
 have HB := Lib.hid g1
 clear c1 C2 hT g1
 go_wp2_with fail
 with_reducible refine c2.mono ?_
 rintro e w2 ⟨rfl, h2⟩
 subst w2
 clear c2
 go_wp2
 go_ret
 exact ⟨rfl, HB.out⟩
set_option maxHeartbeats 2000000 in
set_option maxRecDepth 100000 in
theorem Fr.write_c (s : ByteArray) (hs : s.size ≤ 140737488355328) (w : World) (_ : Fr.W w) :
 Calls Tryz.prog 70 #[.string s] w fun e w' => e = .returned (.string (Ty.S (Fr.frm s.data.toList))) ∧ Below w.heap.size w w' := by
 have hN : s.size % 4294967296 < 4294967296 := Nat.mod_lt _ (by decide)
 have hww : IntKind.u32.wrap (s.size : Int) = ((s.size % 4294967296 : Nat) : Int) := by rw [IntKind.wrap_u32]; omega
 have c1 := fun wz => Fr.four_c (s.size % 4294967296) hN wz
 have c2 := fun wz => Fr.sum_c s hs wz (by rfl)
 have c3 := fun wz => Fr.four_c (Fr.sum s.data.toList) (Fr.sum_lt _) wz
 have HF : Hid (Ty.S (Fr.frm s.data.toList) = (Ty.S (Fr.four (s.size % 4294967296)) ++ s) ++ Ty.S (Fr.four (Fr.sum s.data.toList))) := Lib.hid (by
  unfold Fr.frm
  rw [Fr.four_mod, Ty.length_data]
  conv => rhs; lhs; rhs; rw [← Ty.S_data s]
  rw [Fr.S_add, Fr.S_add, List.append_assoc])
 have e1 : (Ty.S (Fr.four (s.size % 4294967296))).size = 4 := rfl
 have e3 : (Ty.S (Fr.four (Fr.sum s.data.toList))).size = 4 := rfl
 obtain ⟨A, hA⟩ : ∃ A, A = Ty.S (Fr.four (s.size % 4294967296)) := ⟨_, rfl⟩
 obtain ⟨B, hB⟩ : ∃ B, B = Ty.S (Fr.four (Fr.sum s.data.toList)) := ⟨_, rfl⟩
 rw [← hA] at c1 HF e1
 rw [← hB] at c3 HF e3
 generalize Fr.sum s.data.toList = M at c2 c3
 generalize s.size % 4294967296 = N at c1 hww
 have n1 : ¬ 9223372036854775807 < A.size + s.size := by omega
 have n2 : ¬ 9223372036854775807 < A.size + s.size + B.size := by omega
 clear hA hB e1 e3 hN
 go_enter Tryz.func70, Tryz.ntmps70
 go_wp2_with fail
 with_reducible refine (c1 _).mono ?_
 rintro e w1 ⟨rfl, g1⟩
 have HB1 := Lib.hid g1
 clear g1 c1
 go_wp2_with fail
 with_reducible refine (c2 _).mono ?_
 rintro e w2 ⟨rfl, g2⟩
 have HB2 := Lib.hid (HB1.out.trans (g2.mono HB1.out.size))
 clear c2 g2 HB1
 go_wp2_with fail
 with_reducible refine (c3 _).mono ?_
 rintro e w3 ⟨rfl, g3⟩
 have HB3 := Lib.hid (HB2.out.trans (g3.mono HB2.out.size))
 clear g3 c3
 go_wp2
 go_ret
 exact ⟨by rw [HF.out]; rfl, HB3.out⟩
set_option maxHeartbeats 4000000 in
set_option maxRecDepth 100000 in
theorem Fr.scan_c (s : ByteArray) (hs : s.size ≤ 70368744177664) (w : World) (_ : Fr.W w) :
 Calls Tryz.prog 86 #[.string s] w (Fr.Got w (Fr.scan s.data.toList)) := by
 obtain ⟨l, hl⟩ : ∃ l, l = s.data.toList := ⟨_, rfl⟩
 have hll : l.length = s.size := by rw [hl, Ty.length_data]
 rw [← hl]
 have HL := Lib.hid hl
 have HLL := Lib.hid hll
 have HM0 := Lib.hid (Fr.Mid.start l)
 obtain ⟨R, hR⟩ : ∃ R, R = Fr.scan l := ⟨_, rfl⟩
 rw [← hR]
 have HRR := Lib.hid hR
 have c1 := Fr.steps_c w
 have CF : Hid (∀ g (t : ByteArray) wz, t.size ≤ 140737488355328 → Fr.Tab wz g → Calls Tryz.prog 111 #[.pointer (some ⟨g, 0, none⟩), .string t] wz fun e w' => e = .returned (.tuple #[.string (Ty.S (Fr.fst t.data.toList).1), .int .i64 (((Fr.fst t.data.toList).2 : Nat) : Int)]) ∧ ∃ n, w' = wz.drewN n) := Lib.hid fun g t wz h h2 => Fr.first_c g t h wz h2
 clear hR hl hll
 go_enter Tryz.func86, Tryz.ntmps86
 go_wp2_with fail
 with_reducible refine c1.mono ?_
 rintro e w0 ⟨g, rfl, hT0, g0⟩
 have HT0 := Lib.hid hT0
 have HB0 := Lib.hid g0
 clear c1 hT0 g0
 go_wp2
 go_loopw [5, 6, 8, 9] (fun ov av _ _ wr => ∃ (a : Nat) (L : List Fr.Str), av = .int .i64 a ∧ Fr.Mid l a L ∧ Tx.Own w0.heap.size wr ov L ∧ Below w0.heap.size w0 wr) (fun _ av _ _ _ => s.size - (intOf av).toNat)
 case atStart => exact ⟨0, [], rfl, HM0.out, Tx.Own.nil _ _, Below.refl _ _⟩
 case round =>
  obtain ⟨a, L, rfl, hM, hO, hb⟩ := hrel
  have hT := HT0.out.kept hb
  have has : a ≤ s.size := by have := hM.1; rw [HLL.out] at this; exact this
  have hL8 : 8 * L.length ≤ a := hM.2.1
  have hF := hM.fst
  have HO := Lib.hid hO
  have HB := Lib.hid hb
  have hws := hb.size
  have ha0 : (0 : Int) ≤ (a : Int) := by omega
  have hai : (a : Int) ≤ (s.size : Int) := by omega
  have hx : s.extract a s.size = Ty.S (l.drop a) := by
   rw [Fr.ext_at, HL.out, List.take_of_length_le (by rw [List.length_drop, Ty.length_data]; omega)]
  have cf := CF.out g (Ty.S (l.drop a)) wr (by rw [Ty.size_S, List.length_drop, HLL.out]; omega) hT
  rw [Ty.data_S] at cf
  rw [HLL.out] at hF
  generalize Ty.S (l.drop a) = X at hx cf
  obtain ⟨F, hFF⟩ : ∃ F, F = Fr.fst (l.drop a) := ⟨_, rfl⟩
  rw [← hFF] at cf hF
  obtain ⟨K, E⟩ := F
  simp only at cf hF
  have HF := Lib.hid hF
  obtain ⟨T, hTT⟩ : ∃ T, T = Ty.S K := ⟨_, rfl⟩
  rw [← hTT] at cf
  have HTT := Lib.hid hTT
  have hTs : T.size = K.length := by rw [hTT, Ty.size_S]
  clear hM hO hb HM0 hT HT0 hF hFF hTT CF
  go_wp2_with fail
  with_reducible refine cf.mono ?_
  rintro e w1 ⟨rfl, n1, hw1⟩
  have HB1 : Hid (Below w0.heap.size w0 w1) := Lib.hid (by rw [hw1]; exact HB.out.trans ((Bt.drewN_below _ _).mono hws))
  have HO1 : Hid (Tx.Own w0.heap.size w1 u5 L) := Lib.hid (by rw [hw1]; exact Bt.Buf.kept HO.out (Bt.drewN_below _ _))
  clear hw1 cf HO HB
  rcases HF.out with ⟨rfl, hS⟩ | ⟨rfl, hS⟩ | ⟨rfl, hK, hKs, hM⟩
  ·have HE := Lib.hid (HRR.out.trans hS)
   have HAT := Lib.hid (Tx.Own.at HO1.out)
   clear hS HF HTT hTs
   go_wp2
   go_ret3
   exact Fr.Got.good HE.out HAT.out (HB0.out.trans (HB1.out.mono HB0.out.size))
  ·have HE := Lib.hid (HRR.out.trans hS)
   clear hS HF HTT hTs
   go_wp2
   go_ret3
   exact Fr.Got.bad HE.out (HB0.out.trans (HB1.out.mono HB0.out.size))
  ·have HM := Lib.hid hM
   have cc := Tx.clone_c T w1 (by omega)
   have hLL : (L.length + 1) * 16 ≤ 140737488355328 := by omega
   clear hM HF
   go_wp2_with fail
   with_reducible refine cc.mono ?_
   rintro e w2 ⟨rfl, g2⟩
   have HB2 : Hid (Below w0.heap.size w0 w2) := Lib.hid (HB1.out.trans (g2.mono HB1.out.size))
   have hO2 : Tx.Own w0.heap.size w2 u5 L := Bt.Buf.kept HO1.out g2
   have hws2 := HB2.out.size
   clear cc g2 HB1 HO1
   go_wp2_with (at_builtin; refine Bt.wpList_append_one 9 111 (.string ⟨#[]⟩) 16 Tryz.underlying111 Tx.infoS rfl (hO2.pre K) hws2 hLL (by omega) (.tmp 23) (.tmp 26) _ rfl rfl rfl rfl rfl ?_; intro v3 w3 h3 g3)
   have HO3 := Lib.hid (Tx.Own.post (h3 (by rw [← Tx.sv_snoc, ← HTT.out])))
   have HB3 := Lib.hid (Tx.grew_below HB2.out hO2 g3)
   clear h3 g3 hO2 hLL
   go_wp2
   go_roundw
   case rel => exact ⟨a + (K.length + 8), L ++ [K], by congr 1, HM.out, HO3.out, HB3.out⟩
   case measure => simp [intOf]; omega
set_option maxHeartbeats 2000000 in
set_option maxRecDepth 100000 in
theorem Fr.all_c (s : ByteArray) (hs : s.size ≤ 70368744177664) (w : World) (hw : Fr.W w) :
 Calls Tryz.prog 59 #[.string s] w (Fr.GotA w (Fr.all s.data.toList)) := by
 have cr := Fr.scan_c s hs w hw
 have hle := Fr.scan_le s.data.toList
 rw [Ty.length_data] at hle
 have HA : Hid (Fr.all s.data.toList = if (Fr.scan s.data.toList).1 ≠ 0 then ((Fr.scan s.data.toList).1, []) else if (Fr.scan s.data.toList).2.2 < s.size then (2, []) else (0, (Fr.scan s.data.toList).2.1)) := Lib.hid (by rw [Fr.all, Ty.length_data])
 generalize Fr.all s.data.toList = R at HA ⊢
 generalize Fr.scan s.data.toList = q at cr hle HA
 obtain ⟨E, L, n⟩ := q
 simp only at hle HA
 unfold Fr.Got at cr
 simp only at cr
 clear hw
 go_enter Tryz.func59, Tryz.ntmps59
 go_wp2_with fail
 with_reducible refine cr.mono ?_
 rintro e w1 ⟨v, rfl, hV, g1⟩
 have HV := Lib.hid hV
 have HB1 := Lib.hid g1
 clear cr hV g1
 by_cases hE : E = 0
 ·have hEi : (E : Int) = 0 := by omega
  by_cases hn : n < s.size
  ·have hni : (n : Int) < (s.size : Int) := by omega
   have HR := Lib.hid (HA.out.trans ((if_neg (by simp [hE])).trans (if_pos hn)))
   clear hE hn HA
   go_wp2
   go_ret2
   exact Fr.GotA.bad HR.out HB1.out
  ·have hni : ¬ (n : Int) < (s.size : Int) := by omega
   have HR := Lib.hid (HA.out.trans ((if_neg (by simp [hE])).trans (if_neg hn)))
   clear hE hn HA
   go_wp2
   go_ret2
   exact Fr.GotA.good HR.out HV.out HB1.out
 ·have hEi : ¬ (E : Int) = 0 := by omega
  have HR := Lib.hid (HA.out.trans (if_pos hE))
  clear hE HA
  go_wp2
  go_ret2
  exact Fr.GotA.bad HR.out HB1.out
end
section
open Go.RowKit
open Ty (encU)
def Rn.ix (T : List Fr.Str) (k : Nat) : List UInt8 := encU T.length ++ (T.take k).flatMap fun t => encU (Fr.frm t).length
theorem Rn.ix_next {T : List Fr.Str} {k : Nat} (h : k < T.length) : Rn.ix T (k + 1) = Rn.ix T k ++ encU (T[k].length + 8) := by
 unfold Rn.ix
 rw [List.take_succ_eq_append_getElem h, List.flatMap_append, List.append_assoc, List.flatMap_cons, List.flatMap_nil, List.append_nil, Fr.frm_len]
theorem Rn.ix_len (T : List Fr.Str) : ∀ k, k ≤ T.length → (Rn.ix T k).length ≤ 9 + 9 * k
 | 0, _ => by
   unfold Rn.ix
   rw [List.take_zero, List.flatMap_nil, List.append_nil]
   exact Ty.encU_len9 _
 | k + 1, h => by
   have ih := Rn.ix_len T k (by omega)
   rw [Rn.ix_next (by omega), List.length_append]
   have := Ty.encU_len9 (T[k].length + 8)
   omega
theorem Rn.ix_index (s : List Kn.C) (L : List Dd.D) : Rn.ix ((Rn.blocks L).map (Bk.enc s)) ((Rn.blocks L).map (Bk.enc s)).length = Rn.index s L := by
 unfold Rn.ix Rn.index
 rw [List.take_length, List.length_map, Rn.blocks_len, List.flatMap_map]
set_option maxHeartbeats 4000000 in
set_option maxRecDepth 100000 in
theorem Rn.index_c (v : Value) (T : List Fr.Str) (w : World) (hT : Ty.Tabs w) (hv : Tx.At w.heap.size w v T) (hl : T.length ≤ 1048576) (ht : ∀ t ∈ T, t.length ≤ 6291520) :
 Calls Tryz.prog 61 #[v] w fun e w' => e = .returned (.string (Ty.S (Rn.ix T T.length))) ∧ Below w.heap.size w w' := by
 obtain ⟨a, c, rfl, _, _, h⟩ := hv
 have HH := Lib.hid h
 have HT := Lib.hid hT
 have HL := Lib.hid (And.intro hl ht)
 have cf := Fr.write_c ⟨#[]⟩ (by decide) w rfl
 obtain ⟨x, hx⟩ : ∃ x, x = Ty.S (Fr.frm (⟨#[]⟩ : ByteArray).data.toList) := ⟨_, rfl⟩
 rw [← hx] at cf
 have hx8 : x.size = 8 := by rw [hx]; rfl
 have hwk : IntKind.u64.wrap (T.length : Int) = (T.length : Int) := by rw [IntKind.wrap_u64]; omega
 clear h hT ht hl hx
 go_enter Tryz.func61, Tryz.ntmps61
 go_wp2_with fail
 with_reducible refine cf.mono ?_
 rintro e w1 ⟨rfl, g1⟩
 have HG1 := Lib.hid g1
 have cu := Ty.uintNil (T.length : Int) (by omega) (show Ty.U64 ((T.length : Int)).toNat by rw [Int.toNat_natCast]; unfold Ty.U64; have := HL.out.1; omega) w1 (HT.out.below HG1.out HT.out.two)
 rw [Int.toNat_natCast] at cu
 clear cf g1
 go_wp2_with fail
 with_reducible refine cu.mono ?_
 rintro e w2 ⟨v2, rfl, hO2, hT2, g2⟩
 have HO2 := Lib.hid hO2
 have HB2 := Lib.hid g2
 clear cu hO2 hT2 g2 hwk
 go_wp2_with fail
 go_loopw [4, 15] (fun out i wr => ∃ k : Nat, k ≤ T.length ∧ i = .int .i64 k ∧ Ty.Buf w1.heap.size wr out (Rn.ix T k) ∧ Below w1.heap.size w1 wr) (fun _ i _ => T.length - (intOf i).toNat)
 case atStart => exact ⟨0, Nat.zero_le _, rfl, by unfold Rn.ix; rw [List.take_zero, List.flatMap_nil, List.append_nil]; exact HO2.out, HB2.out⟩
 case round =>
  obtain ⟨k, hk, rfl, hO, hB⟩ := hrel
  have HO := Lib.hid hO
  have HB := Lib.hid hB
  have HIL := Lib.hid (Rn.ix_len T k hk)
  clear hO hB
  by_cases hkl : k < T.length
  ·rcases HH.out with ⟨h0, _⟩ | ⟨b, o, rfl, hb, hc⟩
   ·rw [h0] at hkl; simp at hkl
   ·have hx := List.getElem?_eq_getElem hkl
    have c0 := hc k hkl
    unfold Tx.sv at c0
    rw [List.getD_eq_getElem?_getD, hx, Option.getD_some] at c0
    have HN := Lib.hid (Rn.ix_next hkl)
    have hel := HL.out.2 _ (List.getElem_mem hkl)
    generalize T[k] = E at c0 HN hel
    have HBW := Lib.hid (HG1.out.trans (HB.out.mono HG1.out.size))
    have c0 := (HBW.out.cell (p := ⟨b, o + k, none⟩) hb).trans c0
    obtain ⟨y, hy⟩ : ∃ y, y = Ty.S E := ⟨_, rfl⟩
    have hys : y.size = E.length := by rw [hy]; rfl
    rw [← hy] at c0
    obtain ⟨n, hn⟩ : ∃ n, n = E.length := ⟨_, rfl⟩
    rw [← hn] at hys HN hel
    have hwn : IntKind.u64.wrap ((n : Int) + 8) = (n : Int) + 8 := by rw [IntKind.wrap_u64]; omega
    have dk : (k : Int) < (T.length : Int) := by omega
    have dk0 : (0 : Int) ≤ (k : Int) := by omega
    have dk7 : (k : Int) ≤ 1048576 := by have := HL.out.1; omega
    have hn7 : (n : Int) ≤ 6291520 := by omega
    have hn0 : (0 : Int) ≤ (n : Int) := by omega
    have cu := Ty.uint_c w1.heap.size _ _ ((n : Int) + 8) (by omega) (by unfold Ty.U64; omega) wr (HT.out.below HBW.out HT.out.two) HO.out HB.out.size (by have := HIL.out; have := HL.out.1; omega)
    rw [show ((n : Int) + 8).toNat = n + 8 by omega, ← HN.out] at cu
    have HK := Lib.hid hkl
    clear hk hkl hc hx hy hn hel hb
    go_wp2_with fail
    with_reducible refine cu.mono ?_
    rintro e w3 ⟨v3, rfl, hO3, g3⟩
    have HO3 := Lib.hid hO3
    have HB3 := Lib.hid (HB.out.trans (g3.below HB.out.size HO.out.base))
    clear cu hO3 g3 c0 hwn hys
    go_wp2
    go_roundw
    case rel => exact ⟨k + 1, HK.out, by simp, HO3.out, HB3.out⟩
    case measure => (have := HK.out; simp [intOf]; omega)
  ·obtain rfl : k = T.length := by omega
   have dk : ¬ (T.length : Int) < (T.length : Int) := by omega
   have hcv := HO.out.str
   clear hk hkl
   go_wp2
   go_ret
   exact ⟨rfl, HG1.out.trans (HB.out.mono HG1.out.size)⟩
end
section
open Go Go.RowKit
theorem Rn.all_enc {s : List Kn.C} {L : List Dd.D} (h : (Rn.enc s L).length ≤ 1048576) : Fr.all (Rn.enc s L) = (0, Rn.texts s L) := by
 unfold Fr.all
 rw [Rn.scan_enc h, if_neg (by simp), if_neg (by simp)]
theorem Rn.take_next {L : List Dd.D} (k : Nat) : L.take (8 * k) ++ Rn.bk L k = L.take (8 * (k + 1)) := by
 unfold Rn.bk
 rw [show 8 * (k + 1) = 8 * k + 8 by omega, List.take_add]
theorem Rn.fit_s {s : List Kn.C} (hr : Kn.right s = true) {d : Dd.D} (h : Dd.fitE s d = 0) : (∀ v ∈ d.row, Kn.Z v) ∧ d.row.length ≤ 6 ∧ d.row ≠ [] := by
 obtain ⟨_, h2, h3⟩ := Dd.fitE_0 h
 have h6 := Kn.right_len hr
 have hlen := h2
 rw [Bk.cols_len] at hlen
 refine ⟨fun v hv => ?_, by split at hlen <;> omega, fun e => by rw [e] at hlen; simp only [List.length_nil] at hlen; split at hlen <;> omega⟩
 obtain ⟨j, hj, rfl⟩ := List.mem_iff_getElem.1 hv
 have hc := List.getElem?_eq_getElem (l := Dd.cols s d.gone) (i := j) (by rw [← h2]; exact hj)
 have hg := Bk.good_of hr (Bk.cols_at.1 hc).1
 have hf := Bk.fitsAll_at _ _ h3 j _ _ hc (List.getElem?_eq_getElem hj)
 rw [Bk.fits_is hg] at hf
 unfold Kn.Z
 cases hv : d.row[j].null
 ·by_cases hk : (Dd.cols s d.gone)[j].k = 1
  ·rw [Cl.is_num hk hf hv]
   exact Nat.zero_le _
  ·have := (Cl.is_str hk hf hv).2
   rw [Bt.length_data] at this
   omega
 ·rw [(Cl.is_null hf hv).1]
  exact Nat.zero_le _
def Rn.Loaded (w : World) (s : List Kn.C) (L : List Dd.D) (e : Ending) (w' : World) : Prop := ∃ p, e = .returned (.tuple #[.pointer (some ⟨p, 0, none⟩), .int .i64 0]) ∧ Rn.P w' p s L ∧ Below w.heap.size w w'
set_option maxHeartbeats 8000000 in
set_option maxRecDepth 100000 in
theorem Rn.load_c (vs : Value) (s : List Kn.C) (L : List Dd.D) (w : World) (hT : Ty.Tabs w) (hs : Kn.Cols w vs s) (hE : Rn.wE s L = 0) (hi : ∀ d ∈ L, ∀ v ∈ d.row, Ty.I64 v.n) (h2 : L.length ≤ 200) :
 Calls Tryz.prog 31 #[vs, .string (Ty.S (Rn.enc s L))] w (Rn.Loaded w s L) := by
 obtain ⟨hr, hl1, hf, hso, hle⟩ := Rn.wE_0 hE
 have cR := Kn.right_c vs s w hs
 rw [hr] at cR
 have CA := Lib.hid fun wz => Fr.all_c (Ty.S (Rn.enc s L)) (by rw [Ty.size_S]; omega) wz rfl
 rw [Ty.data_S, Rn.all_enc hle] at CA
 unfold Fr.GotA at CA
 simp only [Int.natCast_zero] at CA
 have HT := Lib.hid hT
 have HS := Lib.hid hs
 have HF := Lib.hid fun d hd => Rn.fit_s hr (hf d hd)
 have HFE := Lib.hid hf
 have HR := Lib.hid hr
 have HNB : Hid (1 ≤ Rn.nb L.length ∧ Rn.nb L.length ≤ 25) := Lib.hid (by unfold Rn.nb; omega)
 have HL0 : Hid (L ≠ [] ∧ L.length ≤ 200) := Lib.hid ⟨fun e => by rw [e] at hl1; simp at hl1, h2⟩
 obtain ⟨Zf, hZf⟩ : ∃ Zf : Nat → Nat → Zn.Zo, Zf = fun i j => Zn.of (Bk.col (Rn.bk L i) j) := ⟨_, rfl⟩
 have HZF := Lib.hid hZf
 have CADD := Lib.hid fun (k : Nat) (hk : k < Rn.nb L.length) (B p : Nat) (wz : World) (d z : Value) M Z (ht : Ty.Tabs wz) (h1 : Kn.Cols wz vs s) (h : Rn.Ld B p s.length (L.take (8 * k)) Zf k wz d z M Z) (hB : B ≤ p) =>
  Rn.add_c vs s (Ty.S (Bk.enc s (Rn.bk L k))) (K := Rn.bk L k) ht h1 (by rw [Ty.size_S]; have := Rn.enc_few (Rn.bk_wE hr hf hso hk); omega) h hB (by rw [Ty.data_S]; exact Rn.rd_bk hE hi hk)
   (fun e => by have := (Rn.bk_some hk).1; rw [e] at this; simp at this) (by rw [List.length_take]; have := Rn.nb_le hk; omega) hr (fun x hx => hf x (Rn.bk_mem hx)) (fun x hx => (Rn.fit_s hr (hf x (Rn.bk_mem hx))).1) (fun j => by rw [hZf]) (by rw [List.length_take]; omega) (by have := HNB.out; omega)
 have HTX : Hid ((Rn.texts s L).length = Rn.nb L.length + 1 ∧ (∀ k, k < Rn.nb L.length → (Rn.texts s L).getD k [] = Bk.enc s (Rn.bk L k)) ∧ (Rn.texts s L).getD (Rn.nb L.length) [] = Rn.index s L) := Lib.hid
  ⟨Rn.texts_len s L, fun k hk => by rw [List.getD_eq_getElem?_getD, Rn.texts_at hk]; rfl, by rw [List.getD_eq_getElem?_getD, Rn.texts_last]; rfl⟩
 have CIX := Lib.hid fun (v : Value) (wz : World) (ht : Ty.Tabs wz) (h : Tx.At wz.heap.size wz v ((Rn.blocks L).map (Bk.enc s))) => Rn.index_c v _ wz ht h (by rw [List.length_map, Rn.blocks_len]; have := HNB.out; omega) (fun t ht => by
  obtain ⟨b, hb, rfl⟩ := List.mem_map.1 ht
  obtain ⟨i, hi, rfl⟩ := Rn.blocks_mem hb
  exact Rn.enc_few (Rn.bk_wE hr hf hso hi))
 rw [Rn.ix_index] at CIX
 have HTB : Hid (((Rn.blocks L).map (Bk.enc s)).length = Rn.nb L.length ∧ ∀ k, k < Rn.nb L.length → ((Rn.blocks L).map (Bk.enc s)).getD k [] = Bk.enc s (Rn.bk L k)) := Lib.hid ⟨by rw [List.length_map, Rn.blocks_len], fun k hk => by rw [List.getD_eq_getElem?_getD, List.getElem?_map, Rn.blocks_at L hk]; rfl⟩
 have CSO := Lib.hid fun (v : Value) (wz : World) (h : Bk.Ds wz v L) => Bk.psorted_c v L wz h (fun d hd => (HF.out d hd).1)
 rw [hso] at CSO
 generalize Rn.texts s L = T at CA HTX
 generalize (Rn.blocks L).map (Bk.enc s) = TB at CIX HTB
 generalize Ty.S (Rn.enc s L) = X at CA ⊢
 obtain ⟨sa, sc, rfl, -⟩ := hs
 clear hr hl1 hf hso hle hE hi h2 hT hZf
 go_enter Tryz.func31, Tryz.ntmps31
 go_wp2_with fail
 with_reducible refine cR.mono ?_
 rintro e w1 ⟨rfl, g1⟩
 have HG1 := Lib.hid g1
 clear cR g1
 go_wp2_with fail
 with_reducible refine (CA.out w1).mono ?_
 rintro e w2 ⟨v2, rfl, hv2, g2⟩
 have HG2 := Lib.hid (HG1.out.trans (g2.mono HG1.out.size))
 have HV2 := Lib.hid hv2
 obtain ⟨va, vc, rfl, hvc, _, hv⟩ := hv2
 obtain ⟨nb, hnb⟩ : ∃ nb, nb = Rn.nb L.length := ⟨_, rfl⟩
 have HNE := Lib.hid hnb
 have htl := HTX.out.1
 rw [← hnb] at htl
 rcases hv with ⟨h0, _⟩ | ⟨b, o, rfl, hb, hc⟩
 ·rw [h0] at htl; simp at htl
 have HC := Lib.hid (And.intro hb hc)
 rw [htl] at hvc hc ⊢
 have HVC := Lib.hid hvc
 have hnb1 : (1 : Int) ≤ (nb : Int) := by have := HNB.out; omega
 have hnb25 : (nb : Int) ≤ 25 := by have := HNB.out; omega
 have hvcI : (nb : Int) + 1 ≤ (vc : Int) := by omega
 have hwl : IntKind.i64.wrap ((nb : Int) + 1 - 1) = (nb : Int) := by rw [IntKind.wrap_i64]; omega
 clear g2 hnb htl hb hc hvc CA
 go_wp2_with fail
 have hst := Rn.Ld.start w2 s.length Zf w2.heap.size
 have HAL : Hid (Below w2.heap.size w2 (w2.alloc (.cells #[.slice none 0 0, .slice none 0 0] 92))) := Lib.hid ((Below.refl _ _).alloc (Nat.le_refl _) _)
 generalize w2.alloc _ = w3 at hst HAL ⊢
 have HST := Lib.hid hst
 obtain ⟨p, hp⟩ : ∃ p, p = w2.heap.size := ⟨_, rfl⟩
 rw [← hp] at HST ⊢
 have HP := Lib.hid hp
 clear hst hp hwl
 go_loopw [36] (fun i wr => ∃ k : Nat, k ≤ nb ∧ i = .int .i64 k ∧ (∃ d z M Z, Rn.Ld p p s.length (L.take (8 * k)) Zf k wr d z M Z) ∧ Below p w2 wr) (fun i _ => nb - (intOf i).toNat)
 case atStart => exact ⟨0, Nat.zero_le _, rfl, ⟨_, _, _, _, HST.out⟩, by rw [HP.out]; exact HAL.out⟩
 case round =>
  obtain ⟨k, hk, rfl, ⟨d, z, M, Z, hL⟩, hB⟩ := hrel
  have HLD := Lib.hid hL
  have HB : Hid (Below w2.heap.size w2 wr) := Lib.hid (by rw [← HP.out]; exact hB)
  have HBW := Lib.hid (HG2.out.trans (HB.out.mono HG2.out.size))
  clear hL hB
  by_cases hl : k < nb
  ·have c0 := (HB.out.cell (p := ⟨b, o + k, none⟩) HC.out.1).trans (HC.out.2 k (by have := HTX.out.1; rw [← HNE.out] at this; omega))
   unfold Tx.sv at c0
   rw [HTX.out.2.1 k (by rw [← HNE.out]; exact hl)] at c0
   have hkl : (k : Int) < (nb : Int) := by omega
   have hk0 : (0 : Int) ≤ (k : Int) := by omega
   have hk25 : (k : Int) ≤ 25 := by omega
   have ca := CADD.out k (by rw [← HNE.out]; exact hl) p p wr d z M Z (HT.out.below HBW.out HT.out.two) (HS.out.later HBW.out) HLD.out (Nat.le_refl _)
   rw [Rn.take_next] at ca
   generalize Ty.S (Bk.enc s (Rn.bk L k)) = E at c0 ca
   have HK := Lib.hid hl
   clear hk hl
   unfold Rn.Added at ca
   go_wp2_with fail
   with_reducible refine ca.mono ?_
   rintro e w5 ⟨rfl, h5, g5⟩
   have H5 := Lib.hid h5
   have HB5 : Hid (Below p w2 w5) := Lib.hid (by
    have := HB.out
    rw [← HP.out] at this
    exact this.trans g5)
   clear ca h5 g5 c0
   go_wp2
   go_roundw
   case rel => exact ⟨k + 1, HK.out, by simp, H5.out, HB5.out⟩
   case measure => (have := HK.out; simp [intOf]; omega)
  ·obtain rfl : k = nb := by omega
   have hkl : ¬ (k : Int) < (k : Int) := by omega
   have HPP : Hid (Rn.P wr p s L) := Lib.hid (by
    have := HLD.out
    rw [HNE.out, List.take_of_length_le (by unfold Rn.nb; omega)] at this
    exact this.done HL0.out.1 (fun x hx => (HF.out x hx).2.1) (fun i j hi hj => by rw [HZF.out, Rn.zone_in ⟨hi, hj⟩]))
   obtain ⟨_, dv, zv, e0, _, hds, _⟩ := HPP.out
   have HDS := Lib.hid hds
   have c0 := (HB.out.cell (p := ⟨b, o + k, none⟩) HC.out.1).trans (HC.out.2 k (by have := HTX.out.1; rw [← HNE.out] at this; omega))
   unfold Tx.sv at c0
   have htl := HTX.out.2.2
   rw [← HNE.out] at htl
   rw [htl] at c0
   have HTA : Hid (Tx.At wr.heap.size wr (.slice (some ⟨b, o, none⟩) k vc) TB) := Lib.hid
    ⟨_, vc, by rw [HTB.out.1, HNE.out], by rw [HTB.out.1, ← HNE.out]; have := HVC.out; omega, Nat.le_refl _, .inr ⟨b, o, rfl, Nat.lt_of_lt_of_le HC.out.1 HB.out.size, fun i hi => by
     rw [HTB.out.1] at hi
     rw [(HB.out.cell (p := ⟨b, o + i, none⟩) HC.out.1).trans (HC.out.2 i (by have := HTX.out.1; omega))]
     unfold Tx.sv
     rw [HTX.out.2.1 i hi, HTB.out.2 i hi]⟩⟩
   have hTI : ∀ pr : Regrown, Calls Tryz.prog 61 #[.slice (some ⟨b, o, none⟩) k vc] (Sort.grow (redrawn wr pr.d) pr.os) _ := fun pr => by
    have g := below_regrown wr pr.d pr.os
    exact CIX.out _ _ (HT.out.below (HBW.out.trans (g.mono HBW.out.size)) HT.out.two) ((HTA.out.below g).mono g.size (Nat.le_refl _))
   obtain ⟨y, hy⟩ : ∃ y, y = Ty.S (Rn.index s L) := ⟨_, rfl⟩
   rw [← hy] at c0 hTI
   have CA1 : Hid (∀ p : Regrown, _) := Lib.hid fun p : Regrown => Calls.regrown_of (d := p.d) (os := p.os) (w := wr) (CSO.out dv _ (HDS.out.later (below_regrown wr p.d p.os)))
   have CA2 : Hid (∀ p : Regrown, _) := Lib.hid fun p : Regrown => Calls.regrown_of (d := p.d) (os := p.os) (w := wr) (hTI p)
   obtain ⟨da, dc, rfl, -⟩ := hds
   have C0 := fun d os => cell_regrown c0 d os
   have E0 := fun d os => cell_regrown e0 d os
   have hk0 : (0 : Int) ≤ (k : Int) := by omega
   have hyy : (y.toList == y.toList) = true := by rw [beq_iff_eq]
   have HBF := Lib.hid (HBW.out)
   clear hk hl hTI htl c0 e0 hy HLD
   go_upto_region 14 with (fail)
   refine wp_region_quiet_below (by kernel_rfl) (by kernel_rfl) ?_
   repeat (go_big_quiet_step (first | with_reducible exact CA1.out _ | with_reducible exact CA2.out _))
   refine wpQuiet_nil ?_
   intro w5 hw'
   have g5 := Bk.below_reg hw'
   have HP5 := Lib.hid (HPP.out.later g5)
   have HB5 := Lib.hid (HBF.out.trans (g5.mono HBF.out.size))
   clear hw' g5
   go_wp2
   go_ret2
   exact ⟨p, rfl, HP5.out, HB5.out⟩
end
section
open Go Go.RowKit
structure Rn.Gd (s : List Kn.C) (L : List Dd.D) : Prop where
 ok : Rn.wE s L = 0
 few : L.length ≤ 200
theorem Rn.Gd.so {s : List Kn.C} {L : List Dd.D} (h : Rn.Gd s L) : Bk.sorted L = true := (Rn.wE_0 h.ok).2.2.2.1
theorem Rn.Gd.rt {s : List Kn.C} {L : List Dd.D} (h : Rn.Gd s L) : Kn.right s = true := (Rn.wE_0 h.ok).1
theorem Rn.Gd.ft {s : List Kn.C} {L : List Dd.D} (h : Rn.Gd s L) : ∀ d ∈ L, Dd.fitE s d = 0 := (Rn.wE_0 h.ok).2.2.1
theorem Rn.Gd.ne {s : List Kn.C} {L : List Dd.D} (h : Rn.Gd s L) : ∀ d ∈ L, d.row ≠ [] := fun d hd => (Rn.fit_s h.rt (h.ft d hd)).2.2
theorem Rn.Gd.zs {s : List Kn.C} {L : List Dd.D} (h : Rn.Gd s L) : Bk.Zs L := fun d hd => (Rn.fit_s h.rt (h.ft d hd)).1
set_option maxHeartbeats 2000000 in
set_option maxRecDepth 100000 in
theorem Rn.seek_c {w : World} {p : Nat} {s : List Kn.C} {L : List Dd.D} (h : Rn.P w p s L) (hg : Rn.Gd s L) (k : Kn.V) :
 Calls Tryz.prog 43 #[.pointer (some ⟨p, 0, none⟩), k.val] w fun e w' => e = .returned (.tuple #[.int .i64 (Rn.at_ L k : Nat), .bool (Rn.th L k)]) ∧ Below w.heap.size w w' := by
 have HP := Lib.hid h
 obtain ⟨hpl, d, z, c0, _, hd, -⟩ := h
 have hk := Kn.At.new w k 33
 have HB0 : Hid (Below w.heap.size w (w.alloc (.cells #[.bool k.null, .int .i64 k.n, .string k.s] 33))) := Lib.hid ((Below.refl _ _).alloc (Nat.le_refl _) _)
 have c1 := (HB0.out.cell (p := ⟨p, 0, none⟩) hpl).trans c0
 have HD := Lib.hid (hd.later HB0.out)
 have CS := Lib.hid fun (wz : World) (hv : Bk.Ds wz d L) => Rn.search_c d L k wz hv hg.so hg.ne (by have := hg.few; omega)
 obtain ⟨a, c, rfl, -⟩ := hd
 have y0 := hk.c0
 have y1 := hk.c1
 have y2 := hk.c2
 simp only [Nat.zero_add] at y1 y2
 generalize Rn.at_ L k = x at CS ⊢
 generalize Rn.th L k = t at CS ⊢
 unfold Kn.V.val at CS ⊢
 clear hpl c0 hk hg
 go_enter Tryz.func43, Tryz.ntmps43
 go_upto_region 3 with (fail)
 generalize w.alloc _ = w1 at c1 y0 y1 y2 HB0 HD ⊢
 have CA : Hid (∀ p : Regrown, _) := Lib.hid fun p : Regrown => Calls.regrown_of (d := p.d) (os := p.os) (w := w1) (CS.out _ (HD.out.later (below_regrown w1 p.d p.os)))
 have C1 := fun d os => cell_regrown c1 d os
 have Y0 := fun d os => cell_regrown y0 d os
 have Y1 := fun d os => cell_regrown y1 d os
 have Y2 := fun d os => cell_regrown y2 d os
 clear c1 y0 y1 y2
 refine wp_region_quiet_below (by kernel_rfl) (by kernel_rfl) ?_
 repeat (go_big_quiet_step (first | with_reducible exact CA.out _))
 refine wpQuiet_nil ?_
 intro w5 hw'
 have HB5 := Lib.hid (HB0.out.trans ((Bk.below_reg hw').mono HB0.out.size))
 clear hw'
 go_wp2
 go_ret2
 exact ⟨rfl, HB5.out⟩
theorem Rn.rw_vals {base : Nat} {w : World} {v : Value} {l : List Kn.V} (h : Sk.Rw base w v l) : Kn.Vals w v l := by
 rcases h.form with ⟨rfl, rfl⟩ | ⟨g, c, rfl, hc, hm, _, hg⟩
 ·exact ⟨none, 0, rfl, .inl rfl⟩
 ·refine ⟨_, c, rfl, .inr ⟨g, 0, rfl, hg, by unfold maxLen at hm; omega, fun i x hx => ?_⟩⟩
  rw [Nat.zero_add]
  exact ⟨h.cell Sk.ve_len (g := g) rfl hx (j := 0) (by decide), h.cell Sk.ve_len (g := g) rfl hx (j := 1) (by decide), h.cell Sk.ve_len (g := g) rfl hx (j := 2) (by decide)⟩
def Rn.GotD (w : World) (L : List Dd.D) (k : Kn.V) (e : Ending) (w' : World) : Prop :=
 ((Rn.th L k = false ∧ e = .returned (.tuple #[.agg #[.bool false, .slice none 0 0], .bool false])) ∨ ∃ d a n c, Rn.th L k = true ∧ L[Rn.at_ L k]? = some d ∧ e = .returned (.tuple #[.agg #[.bool d.gone, .slice a n c], .bool true]) ∧ Kn.Vals w' (.slice a n c) d.row) ∧ Below w.heap.size w w'
theorem Rn.vals_in {w : World} {v : Value} {l : List Kn.V} (h : Kn.Vals w v l) (hl : l ≠ []) (hz : ∀ x ∈ l, Kn.Z x) (h6 : l.length ≤ 4398046511104) : Sk.In w v l := by
 obtain ⟨a, c, rfl, h⟩ := h
 rcases h with h | ⟨b, o, rfl, hb, _, h⟩
 ·exact absurd h hl
 ·exact ⟨_, c, rfl, hz, h6, .inr ⟨b, o, rfl, hb, h⟩⟩
set_option maxHeartbeats 4000000 in
set_option maxRecDepth 100000 in
theorem Rn.get_c {w : World} {p : Nat} {s : List Kn.C} {L : List Dd.D} (h : Rn.P w p s L) (hg : Rn.Gd s L) (k : Kn.V) :
 Calls Tryz.prog 17 #[.pointer (some ⟨p, 0, none⟩), k.val] w (Rn.GotD w L k) := by
 have HP := Lib.hid h
 have HG := Lib.hid hg
 have CS := Lib.hid fun (wz : World) (g : Below w.heap.size w wz) => Rn.seek_c (h.later g) hg k
 obtain ⟨w1, hw1⟩ : ∃ w1, w1 = (w.alloc (.cells #[.bool k.null, .int .i64 k.n, .string k.s] 33)).alloc (.cells #[.bool false, .slice none 0 0] 41) := ⟨_, rfl⟩
 have HB1 : Hid (Below w.heap.size w w1 ∧ w1.heap.size = w.heap.size + 2) := Lib.hid (by rw [hw1]; exact ⟨Kn.box2 _ _ _, by simp⟩)
 have hk : Kn.At w1 w.heap.size 0 k := by rw [hw1]; exact (Kn.At.new w k 33).alloc _
 have hr : w1.heap[w.heap.size + 1]? = some (.cells #[.bool false, .slice none 0 0] 41 (0, 0)) := by
  rw [hw1]
  have := heap_alloc_new (w.alloc (.cells #[.bool k.null, .int .i64 k.n, .string k.s] 33)) (.cells #[.bool false, .slice none 0 0] 41)
  rwa [World.size_alloc] at this
 have HR := Lib.hid hr
 have y0 := hk.c0
 have y1 := hk.c1
 have y2 := hk.c2
 simp only [Nat.zero_add] at y1 y2
 have cs := CS.out w1 HB1.out.1
 obtain ⟨q, hq⟩ : ∃ q, q = w.heap.size := ⟨_, rfl⟩
 have HQ := Lib.hid hq
 rw [← hq] at y0 y1 y2 HR
 have HTS := Lib.hid fun h => Rn.th_some (L := L) (k := k) h
 have HPF : Hid (∀ W, Below w.heap.size w W → Rn.th L k = false → Rn.GotD w L k (.returned (.tuple #[.agg #[.bool false, .slice none 0 0], .bool false])) W) := Lib.hid fun W g h => ⟨.inl ⟨h, rfl⟩, g⟩
 have HPT : Hid (∀ W d a n c, Below w.heap.size w W → Rn.th L k = true → L[Rn.at_ L k]? = some d → Kn.Vals W (.slice a n c) d.row → Rn.GotD w L k (.returned (.tuple #[.agg #[.bool d.gone, .slice a n c], .bool true])) W) := Lib.hid fun W d a n c g h1 h2 h3 => ⟨.inr ⟨d, a, n, c, h1, h2, rfl, h3⟩, g⟩
 generalize Rn.GotD w L k = post at HPF HPT ⊢
 generalize Rn.at_ L k = x at cs HTS HPT
 unfold Kn.V.val at cs ⊢
 cases ht : Rn.th L k
 ·rw [ht] at cs
  have HT := Lib.hid ht
  clear h hg hk hr ht
  go_enter Tryz.func17, Tryz.ntmps17
  go_upto_region 1 with (fail)
  rw [← hw1, ← hq]
  clear hw1 hq
  go_wp2_with fail
  with_reducible refine cs.mono ?_
  rintro e w2 ⟨rfl, g2⟩
  have hr2 := (g2.block (q + 1) (Array.getElem?_eq_some_iff.1 HR.out).1).trans HR.out
  have r0 : w2.cell? ⟨q + 1, 0, none⟩ = some (.bool false) := by rw [cell_of_row _ _ _ _ _ _ hr2]; rfl
  have r1 : w2.cell? ⟨q + 1, 1, none⟩ = some (.slice none 0 0) := by rw [cell_of_row _ _ _ _ _ _ hr2]; rfl
  have f0 := frozen_of_row _ _ 0 _ _ hr2
  have f1 := frozen_of_row _ _ 1 _ _ hr2
  have HE : Hid (Below w.heap.size w ((w2.setCell ⟨q + 1, 0, none⟩ (.bool false)).setCell ⟨q + 1, 1, none⟩ (.slice none 0 0))) := Lib.hid (Sk.put2 (HB1.out.1.trans (g2.mono HB1.out.1.size)) (by rw [HQ.out]; omega) _ _)
  clear cs hr2 g2 y0 y1 y2
  go_wp2
  (try simp only [Exit.inBlock, Exit.then])
  refine bodyPost_ret (v := .tuple #[.agg #[.bool false, .slice none 0 0], .bool false]) ?_ rfl (HPF.out _ HE.out HT.out)
  rw [results_cell_tmp rfl]
  go_simp
 ·rw [ht] at cs
  obtain ⟨d, hd, -⟩ := HTS.out ht
  have HT := Lib.hid ht
  have HX := Lib.hid hd
  obtain ⟨hpl, dv, z, c0, _, hds, -⟩ := id h
  obtain ⟨a, c, rfl, _, _, hds⟩ := hds
  rcases hds with h0 | ⟨b, o, rfl, hb, hc⟩
  ·rw [h0] at hd; simp at hd
  obtain ⟨u, e0, e1, hu⟩ := hc x d hd
  have hne := hg.ne d (List.mem_of_getElem? hd)
  have hin := Rn.vals_in hu hne (hg.zs d (List.mem_of_getElem? hd)) (by have := (Rn.fit_s hg.rt (hg.ft d (List.mem_of_getElem? hd))).2.1; omega)
  obtain ⟨ua, uc, rfl, -⟩ := hu
  have HIN := Lib.hid hin
  have hxl : x < L.length := (List.getElem?_eq_some_iff.1 hd).1
  have hxI : (x : Int) < (L.length : Int) := by omega
  have hx0 : (0 : Int) ≤ (x : Int) := by omega
  have HCS : Hid (∀ W, Below w.heap.size w W → W.cell? ⟨p, 0, none⟩ = some (.slice (some ⟨b, o, none⟩) L.length c) ∧ W.cell? ⟨b, o + x * 2, none⟩ = some (.bool d.gone) ∧ W.cell? ⟨b, o + x * 2 + 1, none⟩ = some (.slice ua d.row.length uc)) := Lib.hid fun W g =>
   ⟨(g.cell (p := ⟨p, 0, none⟩) hpl).trans c0, (g.cell (p := ⟨b, o + x * 2, none⟩) hb).trans e0, (g.cell (p := ⟨b, o + x * 2 + 1, none⟩) hb).trans e1⟩
  clear h hg hk hr ht hc hd hne hin hxl hpl c0 e0 e1 hb
  go_enter Tryz.func17, Tryz.ntmps17
  go_upto_region 1 with (fail)
  rw [← hw1, ← hq]
  clear hw1 hq
  go_wp2_with fail
  with_reducible refine cs.mono ?_
  rintro e w2 ⟨rfl, g2⟩
  have HB2 := Lib.hid (HB1.out.1.trans (g2.mono HB1.out.1.size))
  have HR2 := Lib.hid ((g2.block (q + 1) (Array.getElem?_eq_some_iff.1 HR.out).1).trans HR.out)
  obtain ⟨c0, e0, e1⟩ := HCS.out w2 HB2.out
  have cg := Rn.given_c d.gone (HIN.out.later HB2.out)
  have HPD := Lib.hid fun W a n c h1 h2 => HPT.out W d a n c h1 HT.out HX.out h2
  generalize d.gone = dg at e0 cg HPD
  generalize d.row.length = dn at e1 cg
  clear cs g2 y0 y1 y2
  go_wp2_with fail
  with_reducible refine cg.mono ?_
  rintro e w3 ⟨u, rfl, hu, g3⟩
  obtain ⟨va, vn, vc, rfl⟩ : ∃ a n c, u = .slice a n c := by
   rcases hu.form with ⟨e, _⟩ | ⟨g, c, e, _⟩
   ·exact ⟨none, 0, 0, e⟩
   ·exact ⟨_, _, c, e⟩
  have hr3 := (g3.block (q + 1) (Array.getElem?_eq_some_iff.1 HR2.out).1).trans HR2.out
  have r0 : w3.cell? ⟨q + 1, 0, none⟩ = some (.bool false) := by rw [cell_of_row _ _ _ _ _ _ hr3]; rfl
  have r1 : w3.cell? ⟨q + 1, 1, none⟩ = some (.slice none 0 0) := by rw [cell_of_row _ _ _ _ _ _ hr3]; rfl
  have f0 := frozen_of_row _ _ 0 _ _ hr3
  have f1 := frozen_of_row _ _ 1 _ _ hr3
  have HE : Hid (Below w.heap.size w ((w3.setCell ⟨q + 1, 0, none⟩ (.bool dg)).setCell ⟨q + 1, 1, none⟩ (.slice va vn vc)) ∧ Kn.Vals ((w3.setCell ⟨q + 1, 0, none⟩ (.bool dg)).setCell ⟨q + 1, 1, none⟩ (.slice va vn vc)) (.slice va vn vc) d.row) := Lib.hid
   ⟨Sk.put2 (HB2.out.trans (g3.mono HB2.out.size)) (by rw [HQ.out]; omega) _ _, by
    have hqw := (Array.getElem?_eq_some_iff.1 HR2.out).1
    exact Rn.rw_vals ((hu.put (i := 0) (u := .bool dg) hqw).put (i := 1) (u := .slice va vn vc) hqw)⟩
  clear cg hr3 g3 hu c0 e0 e1
  go_wp2
  (try simp only [Exit.inBlock, Exit.then])
  refine bodyPost_ret (v := .tuple #[.agg #[.bool dg, .slice va vn vc], .bool true]) ?_ rfl (HPD.out _ _ _ _ HE.out.1 HE.out.2)
  rw [results_cell_tmp rfl]
  go_simp
end
section
open Go Go.RowKit Go.Shelf
attribute [local go_sem] Oper.semAt_some
def Rn.EnB (wo : World) (L : List Dd.D) (i : Nat) (args : Array Value) (_ : World) : Prop := ∃ x, args = #[Bk.sv x] ∧ Bk.Ds wo (Bk.sv x) (Rn.bk L i)
def Rn.lk (s : List Kn.C) (L : List Dd.D) (r : Kn.R) (a : Zn.As) (k : Nat) : List Nat := (List.range k).filter (Rn.look s L r a)
theorem Rn.lk_next (s : List Kn.C) (L : List Dd.D) (r : Kn.R) (a : Zn.As) (k : Nat) : Rn.lk s L r a (k + 1) = Rn.lk s L r a k ++ if Rn.look s L r a k = true then [k] else [] := by
 unfold Rn.lk
 rw [List.range_succ, List.filter_append]
 congr 1
 rw [List.filter_cons]
 rfl
theorem Rn.lk_pre {s : List Kn.C} {L : List Dd.D} {r : Kn.R} {a : Zn.As} {i j : Nat} (h : i ≤ j) : Rn.lk s L r a i <+: Rn.lk s L r a j := by
 induction j with
 | zero => obtain rfl : i = 0 := by omega
           exact List.prefix_refl _
 | succ j ih =>
   rcases Nat.lt_or_ge i (j + 1) with h1 | h1
   ·rw [Rn.lk_next]
    exact (ih (by omega)).trans (List.prefix_append _ _)
   ·obtain rfl : i = j + 1 := by omega
    exact List.prefix_refl _
set_option maxHeartbeats 8000000 in
set_option maxRecDepth 100000 in
theorem Rn.examined1_seq {wo w : World} {D : Nat → Prop} {p m : Nat} {s : List Kn.C} {L : List Dd.D} (r : Kn.R) (a : Zn.As) (hP : Rn.P wo p s L) (hg : Rn.Gd s L) (hw : Below wo.heap.size wo w) (hD : ∀ b, b < wo.heap.size → D b) (h0 : D m) (h1 : D (m + 1)) (h2 : D (m + 2))
 (c0 : w.cell? ⟨m, 0, none⟩ = some (.pointer (some ⟨p, 0, none⟩))) (cR : Kn.RAt w (m + 1) r) (cA : Zn.ABlk w (m + 2) a) :
 Rn.Seq Tryz.prog 82 #[.pointer (some ⟨m, 0, none⟩), .pointer (some ⟨m + 1, 0, none⟩), .pointer (some ⟨m + 2, 0, none⟩)] (Rn.EnB wo L) D (Rn.lk s L r a (Rn.nb L.length)) w := by
 intro l J Jx W hW hJ hJx hY hj0
 have HWW : Hid (Below wo.heap.size wo W) := Lib.hid (hw.trans (hW.mono hw.size))
 have d0 := (hW.cell (p := ⟨m, 0, none⟩) (World.block_lt_of_cell? w _ c0)).trans c0
 have dR := cR.later hW
 have dA := cA.kept hW
 have HP : Hid (∀ W', Rn.Kd D W W' → Rn.P W' p s L) := Lib.hid fun W' g => hP.later (HWW.out.trans (g.low hD HWW.out.size))
 have HLW : Hid (∀ W', Rn.Kd D W W' → Below wo.heap.size wo W') := Lib.hid fun W' g => HWW.out.trans (g.low hD HWW.out.size)
 have HCS : Hid (∀ W', Rn.Kd D W W' → W'.cell? ⟨m, 0, none⟩ = some (.pointer (some ⟨p, 0, none⟩)) ∧ Kn.RAt W' (m + 1) r ∧ Zn.ABlk W' (m + 2) a) := Lib.hid fun W' g => by
  have e0 : W'.heap[m]? = W.heap[m]? := g.same m h0 (World.block_lt_of_cell? W _ d0)
  have e1 : W'.heap[m + 1]? = W.heap[m + 1]? := g.same (m + 1) h1 dR.lo.lt
  have e2 : W'.heap[m + 2]? = W.heap[m + 2]? := g.same (m + 2) h2 dA.lt
  refine ⟨(World.cell?_of_block e0).trans d0, ⟨(World.cell?_of_block e1).trans dR.c0, (World.cell?_of_block e1).trans dR.c1, ⟨(World.cell?_of_block e1).trans dR.lo.c0, (World.cell?_of_block e1).trans dR.lo.c1, (World.cell?_of_block e1).trans dR.lo.c2⟩, ⟨(World.cell?_of_block e1).trans dR.hi.c0, (World.cell?_of_block e1).trans dR.hi.c1, (World.cell?_of_block e1).trans dR.hi.c2⟩⟩,
   ⟨(World.cell?_of_block e2).trans dA.c0, (World.cell?_of_block e2).trans dA.c1, (World.cell?_of_block e2).trans dA.c2, (World.cell?_of_block e2).trans dA.c3, (World.cell?_of_block e2).trans dA.c4⟩⟩
 have CB := Lib.hid (Rn.blocks_c (hP.later HWW.out))
 have CE := Lib.hid fun (W' : World) (h : Rn.P W' p s L) (i : Nat) => Rn.examines_c h i r a
 have CP := Lib.hid fun (W' : World) (h : Below wo.heap.size wo W') (i : Nat) (hi : i < Rn.nb L.length) => Rn.part_c hP h hi (by have := hg.few; omega)
 have HY := Lib.hid hY
 have HJ0 := Lib.hid hj0
 have HJA := Lib.hid hJ
 have HN := Lib.hid (Rn.lk_next s L r a)
 have HPR := Lib.hid fun (i : Nat) (h : i ≤ Rn.nb L.length) => Rn.lk_pre (s := s) (L := L) (r := r) (a := a) h
 have HL0 : Hid (Rn.lk s L r a 0 = []) := Lib.hid rfl
 have HN25 : Hid (Rn.nb L.length ≤ 25) := Lib.hid (by have := hg.few; unfold Rn.nb; omega)
 generalize Rn.lk s L r a = lk at HN HPR HL0 HY ⊢
 generalize Rn.look s L r a = lo at CE HN
 generalize Rn.nb L.length = nb at CB CP HPR HN25 HY ⊢
 clear hP hg hw hD h0 h1 h2 c0 cR cA hW hJ hJx hY hj0 dR dA
 refine callsIn_of_wp Tryz.func82 rfl trivial ?_ rfl
 simp only [Tryz.ntmps82, List.size_toArray, List.length_cons, List.length_nil, Nat.reduceAdd, Nat.reduceSub, Array.replicate_succ, Array.replicate_zero, List.push_toArray, List.append_toArray, List.nil_append, List.cons_append]
 gi_wp2_with (refine ⟨trivial, ?_⟩; gi_at_call 26; refine (callsIn_wide.2 CB.out).mono ?_; rintro e w1 ⟨rfl, hw1⟩; subst hw1)
 clear d0
 gi_loopw [8] (fun i wr => ∃ k : Nat, k ≤ nb ∧ i = .int .i64 k ∧ J (lk k) wr ∧ Rn.Kd D w1 wr) (fun i _ => nb - (intOf i).toNat)
 case atStart => exact ⟨0, Nat.zero_le _, rfl, by rw [HL0.out]; exact HJ0.out, Rn.Kd.below (Below.refl _ _)⟩
 case round =>
  obtain ⟨k, hk, rfl, hj, hkd⟩ := hrel
  have HJ := Lib.hid hj
  have HKD := Lib.hid hkd
  clear hj hkd
  by_cases hl : k < nb
  ·have hkl : (k : Int) < (nb : Int) := by omega
   have hk0 : (0 : Int) ≤ (k : Int) := by omega
   have hk25 : (k : Int) ≤ 25 := by have := HN25.out; omega
   have HK := Lib.hid hl
   obtain ⟨e0, ⟨x0, x1, ⟨x2, x3, x4⟩, ⟨x5, x6, x7⟩⟩, ⟨y0, y1, y2, y3, y4⟩⟩ := HCS.out wr HKD.out
   simp only [Nat.reduceAdd] at x3 x4 x6 x7
   have ce := CE.out wr (HP.out wr HKD.out) k
   have HNK := Lib.hid (HN.out k)
   obtain ⟨rf, rt, ⟨r1, r2, r3⟩, ⟨r4, r5, r6⟩⟩ := r
   obtain ⟨op, col, ⟨an, ai, sa9⟩⟩ := a
   simp only at x0 x1 x2 x3 x4 x5 x6 x7 y0 y1 y2 y3 y4
   unfold Kn.R.val Zn.As.val at ce
   simp only at ce
   clear hl hk
   cases hlo : lo k
   ·rw [hlo] at ce
    have HL : Hid (lk (k + 1) = lk k) := Lib.hid (by rw [HNK.out, hlo, if_neg (by decide), List.append_nil])
    have CE2 := Lib.hid ce
    clear hlo ce
    gi_wp2_with (refine ⟨trivial, ?_⟩; gi_at_call 83; refine (callsIn_wide.2 CE2.out).mono ?_; rintro e w5 ⟨rfl, g5⟩; have HJ5 := Lib.hid (Rn.own_below HJA.out HJ.out g5); have HK5 := Lib.hid (HKD.out.trans (Rn.Kd.below g5)); clear g5 e0 x0 x1 x2 x3 x4 x5 x6 x7 y0 y1 y2 y3 y4)
    refine ⟨trivial, ?_⟩
    gi_wp2
    refine ⟨fun _ h => (by cases h), ?_⟩
    gi_wp2
    go_roundw
    case rel => exact ⟨k + 1, HK.out, by simp, by rw [HL.out]; exact HJ5.out, HK5.out⟩
    case measure => have := HK.out; simp [intOf]; omega
   ·rw [hlo] at ce
    have HL : Hid (lk (k + 1) = lk k ++ [k]) := Lib.hid (by rw [HNK.out, hlo, if_pos rfl])
    have CE2 := Lib.hid ce
    have HPX : Hid (lk k ++ [k] <+: lk nb) := Lib.hid (by rw [← HL.out]; exact HPR.out (k + 1) HK.out)
    clear hlo ce
    gi_wp2_with (first
     | (refine ⟨trivial, ?_⟩; gi_at_call 83; refine (callsIn_wide.2 CE2.out).mono ?_; rintro e w5 ⟨rfl, g5⟩; have HJ5 := Lib.hid (Rn.own_below HJA.out HJ.out g5); have HK5 := Lib.hid (HKD.out.trans (Rn.Kd.below g5)); clear g5 e0 x0 x1 x2 x3 x4 x5 x6 x7 y0 y1 y2 y3 y4; obtain ⟨e0, -⟩ := HCS.out w5 HK5.out; have CP2 := Lib.hid (CP.out w5 (HLW.out w5 HK5.out) k HK.out))
     | (refine ⟨trivial, ?_⟩; gi_at_call 84; refine (callsIn_wide.2 CP2.out).mono ?_; rintro e w6 ⟨x, rfl, hx, g6⟩; have HJ6 := Lib.hid (Rn.own_below HJA.out HJ5.out g6); have HK6 := Lib.hid (HK5.out.trans (Rn.Kd.below g6)); obtain ⟨fn, tmps, assign, body, hy, hR⟩ := HY.out (lk k) k _ w6 HJ6.out ⟨x, rfl, hx⟩ HK6.out HPX.out; obtain ⟨x1, x2, x3⟩ := x; simp only [Bk.sv] at hy ⊢; clear hx g6 e0))
    refine hR.mono ?_
    rintro x W3 (⟨rfl, j3, k3⟩ | ⟨rfl, j3⟩)
    ·have HJ3 := Lib.hid j3
     have HK3 := Lib.hid (HK6.out.trans k3)
     clear j3 k3 hy hR
     gi_wp2
     go_roundw
     case rel => exact ⟨k + 1, HK.out, by simp, by rw [HL.out]; exact HJ3.out, HK3.out⟩
     case measure => have := HK.out; simp [intOf]; omega
    ·have HJ3 := Lib.hid j3
     clear j3 hy hR
     gi_wp2
     refine bodyPost_ret (results_none rfl _ _ _) rfl ?_
     exact ⟨⟨_, rfl⟩, .inr ⟨lk k ++ [k], HPX.out, by simp, HJ3.out⟩⟩
  ·obtain rfl : k = nb := by omega
   have hkl : ¬ (k : Int) < (k : Int) := by omega
   clear hl hk
   gi_wp2
   go_end0
   exact ⟨⟨_, rfl⟩, .inl HJ.out⟩
end
section
open Go Go.RowKit Go.Shelf
attribute [local go_sem] Oper.semAt_some
theorem Rn.ds_cut {w : World} {b o c : Nat} {L : List Dd.D} (h : Bk.Ds w (.slice (some ⟨b, o, none⟩) L.length c) L) {i j : Nat} (hij : i < j) (hj : j ≤ L.length) : Bk.Ds w (.slice (some ⟨b, o + i * 2, none⟩) (j - i) (c - i)) ((L.take j).drop i) := by
 obtain ⟨a', c', e, h1, h2, h⟩ := h
 simp only [Value.slice.injEq] at e
 obtain ⟨rfl, _, rfl⟩ := e
 have hl : ((L.take j).drop i).length = j - i := by rw [List.length_drop, List.length_take]; omega
 rcases h with h | ⟨b', o', e, hb, h⟩
 ·rw [h] at hj; simp at hj; omega
 ·cases e
  refine ⟨_, c - i, by rw [hl], by omega, by omega, .inr ⟨b, o + i * 2, rfl, hb, fun k x hx => ?_⟩⟩
  rw [List.getElem?_drop, List.getElem?_take] at hx
  split at hx
  ·obtain ⟨u, c0, c1, hu⟩ := h (i + k) x hx
   exact ⟨u, by rw [← c0]; congr 2; omega, by rw [← c1]; congr 2; omega, hu⟩
  ·cases hx
def Rn.WithinD (wo w : World) (L : List Dd.D) (r : Kn.R) (e : Ending) (w' : World) : Prop := ∃ a n c, e = .returned (.slice a n c) ∧ Bk.Ds wo (.slice a n c) (Rn.in_ L r) ∧ Below w.heap.size w w'
theorem Rn.ds_nil (w : World) : Bk.Ds w (.slice none 0 0) [] := ⟨none, 0, rfl, Nat.le_refl _, by decide, .inl rfl⟩
def Rn.RangeD (wo w : World) (L : List Dd.D) (r : Kn.R) (e : Ending) (w' : World) : Prop := ∃ m a n c, e = .returned (.func (.func 49) #[] #[.pointer (some ⟨m, 0, none⟩)]) ∧ w.heap.size ≤ m ∧ w'.heap[m]? = some (.cells #[.slice a n c] 23 (0, 0)) ∧ Bk.Ds wo (.slice a n c) (Rn.in_ L r) ∧ Below w.heap.size w w'
def Rn.EnD (n₀ : Nat) (d : Dd.D) (args : Array Value) (W : World) : Prop := ∃ u, args = #[.agg #[.bool d.gone, u]] ∧ Sk.Rw n₀ W u d.row
end
section
open Go Go.RowKit Go.Shelf
def Rn.Dq (q m n : Nat) (b : Nat) : Prop := b < q ∨ b = m ∨ b = n
structure Rn.Ga (q m n : Nat) (w3 : World) (bb B n0 : Nat) (l : List Dd.D) (W : World) : Prop where
 kd : Rn.Kd (Rn.Dq q m n) w3 W
 acc : ∃ v M, W.heap[bb]? = some (.cells #[v] 23 (0, 0)) ∧ Dk.Own 41 2 Rn.e2 B W v M ∧ M.length = l.length ∧ ∀ (i : Nat) (x : Dd.D), l[i]? = some x → ∃ y : Bool × (Option Addr × Nat × Nat), M[i]? = some y ∧ y.1 = x.gone ∧ Sk.Rw n0 W (Bk.sv y.2) x.row
theorem Rn.Ga.own {q m n bb B n0 C : Nat} {w3 : World} (l0 : List Dd.D) (hC : q ≤ C) (hm : m < C) (hn : n < C) : OwnFrom C (fun pre W => Rn.Ga q m n w3 bb B n0 (l0 ++ pre) W) := by
 rintro pre A' B' row ⟨h1, v, M, h2, h3, h4, h5⟩ hg hr
 refine ⟨h1.grew (B := C) (fun b hb => ?_) hg hr, v, M, Rn.blk_own h2 hg hr, Rn.own_own C _ _ _ () _ _ row h3 hg hr, h4, fun i x hx => ?_⟩
 ·rcases hb with hb | hb | hb <;> omega
 ·obtain ⟨y, e1, e2, e3⟩ := h5 i x hx
  exact ⟨y, e1, e2, Rn.own_own C _ _ _ () _ _ row e3 hg hr⟩
theorem Rn.Ga.step {q m n bb B n0 C : Nat} {w3 W w6 : World} {l : List Dd.D} {v v6 : Value} {M : List (Bool × (Option Addr × Nat × Nat))} {x : Dd.D} {y : Option Addr × Nat × Nat} (hq : q ≤ B) (hbb : q ≤ bb) (hbm : bb ≠ m) (hbn : bb ≠ n) (hm : ∀ cs, W.heap[m]? ≠ some (.cells cs 41 (0, 0))) (hn : ∀ cs, W.heap[n]? ≠ some (.cells cs 41 (0, 0)))
 (h1 : Rn.Kd (Rn.Dq q m n) w3 W) (h2 : W.heap[bb]? = some (.cells #[v] 23 (0, 0))) (h3 : Dk.Own 41 2 Rn.e2 B W v M) (h4 : M.length = l.length)
 (h5 : ∀ (i : Nat) (x : Dd.D), l[i]? = some x → ∃ y : Bool × (Option Addr × Nat × Nat), M[i]? = some y ∧ y.1 = x.gone ∧ Sk.Rw n0 W (Bk.sv y.2) x.row)
 (ho : Dk.Own 41 2 Rn.e2 B w6 v6 (M ++ [(x.gone, y)])) (hg : Ty.Grew W w6 v v6) (hx : Sk.Rw n0 W (Bk.sv y) x.row) :
 KeepsFrom C W (w6.setCell ⟨bb, 0, none⟩ v6) ∧ Rn.Kd (Rn.Dq q m n) W (w6.setCell ⟨bb, 0, none⟩ v6) ∧ Rn.Ga q m n w3 bb B n0 (l ++ [x]) (w6.setCell ⟨bb, 0, none⟩ v6) := by
 have off : ∀ (b : Nat) (cs : Array Value) (T : TypeId), W.heap[b]? = some (.cells cs T (0, 0)) → T ≠ 41 → w6.heap[b]? = W.heap[b]? := fun b cs T hb hT =>
  hg.by_.block b (Array.getElem?_eq_some_iff.1 hb).1 fun e => by
   obtain ⟨cs', hc⟩ := h3.typed b (by first | exact e | exact e.symm)
   rw [hb] at hc
   simp only [Option.some.injEq, Obj.cells.injEq] at hc
   exact hT hc.2.1
 have keep : ∀ (b : Nat) (cs : Array Value) (T : TypeId), W.heap[b]? = some (.cells cs T (0, 0)) → T ≠ 41 → b ≠ bb → (w6.setCell ⟨bb, 0, none⟩ v6).heap[b]? = W.heap[b]? := fun b cs T hb hT hn =>
  (heap_setCell_other w6 ⟨bb, 0, none⟩ b v6 hn).trans (off b cs T hb hT)
 have rows : ∀ (u : Value) (r : List Kn.V), Sk.Rw n0 W u r → Sk.Rw n0 (w6.setCell ⟨bb, 0, none⟩ v6) u r := fun u r h => h.same fun b hb => by
  obtain ⟨cs, hc⟩ := h.typed b hb
  refine keep b cs _ hc (by decide) fun e => ?_
  rw [e, h2] at hc
  simp only [Option.some.injEq, Obj.cells.injEq] at hc
  exact absurd hc.2.1 (by decide)
 have hb6 := (off bb _ _ h2 (by decide)).trans h2
 have hk : Rn.Kd (Rn.Dq q m n) W (w6.setCell ⟨bb, 0, none⟩ v6) := (Rn.Kd.grown hg.by_ fun r hr hd => by
  have hB := h3.base_le r (by first | exact hr | exact hr.symm)
  obtain ⟨cs, hc⟩ := h3.typed r (by first | exact hr | exact hr.symm)
  rcases hd with hd | rfl | rfl
  ·omega
  ·exact hm cs hc
  ·exact hn cs hc).trans (Rn.Kd.set _ (fun hd => by
  rcases hd with hd | hd | hd
  ·exact absurd (show bb < q from hd) (by omega)
  ·exact hbm hd
  ·exact hbn hd) _)
 refine ⟨(Rn.kf_grew h3 hg).trans ((KeepsOthers.setCell _ _ _).from _), hk, h1.trans hk, v6, M ++ [(x.gone, y)], heap_setCell_same w6 bb 0 _ _ _ hb6, ?_, by rw [List.length_append, List.length_append, h4]; rfl, fun i z hz => ?_⟩
 ·refine ho.same fun b hb => heap_setCell_other w6 ⟨bb, 0, none⟩ b v6 fun e => ?_
  obtain ⟨cs, hc⟩ := ho.typed b hb
  have e9 : b = bb := e
  rw [e9, hb6] at hc
  simp only [Option.some.injEq, Obj.cells.injEq] at hc
  exact absurd hc.2.1 (by decide)
 ·rw [List.getElem?_append] at hz
  rw [List.getElem?_append, h4]
  split at hz
  ·rename_i hlt
   rw [if_pos hlt]
   obtain ⟨u, e1, e2, e3⟩ := h5 i z hz
   exact ⟨u, e1, e2, rows _ _ e3⟩
  ·rename_i hlt
   rw [if_neg hlt]
   rw [List.getElem?_singleton] at hz ⊢
   split at hz
   ·rename_i h0
    rw [if_pos h0]
    obtain rfl := Option.some.inj hz
    exact ⟨_, rfl, rfl, rows _ _ hx⟩
   ·cases hz
theorem Rn.Ga.ds {B n0 : Nat} {W : World} {l : List Dd.D} {v : Value} {M : List (Bool × (Option Addr × Nat × Nat))} (h3 : Dk.Own 41 2 Rn.e2 B W v M) (h4 : M.length = l.length)
 (h5 : ∀ (i : Nat) (x : Dd.D), l[i]? = some x → ∃ y : Bool × (Option Addr × Nat × Nat), M[i]? = some y ∧ y.1 = x.gone ∧ Sk.Rw n0 W (Bk.sv y.2) x.row) : Bk.Ds W v l := by
 rcases h3.form with ⟨rfl, e⟩ | ⟨g, c, rfl, hc, hm, _, hgw⟩
 ·rw [e] at h4
  have : l = [] := List.eq_nil_of_length_eq_zero h4.symm
  subst this
  exact Rn.ds_nil W
 ·refine ⟨_, c, by rw [h4], by rw [← h4]; exact hc, by unfold maxLen at hm; omega, .inr ⟨g, 0, rfl, hgw, fun i x hx => ?_⟩⟩
  obtain ⟨y, e1, e2, e3⟩ := h5 i x hx
  have c0 := h3.cell Rn.e2_len rfl e1 (j := 0) (by decide)
  have c1 := h3.cell Rn.e2_len rfl e1 (j := 1) (by decide)
  rw [Nat.zero_add]
  refine ⟨Bk.sv y.2, ?_, c1, Rn.rw_vals e3⟩
  rw [← e2]
  exact c0
end
end Go.Proofs.YtbelkhkllneifaaGreatDoor
