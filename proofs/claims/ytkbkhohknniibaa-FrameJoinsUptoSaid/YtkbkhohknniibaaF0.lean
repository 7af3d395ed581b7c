/-
  Package frame, the developers' code: the checksum, a frame, the frames of a text.
-/
import Derived.Test.YtkbkhohknniibaaF6
import Derived.Test.YtkbkhohknniibaaG3
import Derived.Test.YtkbkhohknniibaaUC
namespace Go.Proofs.Ytkbkhohknniibaa
open Go.RowKit
/-- What the code's contracts ask of the world: nothing. -/
def Fr.W (w : World) : Prop := w = w
theorem Fr.W.below {w w' : World} (_ : Fr.W w) (_ : Below w.heap.size w w') : Fr.W w' := rfl
set_option maxHeartbeats 1000000 in
set_option maxRecDepth 100000 in
theorem Fr.sum_c (s : ByteArray) (hs : s.size ≤ 140737488355328) (w : World) (_ : Fr.W w) :
    Calls Try.prog 10 #[.string s] w fun e w' => e = .returned (.int .u32 ((Fr.sum s.data.toList : Nat) : Int)) ∧ Below w.heap.size w w' := by
  have c1 := Fr.steps_c w
  have C2 : Hid (∀ g wz, Fr.Tab wz g → Calls Try.prog 21 #[.pointer (some ⟨g, 0, none⟩), .string s] wz fun e w' => e = .returned (.int .u32 ((Fr.sum s.data.toList : Nat) : Int)) ∧ w' = wz) := Lib.hid fun g wz h => Fr.tsum_c g s hs wz h
  generalize Fr.sum s.data.toList = M at C2 ⊢
  clear hs
  go_enter Try.func10, Try.ntmps10
  go_wp2_with fail
  with_reducible refine c1.mono ?_
  rintro e w1 ⟨g, rfl, hT, g1⟩
  have c2 := C2.out g w1 hT
  have HB := Lib.hid g1
  clear c1 C2 hT g1
  go_wp2_with fail
  with_reducible refine c2.mono ?_
  rintro e w2 ⟨rfl, h2⟩
  subst w2
  clear c2
  go_wp2
  go_ret
  exact ⟨rfl, HB.out⟩
set_option maxHeartbeats 2000000 in
set_option maxRecDepth 100000 in
theorem Fr.write_c (s : ByteArray) (hs : s.size ≤ 140737488355328) (w : World) (_ : Fr.W w) :
    Calls Try.prog 12 #[.string s] w fun e w' => e = .returned (.string (Ty.S (Fr.frm s.data.toList))) ∧ Below w.heap.size w w' := by
  have hN : s.size % 4294967296 < 4294967296 := Nat.mod_lt _ (by decide)
  have hww : IntKind.u32.wrap (s.size : Int) = ((s.size % 4294967296 : Nat) : Int) := by rw [IntKind.wrap_u32]; omega
  have c1 := fun wz => Fr.four_c (s.size % 4294967296) hN wz
  have c2 := fun wz => Fr.sum_c s hs wz (by rfl)
  have c3 := fun wz => Fr.four_c (Fr.sum s.data.toList) (Fr.sum_lt _) wz
  have HF : Hid (Ty.S (Fr.frm s.data.toList) = (Ty.S (Fr.four (s.size % 4294967296)) ++ s) ++ Ty.S (Fr.four (Fr.sum s.data.toList))) := Lib.hid (by
    unfold Fr.frm
    rw [Fr.four_mod, Ty.length_data]
    conv => rhs; lhs; rhs; rw [← Ty.S_data s]
    rw [Fr.S_add, Fr.S_add, List.append_assoc])
  have e1 : (Ty.S (Fr.four (s.size % 4294967296))).size = 4 := rfl
  have e3 : (Ty.S (Fr.four (Fr.sum s.data.toList))).size = 4 := rfl
  obtain ⟨A, hA⟩ : ∃ A, A = Ty.S (Fr.four (s.size % 4294967296)) := ⟨_, rfl⟩
  obtain ⟨B, hB⟩ : ∃ B, B = Ty.S (Fr.four (Fr.sum s.data.toList)) := ⟨_, rfl⟩
  rw [← hA] at c1 HF e1
  rw [← hB] at c3 HF e3
  generalize Fr.sum s.data.toList = M at c2 c3
  generalize s.size % 4294967296 = N at c1 hww
  have n1 : ¬ 9223372036854775807 < A.size + s.size := by omega
  have n2 : ¬ 9223372036854775807 < A.size + s.size + B.size := by omega
  clear hA hB e1 e3 hN
  go_enter Try.func12, Try.ntmps12
  go_wp2_with fail
  with_reducible refine (c1 _).mono ?_
  rintro e w1 ⟨rfl, g1⟩
  have HB1 := Lib.hid g1
  clear g1 c1
  go_wp2_with fail
  with_reducible refine (c2 _).mono ?_
  rintro e w2 ⟨rfl, g2⟩
  have HB2 := Lib.hid (HB1.out.trans (g2.mono HB1.out.size))
  clear c2 g2 HB1
  go_wp2_with fail
  with_reducible refine (c3 _).mono ?_
  rintro e w3 ⟨rfl, g3⟩
  have HB3 := Lib.hid (HB2.out.trans (g3.mono HB2.out.size))
  clear g3 c3
  go_wp2
  go_ret
  exact ⟨by rw [HF.out]; rfl, HB3.out⟩
set_option maxHeartbeats 4000000 in
set_option maxRecDepth 100000 in
theorem Fr.scan_c (s : ByteArray) (hs : s.size ≤ 70368744177664) (w : World) (_ : Fr.W w) :
    Calls Try.prog 14 #[.string s] w (Fr.Got w (Fr.scan s.data.toList)) := by
  obtain ⟨l, hl⟩ : ∃ l, l = s.data.toList := ⟨_, rfl⟩
  have hll : l.length = s.size := by rw [hl, Ty.length_data]
  rw [← hl]
  have HL := Lib.hid hl
  have HLL := Lib.hid hll
  have HM0 := Lib.hid (Fr.Mid.start l)
  obtain ⟨R, hR⟩ : ∃ R, R = Fr.scan l := ⟨_, rfl⟩
  rw [← hR]
  have HRR := Lib.hid hR
  have c1 := Fr.steps_c w
  have CF : Hid (∀ g (t : ByteArray) wz, t.size ≤ 140737488355328 → Fr.Tab wz g → Calls Try.prog 24 #[.pointer (some ⟨g, 0, none⟩), .string t] wz fun e w' => e = .returned (.tuple #[.string (Ty.S (Fr.fst t.data.toList).1), .int .i64 (((Fr.fst t.data.toList).2 : Nat) : Int)]) ∧ ∃ n, w' = wz.drewN n) := Lib.hid fun g t wz h h2 => Fr.first_c g t h wz h2
  clear hR hl hll
  go_enter Try.func14, Try.ntmps14
  go_wp2_with fail
  with_reducible refine c1.mono ?_
  rintro e w0 ⟨g, rfl, hT0, g0⟩
  have HT0 := Lib.hid hT0
  have HB0 := Lib.hid g0
  clear c1 hT0 g0
  go_wp2
  go_loopw [5, 6, 8, 9] (fun ov av _ _ wr => ∃ (a : Nat) (L : List Fr.Str), av = .int .i64 a ∧ Fr.Mid l a L ∧ Tx.Own w0.heap.size wr ov L ∧ Below w0.heap.size w0 wr) (fun _ av _ _ _ => s.size - (intOf av).toNat)
  case atStart => exact ⟨0, [], rfl, HM0.out, Tx.Own.nil _ _, Below.refl _ _⟩
  case round =>
    obtain ⟨a, L, rfl, hM, hO, hb⟩ := hrel
    have hT := HT0.out.kept hb
    have has : a ≤ s.size := by have := hM.1; rw [HLL.out] at this; exact this
    have hL8 : 8 * L.length ≤ a := hM.2.1
    have hF := hM.fst
    have HO := Lib.hid hO
    have HB := Lib.hid hb
    have hws := hb.size
    have ha0 : (0 : Int) ≤ (a : Int) := by omega
    have hai : (a : Int) ≤ (s.size : Int) := by omega
    have hx : s.extract a s.size = Ty.S (l.drop a) := by
      rw [Fr.ext_at, HL.out, List.take_of_length_le (by rw [List.length_drop, Ty.length_data]; omega)]
    have cf := CF.out g (Ty.S (l.drop a)) wr (by rw [Ty.size_S, List.length_drop, HLL.out]; omega) hT
    rw [Ty.data_S] at cf
    rw [HLL.out] at hF
    generalize Ty.S (l.drop a) = X at hx cf
    obtain ⟨F, hFF⟩ : ∃ F, F = Fr.fst (l.drop a) := ⟨_, rfl⟩
    rw [← hFF] at cf hF
    obtain ⟨K, E⟩ := F
    simp only at cf hF
    have HF := Lib.hid hF
    obtain ⟨T, hTT⟩ : ∃ T, T = Ty.S K := ⟨_, rfl⟩
    rw [← hTT] at cf
    have HTT := Lib.hid hTT
    have hTs : T.size = K.length := by rw [hTT, Ty.size_S]
    clear hM hO hb HM0 hT HT0 hF hFF hTT CF
    go_wp2_with fail
    with_reducible refine cf.mono ?_
    rintro e w1 ⟨rfl, n1, hw1⟩
    have HB1 : Hid (Below w0.heap.size w0 w1) := Lib.hid (by rw [hw1]; exact HB.out.trans ((Bt.drewN_below _ _).mono hws))
    have HO1 : Hid (Tx.Own w0.heap.size w1 u5 L) := Lib.hid (by rw [hw1]; exact Bt.Buf.kept HO.out (Bt.drewN_below _ _))
    clear hw1 cf HO HB
    rcases HF.out with ⟨rfl, hS⟩ | ⟨rfl, hS⟩ | ⟨rfl, hK, hKs, hM⟩
    · have HE := Lib.hid (HRR.out.trans hS)
      have HAT := Lib.hid (Tx.Own.at HO1.out)
      clear hS HF HTT hTs
      go_wp2
      go_ret3
      exact Fr.Got.good HE.out HAT.out (HB0.out.trans (HB1.out.mono HB0.out.size))
    · have HE := Lib.hid (HRR.out.trans hS)
      clear hS HF HTT hTs
      go_wp2
      go_ret3
      exact Fr.Got.bad HE.out (HB0.out.trans (HB1.out.mono HB0.out.size))
    · have HM := Lib.hid hM
      have cc := Tx.clone_c T w1 (by omega)
      have hLL : (L.length + 1) * 16 ≤ 140737488355328 := by omega
      clear hM HF
      go_wp2_with fail
      with_reducible refine cc.mono ?_
      rintro e w2 ⟨rfl, g2⟩
      have HB2 : Hid (Below w0.heap.size w0 w2) := Lib.hid (HB1.out.trans (g2.mono HB1.out.size))
      have hO2 : Tx.Own w0.heap.size w2 u5 L := Bt.Buf.kept HO1.out g2
      have hws2 := HB2.out.size
      clear cc g2 HB1 HO1
      go_wp2_with (at_builtin; refine Bt.wpList_append_one 9 27 (.string ⟨#[]⟩) 16 Try.underlying27 Tx.infoS rfl (hO2.pre K) hws2 hLL (by omega) (.tmp 23) (.tmp 26) _ rfl rfl rfl rfl rfl ?_; intro v3 w3 h3 g3)
      have HO3 := Lib.hid (Tx.Own.post (h3 (by rw [← Tx.sv_snoc, ← HTT.out])))
      have HB3 := Lib.hid (Tx.grew_below HB2.out hO2 g3)
      clear h3 g3 hO2 hLL
      go_wp2
      go_roundw
      case rel => exact ⟨a + (K.length + 8), L ++ [K], by congr 1, HM.out, HO3.out, HB3.out⟩
      case measure => simp [intOf]; omega
set_option maxHeartbeats 2000000 in
set_option maxRecDepth 100000 in
theorem Fr.all_c (s : ByteArray) (hs : s.size ≤ 70368744177664) (w : World) (hw : Fr.W w) :
    Calls Try.prog 16 #[.string s] w (Fr.GotA w (Fr.all s.data.toList)) := by
  have cr := Fr.scan_c s hs w hw
  have hle := Fr.scan_le s.data.toList
  rw [Ty.length_data] at hle
  have HA : Hid (Fr.all s.data.toList = if (Fr.scan s.data.toList).1 ≠ 0 then ((Fr.scan s.data.toList).1, []) else if (Fr.scan s.data.toList).2.2 < s.size then (2, []) else (0, (Fr.scan s.data.toList).2.1)) := Lib.hid (by rw [Fr.all, Ty.length_data])
  generalize Fr.all s.data.toList = R at HA ⊢
  generalize Fr.scan s.data.toList = q at cr hle HA
  obtain ⟨E, L, n⟩ := q
  simp only at hle HA
  unfold Fr.Got at cr
  simp only at cr
  clear hw
  go_enter Try.func16, Try.ntmps16
  go_wp2_with fail
  with_reducible refine cr.mono ?_
  rintro e w1 ⟨v, rfl, hV, g1⟩
  have HV := Lib.hid hV
  have HB1 := Lib.hid g1
  clear cr hV g1
  by_cases hE : E = 0
  · have hEi : (E : Int) = 0 := by omega
    by_cases hn : n < s.size
    · have hni : (n : Int) < (s.size : Int) := by omega
      have HR := Lib.hid (HA.out.trans ((if_neg (by simp [hE])).trans (if_pos hn)))
      clear hE hn HA
      go_wp2
      go_ret2
      exact Fr.GotA.bad HR.out HB1.out
    · have hni : ¬ (n : Int) < (s.size : Int) := by omega
      have HR := Lib.hid (HA.out.trans ((if_neg (by simp [hE])).trans (if_neg hn)))
      clear hE hn HA
      go_wp2
      go_ret2
      exact Fr.GotA.good HR.out HV.out HB1.out
  · have hEi : ¬ (E : Int) = 0 := by omega
    have HR := Lib.hid (HA.out.trans (if_pos hE))
    clear hE HA
    go_wp2
    go_ret2
    exact Fr.GotA.bad HR.out HB1.out
end Go.Proofs.Ytkbkhohknniibaa
