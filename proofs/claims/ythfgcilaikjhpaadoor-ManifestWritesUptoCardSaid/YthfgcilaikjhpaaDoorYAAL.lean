import Derived.Test.YthfgcilaikjhpaaDoorYAAK
import Derived.Test.YthfgcilaikjhpaaDoorYAAD
import Derived.Deep.RegionHeld3
import Derived.Deep.RegionLaw
import Derived.Deep.OwnRows
import Derived.Test.YthfgcilaikjhpaaDoorYAAF
import Derived.Deep.Slices
import Derived.Deep.Fields
import Derived.ChangeSame
import Derived.ProofKit
import Derived.OpenShut
import Derived.SizedLaws
import Derived.Test.YthfgcilaikjhpaaDoorRows
namespace Go.Proofs.YthfgcilaikjhpaaDoor
section
open Go.RowKit
def Mf.prd (e : Mf.E) (k : Nat) : List UInt8 := Mf.encN e.drop.length ++ (e.drop.take k).flatMap Mf.encN
theorem Mf.prd_step {e : Mf.E} {k : Nat} {x : Int} (h : e.drop[k]? = some x) : Ty.S (Mf.prd e (k + 1)) = Ty.S (Mf.prd e k) ++ Ty.S (Mf.encN x) := by
 unfold Mf.prd
 rw [Mf.flat_take h, Mf.S_add, List.append_assoc]
theorem Mf.prd_len {e : Mf.E} (h : e.drop.length ≤ 1000) (k : Nat) : (Ty.S (Mf.prd e k)).size ≤ 200000 := by
 have h1 := Mf.take_flat e.drop k
 have h2 := Mf.encN_len e.drop.length
 have := Nat.mul_le_mul_right 9 h
 rw [Ty.size_S]
 unfold Mf.prd
 rw [List.length_append]
 omega
theorem Mf.prd_all (e : Mf.E) : Ty.S (Mf.prd e e.drop.length) ++ Ty.S (Mf.encN e.add.length) = Ty.S (Mf.pre e 0) := by
 unfold Mf.prd Mf.pre
 rw [List.take_length, Mf.S_add]
 simp
theorem Mf.pre_stepS {e : Mf.E} {k : Nat} {p : Mf.P} (h : e.add[k]? = some p) : Ty.S (Mf.pre e (k + 1)) = Ty.S (Mf.pre e k) ++ (((Ty.S (Mf.encN p.id) ++ Ty.S (Mf.encN p.lv)) ++ Ty.S (Mf.encV p.lo)) ++ Ty.S (Mf.encV p.hi)) := by
 rw [Mf.pre_step h, Mf.S_add, Mf.S_add, Mf.S_add, Mf.S_add]
 simp [List.append_assoc]
theorem Mf.pre_allS (e : Mf.E) : (Ty.S (Mf.pre e e.add.length) ++ Ty.S (Mf.encN e.floor)) ++ Ty.S (Mf.encN e.next) = Ty.S (Mf.enc e) := by
 rw [← Mf.pre_all e, Mf.S_add, Mf.S_add]
 simp [List.append_assoc]
theorem Mf.encN_size (n : Int) : (Ty.S (Mf.encN n)).size ≤ 9 := Mf.encN_len n
set_option maxHeartbeats 8000000 in
set_option maxRecDepth 100000 in
theorem Mf.rwrite_c (vd va : Value) (e : Mf.E) (w : World) (hd : Mf.Is w vd e.drop) (ha : Mf.Ps w va e.add) (hi : ∀ p ∈ e.add, p.i64) :
 Calls Tryd.prog 8 #[.agg #[vd, va, .int .i64 e.floor, .int .i64 e.next]] w fun r w' => r = .returned (Mf.wV e) ∧ Below w.heap.size w w' := by
 have hE := Mf.EA.new w vd va e.floor e.next 27
 have hb : Below w.heap.size w (w.alloc (.cells #[vd, va, .int .i64 e.floor, .int .i64 e.next] 27)) := (Below.refl _ w).alloc (Nat.le_refl _) _
 have CR := Lib.hid fun (W : World) (g : Below w.heap.size w W) => Mf.rright_c vd va e W (hd.kept g) (ha.kept g)
 have HVY : Hid (Mf.right e = true → Mf.wV e = .tuple #[.string (Ty.S (Fr.frm (Mf.enc e))), .int .i64 0]) := Lib.hid fun h => by unfold Mf.wV; rw [if_pos h]
 have HVN : Hid (Mf.right e = false → Mf.wV e = .tuple #[.string (Ty.S []), .int .i64 1]) := Lib.hid fun h => by unfold Mf.wV; rw [if_neg (by rw [h]; decide)]
 have HRT := Lib.hid ((Mf.right_iff e).1)
 have HEN : Hid (Mf.right e = true → (Ty.S (Mf.enc e)).size ≤ 200000) := Lib.hid fun h => Mf.enc_len h
 have HPL : Hid (Mf.right e = true → ∀ k, (Ty.S (Mf.pre e k)).size ≤ 200000) := Lib.hid fun h k => Mf.pre_len h k
 have HPS := Lib.hid (fun (k : Nat) (p : Mf.P) => Mf.pre_stepS (e := e) (k := k) (p := p))
 have HPA := Lib.hid (Mf.pre_allS e)
 have HDL := Lib.hid (Mf.prd_len (e := e))
 have HDS := Lib.hid (fun (k : Nat) (x : Int) => Mf.prd_step (e := e) (k := k) (x := x))
 have HDA := Lib.hid (Mf.prd_all e)
 have HD0 : Hid (Ty.S (Mf.prd e 0) = Ty.S (Mf.encN e.drop.length)) := Lib.hid (by unfold Mf.prd; simp)
 have CF := Lib.hid fun (hr : Mf.right e = true) (W : World) => Fr.rwrite_c (Ty.S (Mf.enc e)) (by have := Mf.enc_len hr; rw [Ty.size_S]; omega) W
 have CN := Lib.hid fun (n : Int) (h0 : 0 ≤ n) (h1 : n ≤ 9223372036854775807) (W : World) => Mf.rnum_c n h0 h1 W
 have CV := Lib.hid fun (x : Kn.V) (h0 : Ty.I64 x.n) (h1 : Mf.key x = true) (W : World) => Mf.rvalue_c x h0 h1 W
 have hd1 := hd.kept hb
 have ha1 := ha.kept hb
 obtain ⟨D, A, fl, nx⟩ := e
 simp only at hE hb CR CF HRT hd1 ha1 HPA HDA HD0 HDL HDS HPS hi ⊢
 obtain ⟨ad, cd, rfl, -, hd2⟩ := hd1
 obtain ⟨aa, ca, rfl, -, ha2⟩ := ha1
 have HI := Lib.hid hi
 have HB := Lib.hid hb
 have HE := Lib.hid hE
 have HD : Hid (∀ W, Below (w.alloc (.cells #[.slice ad D.length cd, .slice aa A.length ca, .int .i64 fl, .int .i64 nx] 27)).heap.size (w.alloc (.cells #[.slice ad D.length cd, .slice aa A.length ca, .int .i64 fl, .int .i64 nx] 27)) W → ∀ (i : Nat) (x : Int), D[i]? = some x → ∃ b o, ad = some ⟨b, o, none⟩ ∧ W.cell? ⟨b, o + i, none⟩ = some (.int .i64 x)) := Lib.hid fun W hW i x hx => by
  rcases hd2 with ⟨h0, -⟩ | ⟨b, o, cs, fr, rfl, -, hbb, h⟩
  ·rw [h0] at hx; cases hx
  ·exact ⟨b, o, rfl, (hW.cell (p := ⟨b, o + i, none⟩) (lt_of_block hbb)).trans (Mf.Is.num h hx)⟩
 have HA : Hid (∀ W, Below (w.alloc (.cells #[.slice ad D.length cd, .slice aa A.length ca, .int .i64 fl, .int .i64 nx] 27)).heap.size (w.alloc (.cells #[.slice ad D.length cd, .slice aa A.length ca, .int .i64 fl, .int .i64 nx] 27)) W → ∀ (i : Nat) (p : Mf.P), A[i]? = some p → ∃ b o, aa = some ⟨b, o, none⟩ ∧ Mf.PA W b (o + i * 8) p) := Lib.hid fun W hW i p hp => by
  rcases ha2 with ⟨h0, -⟩ | ⟨b, o, cs, fr, rfl, -, _, h⟩
  ·rw [h0] at hp; cases hp
  ·exact ⟨b, o, rfl, (Mf.Ps.part h hp).kept hW⟩
 obtain ⟨e0, e1, e2, e3⟩ := hE
 rw [show Ty.S (Fr.frm (Ty.S (Mf.enc ⟨D, A, fl, nx⟩)).data.toList) = Ty.S (Fr.frm (Mf.enc ⟨D, A, fl, nx⟩)) by rw [Ty.data_S]] at CF
 generalize Mf.wV ⟨D, A, fl, nx⟩ = V at HVY HVN ⊢
 generalize Mf.right ⟨D, A, fl, nx⟩ = R at CR CF HVY HVN HRT HEN HPL
 generalize Ty.S (Fr.frm (Mf.enc ⟨D, A, fl, nx⟩)) = M at CF HVY
 generalize Ty.S (Mf.enc ⟨D, A, fl, nx⟩) = T at CF HPA HEN
 obtain ⟨PRE, hPRE⟩ : ∃ PRE : Nat → ByteArray, PRE = fun k => Ty.S (Mf.pre ⟨D, A, fl, nx⟩ k) := ⟨_, rfl⟩
 obtain ⟨PRD, hPRD⟩ : ∃ PRD : Nat → ByteArray, PRD = fun k => Ty.S (Mf.prd ⟨D, A, fl, nx⟩ k) := ⟨_, rfl⟩
 have hPRE' : ∀ k, Ty.S (Mf.pre ⟨D, A, fl, nx⟩ k) = PRE k := fun k => by rw [hPRE]
 have hPRD' : ∀ k, Ty.S (Mf.prd ⟨D, A, fl, nx⟩ k) = PRD k := fun k => by rw [hPRD]
 simp only [hPRE', hPRD'] at HPL HPS HPA HDL HDS HDA HD0
 clear hd ha hi hb hd2 ha2 hPRE hPRD hPRE' hPRD'
 cases R
 ·have HV := Lib.hid (HVN.out rfl)
  go_enter Tryd.func8, Tryd.ntmps8
  go_wp2_with fail
  with_reducible refine (CR.out _ HB.out).mono ?_
  rintro e w1 ⟨rfl, g1⟩
  have HB1 := Lib.hid (HB.out.trans (g1.mono HB.out.size))
  clear g1
  go_wp2
  go_ret2
  exact ⟨by rw [HV.out]; rfl, HB1.out⟩
 ·have HV := Lib.hid (HVY.out rfl)
  have CF2 := Lib.hid (CF.out rfl)
  have HPL2 := Lib.hid (HPL.out rfl)
  have HEN2 := Lib.hid (HEN.out rfl)
  obtain ⟨r1, r2, r3, r4, r5, r6⟩ := HRT.out rfl
  have r5 := (Mf.nm_iff _).1 r5
  have r6 := (Mf.nm_iff _).1 r6
  have HR3 := Lib.hid r3
  have HR4 := Lib.hid r4
  have HN : Hid ((D.length ≤ 1000 ∧ A.length ≤ 1000) ∧ (0 ≤ fl ∧ fl ≤ 999999999) ∧ (0 ≤ nx ∧ nx ≤ 999999999)) := Lib.hid ⟨⟨r1, r2⟩, r5, r6⟩
  have HDL2 := Lib.hid (HDL.out r1)
  have i1 : (D.length : Int) ≤ 1000 := by omega
  have i2 : (A.length : Int) ≤ 1000 := by omega
  have CND := Lib.hid fun (W : World) => CN.out (D.length : Int) (by omega) (by omega) W
  have CNA := Lib.hid fun (W : World) => CN.out (A.length : Int) (by omega) (by omega) W
  have CNF := Lib.hid fun (W : World) => CN.out fl (by omega) (by omega) W
  have CNX := Lib.hid fun (W : World) => CN.out nx (by omega) (by omega) W
  have z1 := Mf.encN_size (A.length : Int)
  have z2 := Mf.encN_size fl
  have z3 := Mf.encN_size nx
  rw [← HD0.out] at CND
  generalize Ty.S (Mf.encN (A.length : Int)) = TA at CNA HDA z1
  generalize Ty.S (Mf.encN fl) = TF at CNF HPA z2
  generalize Ty.S (Mf.encN nx) = TX at CNX HPA z3
  clear HVN HVY CF HPL HEN HRT HDL r1 r2 r3 r4 r5 r6 HD0
  go_enter Tryd.func8, Tryd.ntmps8
  go_wp2_with fail
  with_reducible refine (CR.out _ HB.out).mono ?_
  rintro e w1 ⟨rfl, g1⟩
  have HB1 := Lib.hid g1
  obtain ⟨f0, f1, f2, f3⟩ := HE.out.kept g1
  clear g1 e0 e1 e2 e3
  go_wp2_with fail
  with_reducible refine (CND.out _).mono ?_
  rintro e w2 ⟨rfl, g2⟩
  have HB2 := Lib.hid (HB1.out.trans (g2.mono HB1.out.size))
  obtain ⟨e0, e1, e2, e3⟩ := HE.out.kept HB2.out
  clear g2 f0 f1 f2 f3 HB1 CR
  generalize hwo : w.alloc _ = wo at HB HE HD HA HB2 ⊢
  clear hwo
  go_wp2_with fail
  go_loopw [4, 5] (fun t i wr => ∃ k : Nat, k ≤ D.length ∧ t = .string (PRD k) ∧ i = .int .i64 k ∧ Below wo.heap.size wo wr) (fun _ i _ => D.length - (intOf i).toNat)
  case atStart => exact ⟨0, Nat.zero_le _, rfl, rfl, HB2.out⟩
  case round =>
   obtain ⟨k, hk, rfl, rfl, hg⟩ := hrel
   have hk0 : (0 : Int) ≤ (k : Int) := by omega
   have HG := Lib.hid hg
   clear e0 e1 e2 e3
   obtain ⟨e0, e1, e2, e3⟩ := HE.out.kept hg
   by_cases hkl : k < D.length
   ·have hx := List.getElem?_eq_getElem hkl
    have hmem := List.getElem_mem hkl
    generalize D[k] = x at hx hmem
    have x1 := (Mf.nm_iff _).1 (HR3.out x hmem)
    obtain ⟨b, o, rfl, c0⟩ := HD.out wr hg k x hx
    have HST := Lib.hid (HDS.out k x hx)
    have hki : (k : Int) < (D.length : Int) := by omega
    have CX := Lib.hid fun (W : World) => CN.out x x1.1 (by omega) W
    have zx := Mf.encN_size x
    have zp := HDL2.out k
    generalize Ty.S (Mf.encN x) = TXX at CX HST zx
    have n1 : ¬ 9223372036854775807 < (PRD k).size + TXX.size := by omega
    clear zx zp hx hmem hg x1
    go_wp2_with fail
    with_reducible refine (CX.out _).mono ?_
    rintro e w3 ⟨rfl, g3⟩
    have HG3 := Lib.hid (HG.out.trans (g3.mono HG.out.size))
    clear g3
    go_wp2
    go_roundw
    case rel => exact ⟨k + 1, by omega, by rw [HST.out], by simp, HG3.out⟩
    case measure => simp [intOf]; omega
   ·obtain rfl : k = D.length := by omega
    have hki : ¬ (D.length : Int) < (D.length : Int) := by omega
    have zp := HDL2.out D.length
    have HDA2 := Lib.hid HDA.out
    generalize PRD D.length = PD at HDA2 zp
    have n1 : ¬ 9223372036854775807 < PD.size + TA.size := by omega
    clear zp hk hkl hk0 hg HDS HDL2 HR3 HD HDA z1
    go_wp2_with fail
    with_reducible refine (CNA.out _).mono ?_
    rintro e w3 ⟨rfl, g3⟩
    have HG3 := Lib.hid (HG.out.trans (g3.mono HG.out.size))
    obtain ⟨f0, f1, f2, f3⟩ := HE.out.kept HG3.out
    clear g3 e0 e1 e2 e3 CNA
    go_wp2_with fail
    rw [HDA2.out]
    clear n1 hki
    go_loopw [4, 6] (fun t i wr => ∃ k : Nat, k ≤ A.length ∧ t = .string (PRE k) ∧ i = .int .i64 k ∧ Below wo.heap.size wo wr) (fun _ i _ => A.length - (intOf i).toNat)
    case atStart => exact ⟨0, Nat.zero_le _, rfl, rfl, HG3.out⟩
    case round =>
     obtain ⟨k, hk, rfl, rfl, hg⟩ := hrel
     have hk0 : (0 : Int) ≤ (k : Int) := by omega
     have HG := Lib.hid hg
     obtain ⟨e0, e1, e2, e3⟩ := HE.out.kept hg
     clear f0 f1 f2 f3
     by_cases hkl : k < A.length
     ·have hx := List.getElem?_eq_getElem hkl
      have hmem := List.getElem_mem hkl
      generalize A[k] = p at hx hmem
      have hpi := HI.out p hmem
      obtain ⟨q1, q2, q3, q4, -⟩ := Mf.part_is (HR4.out p hmem)
      obtain ⟨b, o, rfl, hp⟩ := HA.out wr hg k p hx
      obtain ⟨p0, p1, p2, p3, p4, p5, p6, p7⟩ := hp
      have HST := Lib.hid (HPS.out k p hx)
      have hki : (k : Int) < (A.length : Int) := by omega
      have C1 := Lib.hid fun (W : World) => CN.out p.id q1.1 (by omega) W
      have C2 := Lib.hid fun (W : World) => CN.out p.lv q2.1 (by omega) W
      have C3 := Lib.hid fun (W : World) => CV.out p.lo hpi.1 q3 W
      have C4 := Lib.hid fun (W : World) => CV.out p.hi hpi.2 q4 W
      have y1 := Mf.encN_size p.id
      have y2 := Mf.encN_size p.lv
      have y3 : (Ty.S (Mf.encV p.lo)).size ≤ 82 := Mf.encV_len q3
      have y4 : (Ty.S (Mf.encV p.hi)).size ≤ 82 := Mf.encV_len q4
      have y0 := HPL2.out k
      have hPN := Mf.PA.new wr p 45
      have HAP : Hid (Below wr.heap.size wr (wr.alloc (.cells (Mf.cs p) 45))) := Lib.hid ((Below.refl _ _).alloc (Nat.le_refl _) _)
      obtain ⟨id, lv, ⟨an, ai, sa⟩, ⟨bn, bi, sb⟩⟩ := p
      unfold Kn.V.val at C3 C4
      unfold Mf.cs at hPN HAP
      simp only at hPN HAP p0 p1 p2 p3 p4 p5 p6 p7 C1 C2 C3 C4 HST y1 y2 y3 y4
      generalize Ty.S (Mf.encN id) = S1 at C1 HST y1
      generalize Ty.S (Mf.encN lv) = S2 at C2 HST y2
      generalize Ty.S (Mf.encV ⟨an, ai, sa⟩) = S3 at C3 HST y3
      generalize Ty.S (Mf.encV ⟨bn, bi, sb⟩) = S4 at C4 HST y4
      have n1 : ¬ 9223372036854775807 < S1.size + S2.size := by omega
      have n2 : ¬ 9223372036854775807 < S1.size + S2.size + S3.size := by omega
      have n3 : ¬ 9223372036854775807 < S1.size + S2.size + S3.size + S4.size := by omega
      have n4 : ¬ 9223372036854775807 < (PRE k).size + (S1.size + S2.size + S3.size + S4.size) := by omega
      clear hx hmem hpi q1 q2 q3 q4 y0 y1 y2 y3 y4 hg
      go_wp2_with fail
      generalize hwp : wr.alloc _ = w5 at hPN HAP ⊢
      clear hwp
      obtain ⟨a0, a1, a2, a3, a4, a5, a6, a7⟩ := hPN
      have E0 := fun d os => cell_regrown a0 d os
      have E1 := fun d os => cell_regrown a1 d os
      have E2 := fun d os => cell_regrown a2 d os
      have E3 := fun d os => cell_regrown a3 d os
      have E4 := fun d os => cell_regrown a4 d os
      have E5 := fun d os => cell_regrown a5 d os
      have E6 := fun d os => cell_regrown a6 d os
      have E7 := fun d os => cell_regrown a7 d os
      have R1 : Hid (∀ p : Regrown, Calls Tryd.prog 19 #[.int .i64 id] (Sort.grow (redrawn w5 p.d) p.os) fun e w'' => e = .returned (.string S1) ∧ ∃ p : Regrown, w'' = Sort.grow (redrawn w5 p.d) p.os) := Lib.hid fun p => Calls.regrown_of (C1.out _)
      have R2 : Hid (∀ p : Regrown, Calls Tryd.prog 19 #[.int .i64 lv] (Sort.grow (redrawn w5 p.d) p.os) fun e w'' => e = .returned (.string S2) ∧ ∃ p : Regrown, w'' = Sort.grow (redrawn w5 p.d) p.os) := Lib.hid fun p => Calls.regrown_of (C2.out _)
      have R3 : Hid (∀ p : Regrown, Calls Tryd.prog 20 #[.agg #[.bool an, .int .i64 ai, .string sa]] (Sort.grow (redrawn w5 p.d) p.os) fun e w'' => e = .returned (.string S3) ∧ ∃ p : Regrown, w'' = Sort.grow (redrawn w5 p.d) p.os) := Lib.hid fun p => Calls.regrown_of (C3.out _)
      have R4 : Hid (∀ p : Regrown, Calls Tryd.prog 20 #[.agg #[.bool bn, .int .i64 bi, .string sb]] (Sort.grow (redrawn w5 p.d) p.os) fun e w'' => e = .returned (.string S4) ∧ ∃ p : Regrown, w'' = Sort.grow (redrawn w5 p.d) p.os) := Lib.hid fun p => Calls.regrown_of (C4.out _)
      clear a0 a1 a2 a3 a4 a5 a6 a7 p0 p1 p2 p3 p4 p5 p6 p7 e0 e1 e2 e3
      refine wp_region_quiet_below (by kernel_rfl) (by kernel_rfl) ?_
      repeat (go_big_quiet_step (first | with_reducible exact R1.out _ | with_reducible exact R2.out _ | with_reducible exact R3.out _ | with_reducible exact R4.out _))
      refine wpQuiet_nil ?_
      intro wq hw'
      have HGQ := Lib.hid (HG.out.trans ((HAP.out.trans ((Mf.below_reg hw').mono HAP.out.size)).mono HG.out.size))
      clear hw' E0 E1 E2 E3 E4 E5 E6 E7
      go_wp2
      go_roundw
      case rel => exact ⟨k + 1, by omega, by rw [HST.out], by simp, HGQ.out⟩
      case measure => simp [intOf]; omega
     ·obtain rfl : k = A.length := by omega
      have hki : ¬ (A.length : Int) < (A.length : Int) := by omega
      have y0 := HPL2.out A.length
      have n1 : ¬ 9223372036854775807 < (PRE A.length).size + TF.size := by omega
      have n2 : ¬ 9223372036854775807 < (PRE A.length).size + TF.size + TX.size := by omega
      have E2 := fun d os => cell_regrown e2 d os
      have E3 := fun d os => cell_regrown e3 d os
      have R1 : Hid (∀ p : Regrown, Calls Tryd.prog 19 #[.int .i64 fl] (Sort.grow (redrawn wr p.d) p.os) fun e w'' => e = .returned (.string TF) ∧ ∃ p : Regrown, w'' = Sort.grow (redrawn wr p.d) p.os) := Lib.hid fun p => Calls.regrown_of (CNF.out _)
      have R2 : Hid (∀ p : Regrown, Calls Tryd.prog 19 #[.int .i64 nx] (Sort.grow (redrawn wr p.d) p.os) fun e w'' => e = .returned (.string TX) ∧ ∃ p : Regrown, w'' = Sort.grow (redrawn wr p.d) p.os) := Lib.hid fun p => Calls.regrown_of (CNX.out _)
      have R3 : Hid (∀ p : Regrown, Calls Tryd.prog 21 #[.string (PRE A.length ++ TF ++ TX)] (Sort.grow (redrawn wr p.d) p.os) fun e w'' => e = .returned (.string M) ∧ ∃ p : Regrown, w'' = Sort.grow (redrawn wr p.d) p.os) := Lib.hid fun p => by
       rw [HPA.out]
       exact Calls.regrown_of (CF2.out _)
      have HBB := Lib.hid (HB.out.trans (HG.out.mono HB.out.size))
      generalize PRE A.length = PA9 at n1 n2 R3 ⊢
      clear hk hkl hk0 y0 hg z2 z3
      go_wp2_with fail
      clear e0 e1 e2 e3
      refine wp_region_quiet_below (by kernel_rfl) (by kernel_rfl) ?_
      repeat (go_big_quiet_step (first | with_reducible exact R1.out _ | with_reducible exact R2.out _ | with_reducible exact R3.out _))
      refine wpQuiet_nil ?_
      intro wq hw'
      have HBQ := Lib.hid (HBB.out.trans ((Mf.below_reg hw').mono HBB.out.size))
      clear hw' E2 E3
      go_wp2
      go_ret2
      exact ⟨by rw [HV.out]; rfl, HBQ.out⟩
end
section
open Go.RowKit
theorem Mf.cut_len {L : List Mf.P} {k : Nat} (h : k < L.length) : (L.take k ++ L.drop (k + 1)).length + 1 = L.length := by
 rw [List.length_append, List.length_take, List.length_drop]
 omega
theorem Mf.atV_some {L : List Mf.P} {d : Int} (h : Mf.has L d = true) : ∃ k : Nat, Mf.atV L d = (k : Int) ∧ Mf.at_ L d = some k ∧ k < L.length := by
 unfold Mf.atV
 cases hk : Mf.at_ L d with
 | none => rw [(Mf.at_none L d).1 hk] at h; cases h
 | some k => exact ⟨k, rfl, rfl, Mf.at_lt hk⟩
theorem Mf.atV_no {L : List Mf.P} {d : Int} (h : Mf.has L d = false) : Mf.atV L d = -1 := by
 unfold Mf.atV
 rw [(Mf.at_none L d).2 h]
def Mf.vlen : Value → Nat
 | .slice _ n _ => n
 | _ => 0
theorem Mf.Ow.some {base : Nat} {w : World} {v : Value} {L : List Mf.P} (h : Mf.Ow base w v L) (hl : 0 < L.length) : ∃ g c, v = .slice (some ⟨g, 0, none⟩) L.length c ∧ L.length ≤ c ∧ c ≤ maxLen ∧ g < w.heap.size ∧ ∀ i j x, L[i]? = some x → j < 8 → w.cell? ⟨g, i * 8 + j, none⟩ = (Mf.pc x)[j]? := by
 rcases Dk.Own.form h with ⟨_, rfl⟩ | ⟨g, c, e, h1, h2, _, h4⟩
 ·simp at hl
 ·subst e
  exact ⟨g, c, rfl, h1, h2, h4, fun i j x hi hj => Dk.Own.cell Mf.pc_len h rfl hi hj⟩
theorem Mf.Ow.len {base : Nat} {w : World} {v : Value} {L : List Mf.P} (h : Mf.Ow base w v L) : Mf.vlen v = L.length := by
 rcases Dk.Own.form h with ⟨rfl, rfl⟩ | ⟨g, c, rfl, _⟩ <;> rfl
theorem Mf.below_reg2 {w w' : World} (h : ∃ p : Regrown, w' = Sort.grow (redrawn w p.d) p.os) : Below w.heap.size w w' := by
 obtain ⟨p, rfl⟩ := h
 exact below_regrown w p.d p.os
set_option maxHeartbeats 16000000 in
set_option maxRecDepth 100000 in
theorem Mf.rapply_c (vs vd va : Value) (s : Mf.S) (e : Mf.E) (w : World) (hs : Mf.Ps w vs s.parts) (hd : Mf.Is w vd e.drop) (ha : Mf.Ps w va e.add) (hl : s.parts.length ≤ 1000000000000) :
 Calls Tryd.prog 10 #[Mf.sv vs s, .agg #[vd, va, .int .i64 e.floor, .int .i64 e.next]] w (Mf.GotS w (Mf.ap s e)) := by
 have HNO : Hid (Mf.right e = false ∨ e.floor < s.floor ∨ e.next < s.next → Mf.ap s e = none) := Lib.hid Mf.ap_not
 have HIS := Lib.hid fun h1 h2 h3 => Mf.ap_is (s := s) (e := e) h1 h2 h3
 have HRT := Lib.hid ((Mf.right_iff e).1)
 obtain ⟨L, f0, n0⟩ := s
 obtain ⟨D, A, fl, nx⟩ := e
 unfold Mf.sv
 simp only at hs hd ha hl HNO HIS HRT ⊢
 obtain ⟨ap, cp, rfl, -⟩ := hs.form
 obtain ⟨ad, cd, rfl, -, hd2⟩ := id hd
 obtain ⟨aa, ca, rfl, -⟩ := ha.form
 obtain ⟨wa, hwa⟩ : ∃ wa, wa = w.alloc (.cells #[.slice ap L.length cp, .int .i64 f0, .int .i64 n0] 24) := ⟨_, rfl⟩
 obtain ⟨wb, hwb⟩ : ∃ wb, wb = wa.alloc (.cells #[.slice ad D.length cd, .slice aa A.length ca, .int .i64 fl, .int .i64 nx] 27) := ⟨_, rfl⟩
 obtain ⟨wc, hwc⟩ : ∃ wc, wc = wb.alloc (.cells #[.slice none 0 0, .int .i64 0, .int .i64 0] 24) := ⟨_, rfl⟩
 have ga : Below w.heap.size w wa := by rw [hwa]; exact (Below.refl _ _).alloc (Nat.le_refl _) _
 have gb : Below wa.heap.size wa wb := by rw [hwb]; exact (Below.refl _ _).alloc (Nat.le_refl _) _
 have gc : Below wb.heap.size wb wc := by rw [hwc]; exact (Below.refl _ _).alloc (Nat.le_refl _) _
 have sa : wa.heap.size = w.heap.size + 1 := by rw [hwa]; exact World.size_alloc ..
 have sb : wb.heap.size = w.heap.size + 2 := by rw [hwb, World.size_alloc, sa]
 have sc : wc.heap.size = w.heap.size + 3 := by rw [hwc, World.size_alloc, sb]
 have gbc : Below wa.heap.size wa wc := gb.trans (gc.mono gb.size)
 have gac : Below w.heap.size w wc := ga.trans (gbc.mono ga.size)
 have hSA : Mf.SA wc w.heap.size (.slice ap L.length cp) f0 n0 := by
  have := Mf.SA.new w (.slice ap L.length cp) f0 n0 24
  rw [← hwa] at this
  exact this.kept gbc
 have hEA : Mf.EA wc (w.heap.size + 1) (.slice ad D.length cd) (.slice aa A.length ca) fl nx := by
  have := Mf.EA.new wa (.slice ad D.length cd) (.slice aa A.length ca) fl nx 27
  rw [← hwb, sa] at this
  exact this.kept gc
 have hYR : wc.heap[w.heap.size + 2]? = some (.cells #[.slice none 0 0, .int .i64 0, .int .i64 0] 24 (0, 0)) := by
  rw [hwc, ← sb]; exact heap_alloc_new wb _
 have hPs := hs.kept gac
 have hPa := ha.kept gac
 have CR := Lib.hid fun (W : World) (g : Below wc.heap.size wc W) => Mf.rright_c _ _ ⟨D, A, fl, nx⟩ W ((hd.kept gac).kept g) (hPa.kept g)
 simp only at CR
 have HD : Hid (∀ W, Below wc.heap.size wc W → ∀ (i : Nat) (x : Int), D[i]? = some x → ∃ b o, ad = some ⟨b, o, none⟩ ∧ W.cell? ⟨b, o + i, none⟩ = some (.int .i64 x)) := Lib.hid fun W hW i x hx => by
  rcases hd2 with ⟨h0, -⟩ | ⟨b, o, cs, fr, rfl, -, hbb, h⟩
  ·rw [h0] at hx; cases hx
  ·exact ⟨b, o, rfl, ((gac.trans (hW.mono gac.size)).cell (p := ⟨b, o + i, none⟩) (lt_of_block hbb)).trans (Mf.Is.num h hx)⟩
 have HSA := Lib.hid hSA
 have HEA := Lib.hid hEA
 have HYR := Lib.hid hYR
 have HPS := Lib.hid hPs
 have HPA := Lib.hid hPa
 have HB := Lib.hid gac
 have HSC := Lib.hid sc
 have HL := Lib.hid hl
 clear hs hd ha hl hd2 ga gb gc gbc gac hPs hPa sa hYR sc
 generalize Mf.ap ⟨L, f0, n0⟩ ⟨D, A, fl, nx⟩ = RES at HNO HIS ⊢
 generalize hRR : Mf.right ⟨D, A, fl, nx⟩ = R at CR HNO HIS HRT
 clear hRR
 obtain ⟨s0, s1, s2⟩ := hSA
 obtain ⟨e0, e1, e2, e3⟩ := hEA
 have hways : (R = false) ∨ (R = true ∧ fl < f0) ∨ (R = true ∧ ¬ fl < f0 ∧ nx < n0) ∨ (R = true ∧ ¬ fl < f0 ∧ ¬ nx < n0) := by
  cases R
  ·exact .inl rfl
  ·by_cases h1 : fl < f0
   ·exact .inr (.inl ⟨rfl, h1⟩)
   ·by_cases h2 : nx < n0
    ·exact .inr (.inr (.inl ⟨rfl, h1, h2⟩))
    ·exact .inr (.inr (.inr ⟨rfl, h1, h2⟩))
 have HBAD : Hid (RES = none → ∀ W, Below wc.heap.size wc W → Mf.GotS w RES (.returned (.tuple #[.agg #[.slice none 0 0, .int .i64 0, .int .i64 0], .int .i64 8])) (((W.setCell ⟨w.heap.size + 2, 0, none⟩ (.slice none 0 0)).setCell ⟨w.heap.size + 2, 1, none⟩ (.int .i64 0)).setCell ⟨w.heap.size + 2, 2, none⟩ (.int .i64 0))) := Lib.hid fun h W g =>
  Mf.GotS.bad h (Mf.below3 (HB.out.trans (g.mono HB.out.size)) (by omega) _ _ _)
 rcases hways with rfl | ⟨rfl, h1⟩ | ⟨rfl, h1, h2⟩ | ⟨rfl, h1, h2⟩
 ·have HN := Lib.hid (HBAD.out (HNO.out (.inl rfl)))
  go_enter Tryd.func10, Tryd.ntmps10
  go_wp2_with fail
  rw [← hwa, ← hwb, ← hwc]
  with_reducible refine (CR.out _ (Below.refl _ _)).mono ?_
  rintro e w1 ⟨rfl, g1⟩
  have HF := Lib.hid (HN.out w1 g1)
  obtain ⟨⟨y0, y1, y2⟩, z0, z1, z2⟩ := Mf.three ((g1.block (w.heap.size + 2) (by have := HSC.out; omega)).trans HYR.out)
  clear g1 s0 s1 s2 e0 e1 e2 e3
  go_wp2
  (try simp only [Exit.inBlock, Exit.then])
  refine bodyPost_ret (v := .tuple #[.agg #[.slice none 0 0, .int .i64 0, .int .i64 0], .int .i64 8]) ?_ rfl HF.out
  rw [results_cell_tmp rfl]
  go_simp
 ·have HN := Lib.hid (HBAD.out (HNO.out (.inr (.inl h1))))
  go_enter Tryd.func10, Tryd.ntmps10
  go_wp2_with fail
  rw [← hwa, ← hwb, ← hwc]
  with_reducible refine (CR.out _ (Below.refl _ _)).mono ?_
  rintro e w1 ⟨rfl, g1⟩
  have HF := Lib.hid (HN.out w1 g1)
  obtain ⟨⟨y0, y1, y2⟩, z0, z1, z2⟩ := Mf.three ((g1.block (w.heap.size + 2) (by have := HSC.out; omega)).trans HYR.out)
  clear s0 s1 s2 e0 e1 e2 e3
  obtain ⟨s0, s1, s2⟩ := HSA.out.kept g1
  obtain ⟨e0, e1, e2, e3⟩ := HEA.out.kept g1
  clear g1
  go_wp2
  (try simp only [Exit.inBlock, Exit.then])
  refine bodyPost_ret (v := .tuple #[.agg #[.slice none 0 0, .int .i64 0, .int .i64 0], .int .i64 8]) ?_ rfl HF.out
  rw [results_cell_tmp rfl]
  go_simp
 ·have HN := Lib.hid (HBAD.out (HNO.out (.inr (.inr h2))))
  go_enter Tryd.func10, Tryd.ntmps10
  go_wp2_with fail
  rw [← hwa, ← hwb, ← hwc]
  with_reducible refine (CR.out _ (Below.refl _ _)).mono ?_
  rintro e w1 ⟨rfl, g1⟩
  have HF := Lib.hid (HN.out w1 g1)
  obtain ⟨⟨y0, y1, y2⟩, z0, z1, z2⟩ := Mf.three ((g1.block (w.heap.size + 2) (by have := HSC.out; omega)).trans HYR.out)
  clear s0 s1 s2 e0 e1 e2 e3
  obtain ⟨s0, s1, s2⟩ := HSA.out.kept g1
  obtain ⟨e0, e1, e2, e3⟩ := HEA.out.kept g1
  clear g1
  go_wp2
  (try simp only [Exit.inBlock, Exit.then])
  refine bodyPost_ret (v := .tuple #[.agg #[.slice none 0 0, .int .i64 0, .int .i64 0], .int .i64 8]) ?_ rfl HF.out
  rw [results_cell_tmp rfl]
  go_simp
 ·have HRES := Lib.hid (HIS.out rfl h1 h2)
  obtain ⟨r1, r2, r3, r4, r5, r6⟩ := HRT.out rfl
  have HN : Hid (D.length ≤ 1000 ∧ A.length ≤ 1000) := Lib.hid ⟨r1, r2⟩
  clear HNO HIS HRT r1 r2 r3 r4 r5 r6
  go_enter Tryd.func10, Tryd.ntmps10
  go_wp2_with fail
  rw [← hwa, ← hwb, ← hwc]
  with_reducible refine (CR.out _ (Below.refl _ _)).mono ?_
  rintro e w1 ⟨rfl, g1⟩
  have HG1 := Lib.hid g1
  clear s0 s1 s2 e0 e1 e2 e3
  obtain ⟨s0, s1, s2⟩ := HSA.out.kept g1
  obtain ⟨e0, e1, e2, e3⟩ := HEA.out.kept g1
  have hsrc := (HPS.out.kept g1).src
  have hsz1 := g1.size
  clear g1 CR hwa hwb hwc
  go_wp2_with (at_builtin; refine Mf.wpList_part L (Mf.Ow.nil wc.heap.size _) hsz1 (by have := HL.out; simp only [List.length_nil]; omega) hsrc (.const (.slice none 0 0)) (.tmp 29) (by rfl) (by rfl) (by rfl) (by rfl) ?_; intro v2 w2 o2 g2)
  have HO2 : Hid (Mf.Ow wc.heap.size w2 v2 L) := Lib.hid o2
  have HG2 := Lib.hid (Mf.ow_below HG1.out hsz1 (Mf.Ow.nil wc.heap.size w1) g2)
  have HDL : Hid ((D.length : Int) ≤ 1000 ∧ (A.length : Int) ≤ 1000) := Lib.hid (by have := HN.out; omega)
  have CAT := Lib.hid fun (v : Value) (M : List Mf.P) (d : Int) (W : World) (h : Mf.Ps W v M) (hm : M.length ≤ 1000000000000) => Mf.rat_c v M d W h (by omega)
  clear o2 g2 hsrc hsz1 s0 s1 s2 e0 e1 e2 e3
  go_wp2_with fail
  go_loopw [6, 7] (fun v i wr => ∃ (k : Nat) (M : List Mf.P), k ≤ D.length ∧ i = .int .i64 k ∧ Mf.Ow wc.heap.size wr v M ∧ Below wc.heap.size wc wr ∧ M.length ≤ L.length ∧ Mf.dr M (D.drop k) = Mf.dr L D) (fun _ i _ => D.length - (intOf i).toNat)
  case atStart => exact ⟨0, L, Nat.zero_le _, rfl, HO2.out, HG2.out, Nat.le_refl _, rfl⟩
  case round =>
   obtain ⟨k, M, hk, rfl, hO, hg, hml, hdr⟩ := hrel
   have hk0 : (0 : Int) ≤ (k : Int) := by omega
   have HO := Lib.hid hO
   have HG := Lib.hid hg
   have HML := Lib.hid hml
   have HDR := Lib.hid hdr
   obtain ⟨e0, e1, e2, e3⟩ := HEA.out.kept hg
   have hdl9 := HDL.out.1
   by_cases hkl : k < D.length
   ·have hx := List.getElem?_eq_getElem hkl
    generalize D[k] = d at hx
    obtain ⟨b, o, rfl, c0⟩ := HD.out wr hg k d hx
    have HX := Lib.hid hx
    have HST := Lib.hid (Mf.dr_step (L := M) hx)
    have hki : (k : Int) < (D.length : Int) := by omega
    have cat := CAT.out _ M d wr hO.ps (by have := HL.out; have := HML.out; omega)
    clear hx hg hml hdr
    cases hh : Mf.has M d
    ·rw [Mf.atV_no hh] at cat
     have HF := Lib.hid (HBAD.out (by rw [HRES.out, ← HDR.out, HST.out, hh]; rfl) wr HG.out)
     obtain ⟨⟨y0, y1, y2⟩, z0, z1, z2⟩ := Mf.three ((HG.out.block (w.heap.size + 2) (by have := HSC.out; omega)).trans HYR.out)
     clear hh hO
     go_wp2_with fail
     with_reducible refine cat.mono ?_
     rintro e w3 ⟨rfl, h9⟩
     subst w3
     go_wp2
     (try simp only [Exit.inBlock, Exit.then])
     refine bodyPost_ret (v := .tuple #[.agg #[.slice none 0 0, .int .i64 0, .int .i64 0], .int .i64 8]) ?_ rfl HF.out
     rw [results_cell_tmp rfl]
     go_simp
    ·obtain ⟨q0, e9, -, -⟩ := Mf.atV_some hh
     rw [e9] at cat
     have HNX : Hid (Mf.dr (Mf.wo M d) (D.drop (k + 1)) = Mf.dr L D) := Lib.hid (by rw [← HDR.out, HST.out, hh]; rfl)
     have hq0 : ¬ ((q0 : Nat) : Int) < 0 := by omega
     clear hh e9 HST HDR
     go_wp2_with fail
     with_reducible refine cat.mono ?_
     rintro e w3 ⟨rfl, h9⟩
     subst w3
     clear cat
     go_wp2_with fail
     clear hq0
     go_loopw [6] (fun v w3 => ∃ M2 : List Mf.P, Mf.Ow wc.heap.size w3 v M2 ∧ Below wc.heap.size wc w3 ∧ M2.length ≤ M.length ∧ Mf.wo M2 d = Mf.wo M d) (fun v _ => Mf.vlen v)
     case atStart => exact ⟨M, hO, HG.out, Nat.le_refl _, rfl⟩
     case round =>
      obtain ⟨M2, hO2, hg2, hml2, hwo⟩ := hrel
      clear e0 e1 e2 e3 c0 hO
      obtain ⟨e0, e1, e2, e3⟩ := HEA.out.kept hg2
      obtain ⟨b', o', e9, c0⟩ := HD.out wr hg2 k d HX.out
      obtain ⟨rfl, rfl⟩ : b = b' ∧ o = o' := by simpa using e9
      clear e9
      have HO2 := Lib.hid hO2
      have HG2 := Lib.hid hg2
      have HML2 := Lib.hid hml2
      have HWO := Lib.hid hwo
      have cat := CAT.out _ M2 d wr hO2.ps (by have := HL.out; have := HML.out; omega)
      cases hh : Mf.has M2 d
      ·rw [Mf.atV_no hh] at cat
       have HEQ : Hid (M2 = Mf.wo M d) := Lib.hid (by rw [← hwo, Mf.wo_none hh])
       clear hh hO2 hg2 hml2 hwo
       go_wp2_with fail
       with_reducible refine cat.mono ?_
       rintro e w3 ⟨rfl, h9⟩
       subst w3
       clear cat
       go_wp2
       go_roundw
       case rel => exact ⟨k + 1, M2, by omega, by simp, HO2.out, HG2.out, Nat.le_trans HML2.out HML.out, by rw [HEQ.out]; exact HNX.out⟩
       case measure => simp [intOf]; omega
      ·obtain ⟨q2, e9, hat, hql⟩ := Mf.atV_some hh
       rw [e9] at cat
       obtain ⟨g, c, rfl, hc1, hc2, hgl, hcell⟩ := hO2.some (by omega)
       have hq2 : (0 : Int) ≤ ((q2 : Nat) : Int) := by omega
       have hm9 : M2.length ≤ 1000000000000 := by have := HL.out; have := HML.out; omega
       obtain ⟨q1, hq1⟩ : ∃ q1, q1 = q2 + 1 := ⟨_, rfl⟩
       have hwr : IntKind.i64.wrap (((q2 : Nat) : Int) + 1) = ((q1 : Nat) : Int) := by rw [IntKind.wrap_i64]; omega
       have HCUT : Hid (Mf.wo (M2.take q2 ++ M2.drop q1) d = Mf.wo M d) := Lib.hid (by rw [hq1, Mf.wo_cut hat, hwo])
       have HCL : Hid ((M2.take q2 ++ M2.drop q1).length + 1 = M2.length) := Lib.hid (by rw [hq1]; exact Mf.cut_len hql)
       have HNM : Hid ((M2.take q2).length ≤ 1000000000000 ∧ (M2.drop q1).length ≤ 400000000000 ∨ (M2.take q2).length + (M2.drop q1).length ≤ 1000000000000) := Lib.hid (.inr (by rw [List.length_take, List.length_drop]; omega))
       have HCW : Hid (∀ W, Below wr.heap.size wr W → ∀ i j x, M2[i]? = some x → j < 8 → W.cell? ⟨g, i * 8 + j, none⟩ = (Mf.pc x)[j]?) := Lib.hid fun W hW i j x hi hj => (hW.cell (p := ⟨g, i * 8 + j, none⟩) hgl).trans (hcell i j x hi hj)
       have HSA : Hid (∀ W, Below wr.heap.size wr W → Dk.Src Mf.pc W (.slice (some ⟨g, 0, none⟩) q2 c) (M2.take q2)) := Lib.hid fun W hW => Dk.src_take Mf.pc_len (by decide) (HCW.out W hW) (by omega) c
       obtain ⟨oz, hoz, HSC2⟩ : ∃ oz, ((c = q1 ∧ oz = 0) ∨ (¬ c = q1 ∧ oz = q1 * 8)) ∧ Hid (∀ W, Below wr.heap.size wr W → ∀ m c, m = M2.length - q1 → Dk.Src Mf.pc W (.slice (some ⟨g, oz, none⟩) m c) (M2.drop q1)) := by
        by_cases hcq : c = q1
        ·exact ⟨0, .inl ⟨hcq, rfl⟩, Lib.hid fun W hW m c hm => Dk.src_none g 0 c m (List.drop_of_length_le (by omega)) (by omega)⟩
        ·exact ⟨q1 * 8, .inr ⟨hcq, rfl⟩, Lib.hid fun W hW m c hm => by rw [hm]; exact Dk.src_drop Mf.pc_len (by decide) rfl (HCW.out W hW) c⟩
       have HZ : Hid (∀ W, Below wr.heap.size wr W → W.cell? ⟨w.heap.size + 1, 0, none⟩ = some (.slice (some ⟨b, o, none⟩) D.length cd)) := Lib.hid fun W hW => (HEA.out.kept (HG2.out.trans (hW.mono HG2.out.size))).c0
       have HD0 : Hid (Below wr.heap.size wr wr.drew) := Lib.hid (Kn.below_drewN (Below.refl _ _) 1)
       have dq1 : ((q1 : Nat) : Int) ≤ (M2.length : Int) := by omega
       have dq2 : ((q2 : Nat) : Int) ≤ (c : Int) := by omega
       have dq3 : (M2.length : Int) ≤ (c : Int) := by omega
       have dq4 : ((q1 : Nat) : Int) ≤ (c : Int) := by omega
       have dq5 : (0 : Int) ≤ ((q1 : Nat) : Int) := by omega
       have dq6 : ¬ c = 0 := by omega
       have HMS : Hid (wc.heap.size ≤ wr.heap.size) := Lib.hid HG2.out.size
       clear hh e9 hat hcell hgl hO2 hg2 hml2 hwo HCW hq1 hm9 hc1 hc2 hql
       go_wp2_with fail
       with_reducible refine cat.mono ?_
       rintro e w3 ⟨rfl, h9⟩
       subst w3
       go_wp2_with fail
       with_reducible refine cat.mono ?_
       rintro e w3 ⟨rfl, h9⟩
       subst w3
       clear cat c0
       go_wp2_with fail
       generalize hK1 : M2.take q2 = K1 at HSA HNM HCUT HCL
       generalize hK3 : M2.drop q1 = K3 at HSC2 HNM HCUT HCL
       clear hK1 hK3
       rcases hoz with ⟨rfl, rfl⟩ | ⟨hcq, rfl⟩
       all_goals
        go_region_held3 (fun W => W.cell? ⟨w.heap.size + 1, 0, none⟩ = some (.slice (some ⟨b, o, none⟩) D.length cd))
         (first
          | exact HZ.out _ HD0.out
          | exact HZ.out _ B2.out
          | exact HZ.out _ B1.out)
         (first
          | (refine Mf.step_part (base := wr.heap.size) (M := [] ++ K1) K3 B1.out.size O1.out (by have := HNM.out; simp only [List.nil_append]; omega) _ _ _ (by rfl) (by rfl) (by rfl) (by rfl) (HSC2.out _ B1.out _ _ (by first | rfl | omega | simp)) ?_
             intro v2 wv2 o2 g2
             have B2 := Lib.hid (Mf.ow_below B1.out B1.out.size O1.out g2)
             have O2 := Lib.hid o2
             clear o2 g2)
          | (refine Mf.step_part (base := wr.heap.size) (M := []) K1 (show wr.heap.size ≤ wr.drew.heap.size from Nat.le_refl _) (Mf.Ow.nil _ _) (by have := HNM.out; simp only [List.length_nil]; omega) _ _ _ (by rfl) (by rfl) (by rfl) (by rfl) (HSA.out _ HD0.out) ?_
             intro v1 wv1 o1 g1
             have b1 := Mf.ow_below HD0.out (Nat.le_refl wr.heap.size) (Mf.Ow.nil wr.heap.size wr.drew) g1
             have B1 := Lib.hid b1
             have O1 := Lib.hid o1
             clear o1 g1 b1))
       all_goals
        have HO3 : Hid (Mf.Ow wc.heap.size wv2 v2 (K1 ++ K3)) := Lib.hid (World.ownsRow.mono O2.out HMS.out)
        have HG3 := Lib.hid (HG2.out.trans (B2.out.mono HG2.out.size))
        clear B1 O1 B2 O2
        go_wp2
        go_roundw
        case rel => exact ⟨_, HO3.out, HG3.out, by have := HCL.out; have := HML2.out; omega, HCUT.out⟩
        case measure => (have := HCL.out; rw [HO3.out.len]; show _ < M2.length; omega)
   ·obtain rfl : k = D.length := by omega
    have hki : ¬ (D.length : Int) < (D.length : Int) := by omega
    have HDM : Hid (Mf.dr L D = some M) := Lib.hid (by rw [← hdr, Mf.dr_end (by omega)])
    have hal9 := HDL.out.2
    have HPA2 := Lib.hid fun (W : World) (g : Below wc.heap.size wc W) (i : Nat) (p : Mf.P) (hp : A[i]? = some p) => (HPA.out.kept g).at_ hp
    clear hk hkl hk0 hdr hml hO hg HDR hdl9
    go_wp2_with fail
    clear e0 e1 e2 e3 hki
    have HOM := Lib.hid HO.out
    have HGM := Lib.hid HG.out
    go_loopw [6, 9] (fun v i wr => ∃ (k : Nat) (M2 : List Mf.P), k ≤ A.length ∧ i = .int .i64 k ∧ Mf.Ow wc.heap.size wr v M2 ∧ Below wc.heap.size wc wr ∧ M2.length ≤ L.length + k ∧ Mf.ad nx M2 (A.drop k) = Mf.ad nx M A) (fun _ i _ => A.length - (intOf i).toNat)
    case atStart => exact ⟨0, M, Nat.zero_le _, rfl, HOM.out, HGM.out, Nat.le_trans HML.out (Nat.le_add_right _ _), rfl⟩
    case round =>
     obtain ⟨k, M2, hk, rfl, hO, hg, hml, had⟩ := hrel
     have hk0 : (0 : Int) ≤ (k : Int) := by omega
     have HO := Lib.hid hO
     have HG := Lib.hid hg
     have HML2 := Lib.hid hml
     have HAD := Lib.hid had
     obtain ⟨e0, e1, e2, e3⟩ := HEA.out.kept hg
     by_cases hkl : k < A.length
     ·have hx := List.getElem?_eq_getElem hkl
      generalize A[k] = p at hx
      obtain ⟨b, o, rfl, hpa⟩ := HPA2.out wr hg k p hx
      have HPP := Lib.hid hpa
      have HPNW := Lib.hid fun (W : World) => Mf.PA.new W p 45
      obtain ⟨p0, p1, p2, p3, p4, p5, p6, p7⟩ := hpa
      have HST := Lib.hid (Mf.ad_step (n := nx) (L := M2) hx)
      have hki : (k : Int) < (A.length : Int) := by omega
      have HBD := Lib.hid fun (h : nx ≤ p.id ∨ Mf.has M2 p.id = true) => HBAD.out (by
       have e : Mf.ad nx M A = none := by rw [← HAD.out, HST.out, if_pos h]
       simp only [HRES.out, HDM.out, e])
      have HNX : Hid (¬ (nx ≤ p.id ∨ Mf.has M2 p.id = true) → Mf.ad nx (M2 ++ [p]) (A.drop (k + 1)) = Mf.ad nx M A) := Lib.hid fun h => by rw [← HAD.out, HST.out, if_neg h]
      have hm9 : M2.length ≤ 1000000001000 := by have := HL.out; have := HML2.out; have := HN.out; omega
      have CA := Lib.hid fun (W : World) (g : Below wr.heap.size wr W) => Mf.rat_c _ M2 p.id W (hO.ps.kept g) (by omega)
      have E1 := fun d os => cell_regrown e1 d os
      have E3 := fun d os => cell_regrown e3 d os
      have P0 := fun d os => cell_regrown p0 d os
      have HHAS : Hid ((Mf.has M2 p.id = false ∧ Mf.atV M2 p.id = -1) ∨ (Mf.has M2 p.id = true ∧ 0 ≤ Mf.atV M2 p.id)) := Lib.hid (by
       cases hh : Mf.has M2 p.id
       ·exact .inl ⟨rfl, Mf.atV_no hh⟩
       ·obtain ⟨q, e9, _⟩ := Mf.atV_some hh
        exact .inr ⟨rfl, by rw [e9]; omega⟩)
      have HM9 := Lib.hid hm9
      have CAR : Hid (∀ q : Regrown, Calls Tryd.prog 25 _ (Sort.grow (redrawn wr q.d) q.os) fun e w'' => e = .returned (.int .i64 (Mf.atV M2 p.id)) ∧ ∃ p : Regrown, w'' = Sort.grow (redrawn wr p.d) p.os) := Lib.hid fun q => Calls.regrown_of ((CA.out _ (below_regrown wr q.d q.os)).mono fun _ _ h => ⟨h.1, by rw [h.2]; exact Below.refl _ _⟩)
      obtain ⟨id, lv, ⟨an, ai, sa⟩, ⟨bn, bi, sb⟩⟩ := p
      unfold Mf.cs at HPNW
      simp only at p0 p1 p2 p3 p4 p5 p6 p7 HST HBD HNX CAR P0 HHAS HPNW HPP
      generalize Mf.atV M2 id = AV at CAR HHAS
      generalize Mf.has M2 id = HH at HBD HNX HHAS
      clear hx hg hml had hO hm9 CA HST
      by_cases hni : nx ≤ id
      ·have HF := Lib.hid (HBD.out (.inl hni))
       have hd1 : decide (nx ≤ id) = true := decide_eq_true hni
       go_wp2_with fail
       clear p0 p1 p2 p3 p4 p5 p6 p7 e0 e1 e2 e3
       refine wp_region_quiet_below (by kernel_rfl) (by kernel_rfl) ?_
       repeat (go_big_quiet_step (fail))
       refine wpQuiet_nil ?_
       intro wq hw'
       have hq := Mf.below_reg2 hw'
       have HFF := Lib.hid (HF.out wq (HG.out.trans (hq.mono HG.out.size)))
       obtain ⟨⟨y0, y1, y2⟩, z0, z1, z2⟩ := Mf.three (((HG.out.trans (hq.mono HG.out.size)).block (w.heap.size + 2) (by have := HSC.out; omega)).trans HYR.out)
       clear hw' hq E1 E3 P0
       go_wp2
       (try simp only [Exit.inBlock, Exit.then])
       refine bodyPost_ret (v := .tuple #[.agg #[.slice none 0 0, .int .i64 0, .int .i64 0], .int .i64 8]) ?_ rfl HFF.out
       rw [results_cell_tmp rfl]
       go_simp
      ·have hd1 : decide (nx ≤ id) = false := decide_eq_false hni
       rcases HHAS.out with ⟨rfl, rfl⟩ | ⟨rfl, hav⟩
       ·have HNY := Lib.hid (HNX.out (by rintro (h | h); exact hni h; cases h))
        go_wp2_with fail
        clear p0 p1 p2 p3 p4 p5 p6 p7 e0 e1 e2 e3
        refine wp_region_quiet_below (by kernel_rfl) (by kernel_rfl) ?_
        repeat (go_big_quiet_step (first | with_reducible exact CAR.out _))
        refine wpQuiet_nil ?_
        intro wq hw'
        have hq := Mf.below_reg2 hw'
        have hgq := HG.out.trans (hq.mono HG.out.size)
        have HGQ := Lib.hid hgq
        have HOQ := Lib.hid (HO.out.kept hq)
        obtain ⟨e0, e1, e2, e3⟩ := HEA.out.kept hgq
        obtain ⟨p0, p1, p2, p3, p4, p5, p6, p7⟩ := HPP.out.kept hq
        have hsq : wc.heap.size ≤ (wq.alloc (.cells #[.int .i64 id, .int .i64 lv, .bool an, .int .i64 ai, .string sa, .bool bn, .int .i64 bi, .string sb] 45)).heap.size := by have := hgq.size; rw [World.size_alloc]; omega
        clear hw' hq E1 E3 P0 hgq
        go_wp2_with (at_builtin; refine Mf.wpList_part [⟨id, lv, ⟨an, ai, sa⟩, ⟨bn, bi, sb⟩⟩] (World.ownsRow.alloc HOQ.out _) hsq (by have := HM9.out; simp only [List.length_singleton]; omega) (Mf.src_cs (HPNW.out wq)) (.tmp 100) (.tmp 106) (by rfl) (by rfl) (by rfl) (by rfl) ?_; intro v6 w6 o6 g6)
        have HO6 : Hid (Mf.Ow wc.heap.size w6 v6 (M2 ++ [⟨id, lv, ⟨an, ai, sa⟩, ⟨bn, bi, sb⟩⟩])) := Lib.hid o6
        have HG6 := Lib.hid (Mf.ow_below (HGQ.out.alloc HGQ.out.size _) hsq (World.ownsRow.alloc HOQ.out _) g6)
        clear o6 g6 hsq
        go_roundw
        case rel => exact ⟨k + 1, _, by omega, by simp, HO6.out, HG6.out, by have := HML2.out; rw [List.length_append, List.length_singleton]; omega, HNY.out⟩
        case measure => simp [intOf]; omega
       ·have HF := Lib.hid (HBD.out (.inr rfl))
        have hd2 : decide ((0 : Int) ≤ AV) = true := decide_eq_true hav
        go_wp2_with fail
        clear p0 p1 p2 p3 p4 p5 p6 p7 e0 e1 e2 e3
        refine wp_region_quiet_below (by kernel_rfl) (by kernel_rfl) ?_
        repeat (go_big_quiet_step (first | with_reducible exact CAR.out _))
        refine wpQuiet_nil ?_
        intro wq hw'
        have hq := Mf.below_reg2 hw'
        have HFF := Lib.hid (HF.out wq (HG.out.trans (hq.mono HG.out.size)))
        obtain ⟨⟨y0, y1, y2⟩, z0, z1, z2⟩ := Mf.three (((HG.out.trans (hq.mono HG.out.size)).block (w.heap.size + 2) (by have := HSC.out; omega)).trans HYR.out)
        clear hw' hq E1 E3 P0
        go_wp2
        (try simp only [Exit.inBlock, Exit.then])
        refine bodyPost_ret (v := .tuple #[.agg #[.slice none 0 0, .int .i64 0, .int .i64 0], .int .i64 8]) ?_ rfl HFF.out
        rw [results_cell_tmp rfl]
        go_simp
     ·obtain rfl : k = A.length := by omega
      have hki : ¬ (A.length : Int) < (A.length : Int) := by omega
      have HRS : Hid (RES = some ⟨M2, fl, nx⟩) := Lib.hid (by
       have e : Mf.ad nx M A = some M2 := by rw [← HAD.out, Mf.ad_end (by omega)]
       simp only [HRES.out, HDM.out, e])
      have hyr := (hg.block (w.heap.size + 2) (by have := HSC.out; omega)).trans HYR.out
      obtain ⟨⟨y0, y1, y2⟩, z0, z1, z2⟩ := Mf.three hyr
      have hps := hO.ps
      obtain ⟨a9, c9, rfl, -⟩ := hps.form
      have HPF : Hid (Mf.Ow w.heap.size (((wr.setCell ⟨w.heap.size + 2, 0, none⟩ (.slice a9 M2.length c9)).setCell ⟨w.heap.size + 2, 1, none⟩ (.int .i64 fl)).setCell ⟨w.heap.size + 2, 2, none⟩ (.int .i64 nx)) (.slice a9 M2.length c9) M2) := Lib.hid (World.ownsRow.mono (Mf.at_off hO hyr (by decide) (Mf.heap3 _ _ _ _ _)) HB.out.size)
      have HBF := Lib.hid (Mf.below3 (q := w.heap.size + 2) (HB.out.trans (hg.mono HB.out.size)) (by omega) (.slice a9 M2.length c9) (.int .i64 fl) (.int .i64 nx))
      have HFF := Lib.hid (Mf.GotS.good HRS.out HPF.out HBF.out)
      clear hk hkl hk0 had hml hO hg hps hyr
      go_wp2
      (try simp only [Exit.inBlock, Exit.then])
      refine bodyPost_ret (v := .tuple #[.agg #[.slice a9 M2.length c9, .int .i64 fl, .int .i64 nx], .int .i64 0]) ?_ rfl HFF.out
      rw [results_cell_tmp rfl]
      go_simp
end
section
open Go Go.RowKit
theorem Mf.wV_form (e : Mf.E) : ∃ T n, Mf.wV e = .tuple #[.string T, .int .i64 n] := by
 unfold Mf.wV
 split
 ·exact ⟨_, _, rfl⟩
 ·exact ⟨_, _, rfl⟩
theorem Mf.st_len {s : Mf.S} {e : Mf.E} : (Mf.st (Mf.ap s e)).parts.length ≤ s.parts.length + 1000 := by
 cases h : Mf.ap s e with
 | none => exact Nat.zero_le _
 | some t => exact Mf.ap_len h
set_option maxHeartbeats 4000000 in
set_option maxRecDepth 100000 in
theorem Mf.writes_w (vs vd va : Value) (s : Mf.S) (e : Mf.E) (w : World) (hT : Ty.Tabs w) (hs : Mf.Ps w vs s.parts) (hd : Mf.Is w vd e.drop) (ha : Mf.Ps w va e.add) (hi : ∀ p ∈ e.add, p.i64) (hk : ∀ p ∈ s.parts, Ty.I64 p.id) (hl : s.parts.length ≤ 999999998000) :
 Calls Tryd.prog 3 #[Mf.sv vs s, .agg #[vd, va, .int .i64 e.floor, .int .i64 e.next]] w fun r w' => r = .returned (.bool true) ∧ Below w.heap.size w w' := by
 obtain ⟨T, n, hTN⟩ := Mf.wV_form e
 have hle := Mf.st_len (s := s) (e := e)
 have CW := Lib.hid fun (W : World) (g : Below w.heap.size w W) => Mf.write_c vd va e W (hT.below g (Ty.Tabs.two hT)) (hd.kept g) (ha.kept g) hi
 have CR := Lib.hid fun (W : World) (g : Below w.heap.size w W) => Mf.rwrite_c vd va e W (hd.kept g) (ha.kept g) hi
 have CA := Lib.hid fun (W : World) (g : Below w.heap.size w W) => Mf.apply_c vs vd va s e W (hs.kept g) (hd.kept g) (ha.kept g) hk hl
 have CB := Lib.hid fun (W : World) (g : Below w.heap.size w W) => Mf.rapply_c vs vd va s e W (hs.kept g) (hd.kept g) (ha.kept g) (by omega)
 rw [hTN] at CW CR
 generalize Mf.ap s e = r at CA CB hle
 obtain ⟨L, f0, n0⟩ := s
 obtain ⟨D, A, fl, nx⟩ := e
 unfold Mf.sv at CA CB ⊢
 unfold Mf.GotS at CA CB
 simp only at CW CR CA CB hl hle ⊢
 have HLE := Lib.hid hle
 have HL := Lib.hid hl
 obtain ⟨wa, hwa⟩ : ∃ wa, wa = w.alloc (.cells #[vs, .int .i64 f0, .int .i64 n0] 24) := ⟨_, rfl⟩
 obtain ⟨wb, hwb⟩ : ∃ wb, wb = wa.alloc (.cells #[vd, va, .int .i64 fl, .int .i64 nx] 27) := ⟨_, rfl⟩
 have ga : Below w.heap.size w wa := by rw [hwa]; exact (Below.refl _ _).alloc (Nat.le_refl _) _
 have gb : Below wa.heap.size wa wb := by rw [hwb]; exact (Below.refl _ _).alloc (Nat.le_refl _) _
 have sa : wa.heap.size = w.heap.size + 1 := by rw [hwa]; exact World.size_alloc ..
 have hSA : Mf.SA wb w.heap.size vs f0 n0 := by
  have := Mf.SA.new w vs f0 n0 24
  rw [← hwa] at this
  exact this.kept gb
 have hEA : Mf.EA wb (w.heap.size + 1) vd va fl nx := by
  have := Mf.EA.new wa vd va fl nx 27
  rwa [← hwb, sa] at this
 have HSA := Lib.hid hSA
 have HEA := Lib.hid hEA
 have HB := Lib.hid (ga.trans (gb.mono ga.size))
 clear hT hs hd ha hi hk hl hle hTN ga gb hSA hEA
 go_enter Tryd.func3, Tryd.ntmps3
 go_wp2_with fail
 rw [← hwa]
 rw [← hwb]
 clear hwa hwb
 with_reducible refine (Mf.lives_c wb).mono ?_
 rintro e w1 ⟨rfl, g1⟩
 have G1 := Lib.hid g1
 have B1 := Lib.hid (HB.out.trans (g1.mono HB.out.size))
 obtain ⟨e0, e1, e2, e3⟩ := HEA.out.kept g1
 clear g1
 go_wp2_with fail
 with_reducible refine (CW.out w1 B1.out).mono ?_
 rintro e w2 ⟨rfl, g2⟩
 have G2 := Lib.hid (G1.out.trans (g2.mono G1.out.size))
 have B2 := Lib.hid (B1.out.trans (g2.mono B1.out.size))
 clear e0 e1 e2 e3 g2
 obtain ⟨e0, e1, e2, e3⟩ := HEA.out.kept G2.out
 go_wp2_with fail
 with_reducible refine (CR.out w2 B2.out).mono ?_
 rintro e w3 ⟨rfl, g3⟩
 have G3 := Lib.hid (G2.out.trans (g3.mono G2.out.size))
 have B3 := Lib.hid (B2.out.trans (g3.mono B2.out.size))
 clear e0 e1 e2 e3 g3
 obtain ⟨e0, e1, e2, e3⟩ := HEA.out.kept G3.out
 obtain ⟨s0, s1, s2⟩ := HSA.out.kept G3.out
 go_wp2_with fail
 with_reducible refine (CA.out w3 B3.out).mono ?_
 rintro e w4 ⟨u1, rfl, hu1, g4⟩
 obtain ⟨ua, uc, rfl⟩ := hu1.ps.len_le
 have HU1 := Lib.hid hu1.ps
 have G4 := Lib.hid (G3.out.trans (g4.mono G3.out.size))
 have B4 := Lib.hid (B3.out.trans (g4.mono B3.out.size))
 clear e0 e1 e2 e3 s0 s1 s2 g4 hu1
 generalize Mf.er r = ER at CB ⊢
 generalize Mf.st r = R at CB HLE HU1 ⊢
 obtain ⟨RP, RF, RN⟩ := R
 simp only at CB HLE HU1 ⊢
 obtain ⟨w5, hw5⟩ : ∃ w5, w5 = w4.alloc (.cells #[.slice ua RP.length uc, .int .i64 RF, .int .i64 RN] 24) := ⟨_, rfl⟩
 have g5 : Below w4.heap.size w4 w5 := by rw [hw5]; exact (Below.refl _ _).alloc (Nat.le_refl _) _
 have hT5 : Mf.SA w5 w4.heap.size (.slice ua RP.length uc) RF RN := by
  have := Mf.SA.new w4 (.slice ua RP.length uc) RF RN 24
  rwa [← hw5] at this
 have HT5 := Lib.hid hT5
 have HU5 := Lib.hid (HU1.out.kept g5)
 have G5 := Lib.hid (G4.out.trans (g5.mono G4.out.size))
 have B5 := Lib.hid (B4.out.trans (g5.mono B4.out.size))
 obtain ⟨e0, e1, e2, e3⟩ := HEA.out.kept G4.out
 obtain ⟨s0, s1, s2⟩ := HSA.out.kept G4.out
 obtain ⟨f0', f1', f2', f3'⟩ := HEA.out.kept G5.out
 obtain ⟨s0', s1', s2'⟩ := HSA.out.kept G5.out
 rw [hw5] at f0' f1' f2' f3' s0' s1' s2'
 clear hT5 g5
 go_wp2_with fail
 rw [← hw5]
 clear hw5 f0' f1' f2' f3' s0' s1' s2' e0 e1 e2 e3 s0 s1 s2
 with_reducible refine (CB.out w5 B5.out).mono ?_
 rintro e w6 ⟨u2, rfl, hu2, g6⟩
 obtain ⟨ub, ud, rfl⟩ := hu2.ps.len_le
 have HU2 := Lib.hid hu2.ps
 have HU6 := Lib.hid (HU5.out.kept g6)
 have B6 := Lib.hid (B5.out.trans (g6.mono B5.out.size))
 have HT6 := Lib.hid (HT5.out.kept g6)
 clear hu2 g6
 obtain ⟨w7, hw7⟩ : ∃ w7, w7 = w6.alloc (.cells #[.slice ub RP.length ud, .int .i64 RF, .int .i64 RN] 24) := ⟨_, rfl⟩
 have g7 : Below w6.heap.size w6 w7 := by rw [hw7]; exact (Below.refl _ _).alloc (Nat.le_refl _) _
 have CS := Mf.rsame_c _ _ ⟨RP, RF, RN⟩ w7 (HU6.out.kept g7) (HU2.out.kept g7) (by have := HLE.out; have := HL.out; show RP.length ≤ _; omega)
 unfold Mf.sv at CS
 simp only at CS
 have B7 := Lib.hid (B6.out.trans (g7.mono B6.out.size))
 obtain ⟨c0, c1, c2⟩ := HT6.out.kept g7
 rw [hw7] at c0 c1 c2
 clear g7
 go_wp2_with fail
 rw [← hw7]
 clear hw7 c0 c1 c2
 with_reducible refine CS.mono ?_
 rintro e w8 ⟨rfl, g8⟩
 have B8 := Lib.hid (B7.out.trans (g8.mono B7.out.size))
 clear g8 CS
 go_wp2
 go_ret
 exact ⟨rfl, B8.out⟩
end
section
open Go.RowKit Go.ChangeShapes Go.WideShapes Go.ChangeAt Go.Deep
section
variable {H : Type} {enc : TypeId × Value → H} {W : World}
theorem Mf.bulk_pos (d : DataW H) : 1 ≤ Rows.uptoBulk d := by
 unfold Rows.uptoBulk
 split <;> omega
theorem Mf.bulk_all : ∀ ds : List (DataW H), ds.length ≤ Rows.uptoBulkAll ds
 | [] => by simp [Rows.uptoBulkAll]
 | d :: ds => by
   have h1 := Mf.bulk_pos d
   have h2 := Mf.bulk_all ds
   simp only [Rows.uptoBulkAll, List.length_cons]
   omega
theorem Mf.heap_of_cell {w : World} {b o : Nat} {v : Value} (h : w.cell? ⟨b, o, none⟩ = some v) : ∃ (cs : Array Value) (fr : TypeId × (Nat × Nat)), w.heap[b]? = some (.cells cs fr.1 fr.2) := by
 unfold World.cell? at h
 cases hb : w.heap[b]? with
 | none => simp [hb] at h
 | some x =>
   cases x with
   | cells cs t f => exact ⟨cs, (t, f), rfl⟩
   | _ => simp [hb] at h
set_option maxRecDepth 100000 in
theorem Mf.open_sl {α : Type} {T e : TypeId} {k : Nat} {en : α → List Value} {Q : α → Prop} (hT : Tryd.prog.underlying T = some (.slice e)) (hC : Tryd.prog.cellsOf e = k) (hk : 0 < k) (hlen : ∀ x, (en x).length = k) (d0 : α)
 (hop : ∀ {fuel : Nat} {cs : List Value} {z : DataW H × List MemPlace}, DataW.trod enc Tryd.prog W 0 (fun _ => true) true fuel e cs = some z → ∃ x, cs = en x ∧ Q x)
 {fuel : Nat} {c1 : Value} {z : DataW H × List MemPlace} (h : DataW.trod enc Tryd.prog W 0 (fun _ => true) true fuel T [c1] = some z) :
 ∃ L : List α, Mf.At k en W c1 L ∧ (∀ x ∈ L, Q x) ∧ L.length + 1 ≤ Rows.uptoBulk z.1 := by
 rcases open_slice hT h with ⟨hcs, hx⟩ | ⟨a, len, cap, m, n, D, Pl, hcs, _, hl, hm, hmm, hx, hi⟩
 ·obtain rfl : c1 = .slice none 0 0 := by simpa using hcs
  exact ⟨[], Mf.At.nil _, (fun x hx => nomatch hx), Mf.bulk_pos _⟩
 ·obtain rfl : c1 = .slice (some a) len cap := by simpa using hcs
  simp only [if_true] at hmm
  have hz1 : z.1 = .slice ((List.range len).map D) ((List.range (m - len)).map fun j => D (len + j)) := by rw [hx]
  have hbk : len + 1 ≤ Rows.uptoBulk z.1 := by
   rw [hz1]
   have := Mf.bulk_all ((List.range len).map D)
   simp only [List.length_map, List.length_range] at this
   simp only [Rows.uptoBulk]
   omega
  by_cases hz : len = 0
  ·subst hz
   exact ⟨[], ⟨some a, cap, rfl, Nat.zero_le _, .inl ⟨rfl, fun e => nomatch e⟩⟩, (fun x hx => nomatch hx), hbk⟩
  ·rw [hC] at hi
   have hone : ∀ i, i < len → ∃ x, (∀ j, j < k → W.cell? (a.add (i * k + j)) = (en x)[j]?) ∧ Q x := fun i hil => by
    obtain ⟨cs', hc, ht⟩ := hi i (by omega)
    obtain ⟨x, rfl, hq⟩ := hop ht
    obtain ⟨hcl, _, hat⟩ := World.cells?_some hc
    refine ⟨x, fun j hj => ?_, hq⟩
    have aj := hat j hj
    rw [add_add] at aj
    exact aj
   have hsome : ∃ v, W.cell? (a.add 0) = some v := by
    obtain ⟨x, h0, _⟩ := hone 0 (by omega)
    have := h0 0 hk
    rw [List.getElem?_eq_getElem (by rw [hlen]; exact hk)] at this
    rw [Nat.zero_mul, Nat.zero_add] at this
    exact ⟨_, this⟩
   obtain ⟨v0, hv0⟩ := hsome
   obtain ⟨b, off, spot⟩ := a
   have hspot : spot = none := by simpa [Addr.add] using World.cell?_spot hv0
   subst hspot
   rw [add_plain] at hv0
   obtain ⟨hcs0, hfr, hheap⟩ := Mf.heap_of_cell hv0
   have hch : ∃ f : Nat → α, ∀ i, i < len → (∀ j, j < k → W.cell? ⟨b, off + i * k + j, none⟩ = (en (f i))[j]?) ∧ Q (f i) := by
    have hone' : ∀ i, i < len → ∃ x, (∀ j, j < k → W.cell? ⟨b, off + i * k + j, none⟩ = (en x)[j]?) ∧ Q x := fun i hil => by
     obtain ⟨x, h1, h2⟩ := hone i hil
     refine ⟨x, fun j hj => ?_, h2⟩
     have := h1 j hj
     rw [add_plain, ← Nat.add_assoc] at this
     exact this
    refine ⟨fun i => if hil : i < len then (hone' i hil).choose else d0, fun i hil => ?_⟩
    have hs := (hone' i hil).choose_spec
    simp only [dif_pos hil]
    exact hs
   obtain ⟨f, hf'⟩ := hch
   have hlen2 : ((List.range len).map f).length = len := by simp
   refine ⟨(List.range len).map f, ⟨some ⟨b, off, none⟩, cap, by rw [hlen2], by rw [hlen2]; exact hl, .inr ⟨b, off, hcs0, hfr, rfl, trivial, hheap, fun i j x hix hj => ?_⟩⟩, fun x hx => ?_, by rw [hlen2]; exact hbk⟩
   ·rw [List.getElem?_map, Option.map_eq_some_iff] at hix
    obtain ⟨i', hi', rfl⟩ := hix
    obtain ⟨hil, rfl⟩ := List.getElem?_eq_some_iff.1 hi'
    rw [List.getElem_range]
    rw [List.length_range] at hil
    exact (hf' i hil).1 j hj
   ·obtain ⟨i, hi, rfl⟩ := List.mem_map.1 hx
    exact (hf' i (List.mem_range.1 hi)).2
theorem Mf.open_int {fuel : Nat} {cs : List Value} {z : DataW H × List MemPlace} (h : DataW.trod enc Tryd.prog W 0 (fun _ => true) true fuel 3 cs = some z) : ∃ x : Int, cs = Mf.ic x ∧ Ty.I64 x := by
 obtain ⟨n, e1, r1, w1⟩ := DataW.trod_int Tryd.underlying3 h
 exact ⟨n, e1, bounds_i64 w1⟩
set_option maxRecDepth 100000 in
theorem Mf.open_value {fuel : Nat} {cs : List Value} {z : DataW H × List MemPlace} (h : DataW.trod enc Tryd.prog W 0 (fun _ => true) true fuel 43 cs = some z) :
 ∃ x : Kn.V, cs = [.bool x.null, .int .i64 x.n, .string x.s] ∧ Ty.I64 x.n := by
 obtain ⟨xs, f', _, hx, hcl, hxl, hg⟩ := DataW.trod_struct Tryd.underlying43 h
 have hC : Tryd.prog.cellsOf 43 = 3 := by kernel_rfl
 have i3 : Tryd.prog.cellsOf 4 = 1 := by kernel_rfl
 have i2 : Tryd.prog.cellsOf 2 = 1 := by kernel_rfl
 have i9 : Tryd.prog.cellsOf 9 = 1 := by kernel_rfl
 rw [hC] at hcl
 match cs, hcl, xs, hxl with
 | [c0, c1, c2], _, [y0, y1, y2], _ =>
   have g0 : DataW.trod enc Tryd.prog W 0 (fun _ => true) true f' 4 ((List.drop 0 [c0, c1, c2]).take (Tryd.prog.cellsOf 4)) = some y0 := hg 0 _ rfl
   have g1 : DataW.trod enc Tryd.prog W 0 (fun _ => true) true f' 2 ((List.drop 1 [c0, c1, c2]).take (Tryd.prog.cellsOf 2)) = some y1 := hg 1 _ rfl
   have g2 : DataW.trod enc Tryd.prog W 0 (fun _ => true) true f' 9 ((List.drop 2 [c0, c1, c2]).take (Tryd.prog.cellsOf 9)) = some y2 := hg 2 _ rfl
   rw [i3] at g0
   rw [i2] at g1
   rw [i9] at g2
   obtain ⟨k, e0, r0⟩ := DataW.trod_bool Tryd.underlying4 (show DataW.trod enc Tryd.prog W 0 (fun _ => true) true f' 4 [c0] = some y0 from g0)
   obtain ⟨n, e1, r1, w1⟩ := DataW.trod_int Tryd.underlying2 (show DataW.trod enc Tryd.prog W 0 (fun _ => true) true f' 2 [c1] = some y1 from g1)
   obtain ⟨s, e2, r2, _⟩ := DataW.trod_string Tryd.underlying9 (show DataW.trod enc Tryd.prog W 0 (fun _ => true) true f' 9 [c2] = some y2 from g2)
   simp only [List.cons.injEq, and_true] at e0 e1 e2
   subst e0 e1 e2
   exact ⟨⟨k, n, s⟩, rfl, bounds_i64 w1⟩
set_option maxRecDepth 100000 in
theorem Mf.open_part {fuel : Nat} {cs : List Value} {z : DataW H × List MemPlace} (h : DataW.trod enc Tryd.prog W 0 (fun _ => true) true fuel 45 cs = some z) :
 ∃ p : Mf.P, cs = Mf.pc p ∧ ((Ty.I64 p.lo.n ∧ Ty.I64 p.hi.n) ∧ Ty.I64 p.id) := by
 obtain ⟨xs, f', _, hx, hcl, hxl, hg⟩ := DataW.trod_struct Tryd.underlying45 h
 have hC : Tryd.prog.cellsOf 45 = 8 := by kernel_rfl
 have i2 : Tryd.prog.cellsOf 3 = 1 := by kernel_rfl
 have i9 : Tryd.prog.cellsOf 43 = 3 := by kernel_rfl
 rw [hC] at hcl
 match cs, hcl, xs, hxl with
 | [c0, c1, c2, c3, c4, c5, c6, c7], _, [y0, y1, y2, y3], _ =>
   have g0 : DataW.trod enc Tryd.prog W 0 (fun _ => true) true f' 3 ((List.drop 0 [c0, c1, c2, c3, c4, c5, c6, c7]).take (Tryd.prog.cellsOf 3)) = some y0 := hg 0 _ rfl
   have g1 : DataW.trod enc Tryd.prog W 0 (fun _ => true) true f' 3 ((List.drop 1 [c0, c1, c2, c3, c4, c5, c6, c7]).take (Tryd.prog.cellsOf 3)) = some y1 := hg 1 _ rfl
   have g2 : DataW.trod enc Tryd.prog W 0 (fun _ => true) true f' 43 ((List.drop 2 [c0, c1, c2, c3, c4, c5, c6, c7]).take (Tryd.prog.cellsOf 43)) = some y2 := hg 2 _ rfl
   have g3 : DataW.trod enc Tryd.prog W 0 (fun _ => true) true f' 43 ((List.drop 5 [c0, c1, c2, c3, c4, c5, c6, c7]).take (Tryd.prog.cellsOf 43)) = some y3 := hg 3 _ rfl
   rw [i2] at g0 g1
   rw [i9] at g2 g3
   obtain ⟨x0, e0, w0⟩ := Mf.open_int (show DataW.trod enc Tryd.prog W 0 (fun _ => true) true f' 3 [c0] = some y0 from g0)
   obtain ⟨x1, e1, w1⟩ := Mf.open_int (show DataW.trod enc Tryd.prog W 0 (fun _ => true) true f' 3 [c1] = some y1 from g1)
   obtain ⟨x2, e2, w2⟩ := Mf.open_value (show DataW.trod enc Tryd.prog W 0 (fun _ => true) true f' 43 [c2, c3, c4] = some y2 from g2)
   obtain ⟨x3, e3, w3⟩ := Mf.open_value (show DataW.trod enc Tryd.prog W 0 (fun _ => true) true f' 43 [c5, c6, c7] = some y3 from g3)
   unfold Mf.ic at e0 e1
   simp only [List.cons.injEq, and_true] at e0 e1 e2 e3
   obtain ⟨rfl, rfl, rfl⟩ := e2
   obtain ⟨rfl, rfl, rfl⟩ := e3
   subst e0 e1
   exact ⟨⟨x0, x1, x2, x3⟩, rfl, ⟨w2, w3⟩, w0⟩
def Mf.ok9 (p : Mf.P) : Prop := (Ty.I64 p.lo.n ∧ Ty.I64 p.hi.n) ∧ Ty.I64 p.id
theorem Mf.open_parts {fuel : Nat} {c1 : Value} {z : DataW H × List MemPlace} (h : DataW.trod enc Tryd.prog W 0 (fun _ => true) true fuel 22 [c1] = some z) :
 ∃ L : List Mf.P, Mf.Ps W c1 L ∧ (∀ p ∈ L, Mf.ok9 p) ∧ L.length + 1 ≤ Rows.uptoBulk z.1 :=
 Mf.open_sl (Q := Mf.ok9) Tryd.underlying22 (by kernel_rfl) (by decide) Mf.pc_len ⟨0, 0, ⟨false, 0, ⟨#[]⟩⟩, ⟨false, 0, ⟨#[]⟩⟩⟩ (fun h => Mf.open_part h) h
theorem Mf.open_ints {fuel : Nat} {c1 : Value} {z : DataW H × List MemPlace} (h : DataW.trod enc Tryd.prog W 0 (fun _ => true) true fuel 25 [c1] = some z) :
 ∃ L : List Int, Mf.Is W c1 L := by
 obtain ⟨L, h1, _⟩ := Mf.open_sl (Q := Ty.I64) Tryd.underlying25 (by kernel_rfl) (by decide) Mf.ic_len (0 : Int) (fun h => Mf.open_int h) h
 exact ⟨L, h1⟩
set_option maxRecDepth 100000 in
theorem Mf.open_edit_cells {fuel : Nat} {cs : List Value} {z : DataW H × List MemPlace} (h : DataW.trod enc Tryd.prog W 0 (fun _ => true) true fuel 27 cs = some z) :
 ∃ (e : Mf.E) (vd va : Value), cs = [vd, va, .int .i64 e.floor, .int .i64 e.next] ∧ Mf.Is W vd e.drop ∧ Mf.Ps W va e.add ∧ ∀ p ∈ e.add, Mf.ok9 p := by
 obtain ⟨xs, f', _, hx, hcl, hxl, hg⟩ := DataW.trod_struct Tryd.underlying27 h
 have hC : Tryd.prog.cellsOf 27 = 4 := by kernel_rfl
 have i2 : Tryd.prog.cellsOf 3 = 1 := by kernel_rfl
 have i0 : Tryd.prog.cellsOf 25 = 1 := by kernel_rfl
 have i1 : Tryd.prog.cellsOf 22 = 1 := by kernel_rfl
 rw [hC] at hcl
 match cs, hcl, xs, hxl with
 | [c0, c1, c2, c3], _, [y0, y1, y2, y3], _ =>
   have g0 : DataW.trod enc Tryd.prog W 0 (fun _ => true) true f' 25 ((List.drop 0 [c0, c1, c2, c3]).take (Tryd.prog.cellsOf 25)) = some y0 := hg 0 _ rfl
   have g1 : DataW.trod enc Tryd.prog W 0 (fun _ => true) true f' 22 ((List.drop 1 [c0, c1, c2, c3]).take (Tryd.prog.cellsOf 22)) = some y1 := hg 1 _ rfl
   have g2 : DataW.trod enc Tryd.prog W 0 (fun _ => true) true f' 3 ((List.drop 2 [c0, c1, c2, c3]).take (Tryd.prog.cellsOf 3)) = some y2 := hg 2 _ rfl
   have g3 : DataW.trod enc Tryd.prog W 0 (fun _ => true) true f' 3 ((List.drop 3 [c0, c1, c2, c3]).take (Tryd.prog.cellsOf 3)) = some y3 := hg 3 _ rfl
   rw [i0] at g0
   rw [i1] at g1
   rw [i2] at g2 g3
   obtain ⟨D, hD⟩ := Mf.open_ints (show DataW.trod enc Tryd.prog W 0 (fun _ => true) true f' 25 [c0] = some y0 from g0)
   obtain ⟨A, hA, hA9, _⟩ := Mf.open_parts (show DataW.trod enc Tryd.prog W 0 (fun _ => true) true f' 22 [c1] = some y1 from g1)
   obtain ⟨x2, e2, _⟩ := Mf.open_int (show DataW.trod enc Tryd.prog W 0 (fun _ => true) true f' 3 [c2] = some y2 from g2)
   obtain ⟨x3, e3, _⟩ := Mf.open_int (show DataW.trod enc Tryd.prog W 0 (fun _ => true) true f' 3 [c3] = some y3 from g3)
   unfold Mf.ic at e2 e3
   simp only [List.cons.injEq, and_true] at e2 e3
   subst e2 e3
   exact ⟨⟨D, A, x2, x3⟩, c0, c1, rfl, hD, hA, hA9⟩
set_option maxRecDepth 100000 in
theorem Mf.open_state_cells {fuel : Nat} {cs : List Value} {z : DataW H × List MemPlace} (h : DataW.trod enc Tryd.prog W 0 (fun _ => true) true fuel 24 cs = some z) :
 ∃ (s : Mf.S) (v : Value), cs = [v, .int .i64 s.floor, .int .i64 s.next] ∧ Mf.Ps W v s.parts ∧ (∀ p ∈ s.parts, Mf.ok9 p) ∧ s.parts.length ≤ Rows.uptoBulk z.1 := by
 obtain ⟨xs, f', _, hx, hcl, hxl, hg⟩ := DataW.trod_struct Tryd.underlying24 h
 have hC : Tryd.prog.cellsOf 24 = 3 := by kernel_rfl
 have i2 : Tryd.prog.cellsOf 3 = 1 := by kernel_rfl
 have i1 : Tryd.prog.cellsOf 22 = 1 := by kernel_rfl
 rw [hC] at hcl
 match cs, hcl, xs, hxl with
 | [c0, c1, c2], _, [y0, y1, y2], _ =>
   have g0 : DataW.trod enc Tryd.prog W 0 (fun _ => true) true f' 22 ((List.drop 0 [c0, c1, c2]).take (Tryd.prog.cellsOf 22)) = some y0 := hg 0 _ rfl
   have g1 : DataW.trod enc Tryd.prog W 0 (fun _ => true) true f' 3 ((List.drop 1 [c0, c1, c2]).take (Tryd.prog.cellsOf 3)) = some y1 := hg 1 _ rfl
   have g2 : DataW.trod enc Tryd.prog W 0 (fun _ => true) true f' 3 ((List.drop 2 [c0, c1, c2]).take (Tryd.prog.cellsOf 3)) = some y2 := hg 2 _ rfl
   rw [i1] at g0
   rw [i2] at g1 g2
   obtain ⟨A, hA, hA9, hbk⟩ := Mf.open_parts (show DataW.trod enc Tryd.prog W 0 (fun _ => true) true f' 22 [c0] = some y0 from g0)
   obtain ⟨x1, e1, _⟩ := Mf.open_int (show DataW.trod enc Tryd.prog W 0 (fun _ => true) true f' 3 [c1] = some y1 from g1)
   obtain ⟨x2, e2, _⟩ := Mf.open_int (show DataW.trod enc Tryd.prog W 0 (fun _ => true) true f' 3 [c2] = some y2 from g2)
   unfold Mf.ic at e1 e2
   simp only [List.cons.injEq, and_true] at e1 e2
   subst e1 e2
   refine ⟨⟨A, x1, x2⟩, c0, rfl, hA, hA9, ?_⟩
   have hz : z.1 = .agg [y0.1, y1.1, y2.1] := by rw [hx]; rfl
   rw [hz]
   simp only [Rows.uptoBulk, Rows.uptoBulkAll]
   show A.length ≤ _
   omega
set_option maxRecDepth 100000 in
theorem Mf.open_state {v : Value} {d : DataW H} {ps : List MemPlace} {r : Reach} {b0 : Nat} (hv : Value.okWide Tryd.prog W r b0 24 v) (h : DataW.Trod enc Tryd.prog W 0 (fun _ => true) true 24 v d ps) :
 ∃ (s : Mf.S) (u : Value), v = Mf.sv u s ∧ Mf.Ps W u s.parts ∧ (∀ p ∈ s.parts, Mf.ok9 p) ∧ s.parts.length ≤ Rows.uptoBulk d := by
 obtain ⟨cs0, rfl, hcsz⟩ := okWide_struct Tryd.underlying24 hv
 obtain ⟨fuel, hf⟩ := h
 obtain ⟨s, u, e, h1, h2, h3⟩ := Mf.open_state_cells hf
 have e : cs0.toList = [u, .int .i64 s.floor, .int .i64 s.next] := e
 refine ⟨s, u, ?_, h1, h2, h3⟩
 unfold Mf.sv
 rw [← Array.toArray_toList (xs := cs0), e]
set_option maxRecDepth 100000 in
theorem Mf.open_edit {v : Value} {d : DataW H} {ps : List MemPlace} {r : Reach} {b0 : Nat} (hv : Value.okWide Tryd.prog W r b0 27 v) (h : DataW.Trod enc Tryd.prog W 0 (fun _ => true) true 27 v d ps) :
 ∃ (e : Mf.E) (vd va : Value), v = .agg #[vd, va, .int .i64 e.floor, .int .i64 e.next] ∧ Mf.Is W vd e.drop ∧ Mf.Ps W va e.add ∧ ∀ p ∈ e.add, Mf.ok9 p := by
 obtain ⟨cs0, rfl, hcsz⟩ := okWide_struct Tryd.underlying27 hv
 obtain ⟨fuel, hf⟩ := h
 obtain ⟨x, vd, va, e, h1, h2, h3⟩ := Mf.open_edit_cells hf
 have e : cs0.toList = [vd, va, .int .i64 x.floor, .int .i64 x.next] := e
 refine ⟨x, vd, va, ?_, h1, h2, h3⟩
 rw [← Array.toArray_toList (xs := cs0), e]
end
end
end Go.Proofs.YthfgcilaikjhpaaDoor
