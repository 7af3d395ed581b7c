import Derived.Test.YteaglaijkafphaaDoorWAC
import Derived.Test.YteaglaijkafphaaDoorWAD
import Derived.Lib.QuietBelow
import Derived.Test.YteaglaijkafphaaDoorSLay
import Derived.Test.YteaglaijkafphaaDoorWAA
namespace Go.Proofs.YteaglaijkafphaaDoor
section
open Go.RowKit Go.Maps
theorem Mf.Bm.dropped {B : Nat} {w w' : World} {q b : Nat} {m : Int → Option Value} {K : List (Nat × Mf.P)} {pl : Nat} {f n : Int} (h : Mf.Bm B w q b m K pl f n) {x : Int} (hm : Mf.PM w' b pl (fun k => if k = x then none else m k)) (ht : w.mapTurned w' b) :
 Mf.Bm B w' q b (fun k => if k = x then none else m k) (Mf.off K x) pl f n ∧ Mf.Tf B w w' := by
 obtain ⟨es, cc, hbm⟩ := h.map.isMap
 have hqb : q ≠ b := Mf.apart_map h.box hbm
 have g := ht.grown
 have hother : ∀ j, j < w.heap.size → j ≠ b → w'.heap[j]? = w.heap[j]? := fun j hj hne => g.block j hj (fun e => hne (Option.some.inj e))
 refine ⟨⟨(hother q (lt_of_block h.box) hqb).trans h.box, hm, ?_, ?_, ?_, h.bq, h.bb, h.asc.sublist List.filter_sublist, fun y hy => h.lt y (List.mem_filter.1 hy).1, fun y hy => h.keys y (List.mem_filter.1 hy).1⟩, ⟨⟨g.os, g.tape, g.output, g.size, fun j hj => ?_⟩, fun j cs t fr hc _ _ => hother j (lt_of_block hc) (Mf.apart_map hc hbm)⟩⟩
 ·intro y v hy
  by_cases e : y = x
  ·rw [if_pos e] at hy; cases hy
  ·rw [if_neg e] at hy
   obtain ⟨ho, hne⟩ := h.some_ y v hy
   rw [Mf.of_off, if_neg e]
   refine ⟨ho.at_blk fun j hj => ?_, hne⟩
   obtain ⟨cs, hc⟩ := ho.typed hj
   exact hother j (lt_of_block hc) (Mf.apart_map hc hbm)
 ·intro y hy
  rw [Mf.of_off]
  by_cases e : y = x
  ·rw [if_pos e]
  ·rw [if_neg e] at hy
   rw [if_neg e]
   exact h.none_ y hy
 ·intro y z u v hyz hu hv
  by_cases e : y = x
  ·rw [if_pos e] at hu; cases hu
  ·rw [if_neg e] at hu
   by_cases e2 : z = x
   ·rw [if_pos e2] at hv; cases hv
   ·rw [if_neg e2] at hv
    exact h.apart y z u v hyz hu hv
 ·have := h.bb
  have := h.map.lt
  exact hother j (by omega) (by omega)
theorem Mf.Bm.rebox {B : Nat} {w w' : World} {q b : Nat} {m : Int → Option Value} {K : List (Nat × Mf.P)} {pl : Nat} {f n f' n' : Int} (h : Mf.Bm B w q b m K pl f n) (hbox : w'.heap[q]? = some (.cells #[.map (some b), .int .i64 (pl : Int), .int .i64 f', .int .i64 n'] 62 (0, 0)))
 (ho : ∀ j, j ≠ q → w'.heap[j]? = w.heap[j]?) (h1 : w'.os = w.os) (h2 : w'.tape = w.tape) (h3 : w'.output = w.output) (h4 : w'.heap.size = w.heap.size) : Mf.Bm B w' q b m K pl f' n' ∧ Mf.Tf B w w' := by
 obtain ⟨es, cc, hbm⟩ := h.map.isMap
 have hqb : q ≠ b := Mf.apart_map h.box hbm
 refine ⟨⟨hbox, h.map.same (ho b (fun e => hqb e.symm)), fun x v hx => ?_, h.none_, h.apart, h.bq, h.bb, h.asc, h.lt, h.keys⟩, ⟨⟨h1, h2, h3, by omega, fun j hj => ho j (by have := h.bq; omega)⟩, fun j cs t fr hc ht _ => ho j (Mf.apart_of hc h.box ht)⟩⟩
 obtain ⟨ho1, hne⟩ := h.some_ x v hx
 refine ⟨ho1.at_blk fun j hj => ?_, hne⟩
 obtain ⟨cs, hc⟩ := ho1.typed hj
 exact ho j (Mf.apart_of hc h.box (by decide))
theorem Mf.below_reg3 {w w' : World} (h : ∃ p : Regrown, w' = Sort.grow (redrawn w p.d) p.os) : Below w.heap.size w w' := by
 obtain ⟨p, rfl⟩ := h
 exact below_regrown w p.d p.os
def Mf.GotB (B : Nat) (w : World) (q : Nat) (pl : Nat) (r : Option Mf.S) (e : Ending) (w' : World) : Prop :=
 Mf.Tf B w w' ∧ (r = none ∧ e = .returned (.bool false) ∨ ∃ t K' pl', r = some t ∧ e = .returned (.bool true) ∧ Mf.Bk B w' q K' pl' t.floor t.next ∧ K'.map (·.2) = t.parts ∧ pl' ≤ pl + 1000)
theorem Mf.part_id {p : Mf.P} (h : Mf.part p = true) : Mf.nm p.id = true := by
 unfold Mf.part at h
 simp only [Bool.and_eq_true] at h
 exact h.1.1.1.1
theorem Mf.nm_i64 {x : Int} (h : Mf.nm x = true) : Ty.I64 x := by
 have := (Mf.nm_iff x).1 h
 unfold Ty.I64
 omega
set_option maxHeartbeats 16000000 in
set_option maxRecDepth 100000 in
theorem Mf.bapply_c {B : Nat} {w : World} {q : Nat} {K : List (Nat × Mf.P)} {pl : Nat} {f n : Int} (h : Mf.Bk B w q K pl f n) (hB : B ≤ w.heap.size) (vd va : Value) (e : Mf.E) (hd : Mf.Is w vd e.drop) (ha : Mf.Ps w va e.add) (hst : ∀ W, Mf.Tf B w W → Mf.Is W vd e.drop ∧ Mf.Ps W va e.add) (hpl : pl ≤ 999999998000) :
 Calls Tryd.prog 15 #[.pointer (some ⟨q, 0, none⟩), .agg #[vd, va, .int .i64 e.floor, .int .i64 e.next]] w (Mf.GotB B w q pl (Mf.ap ⟨K.map (·.2), f, n⟩ e)) := by
 have HNO : Hid (Mf.right e = false ∨ e.floor < f ∨ e.next < n → Mf.ap ⟨K.map (·.2), f, n⟩ e = none) := Lib.hid (Mf.ap_not (s := ⟨K.map (·.2), f, n⟩))
 have HIS := Lib.hid fun h1 h2 h3 => Mf.ap_is (s := ⟨K.map (·.2), f, n⟩) (e := e) h1 h2 h3
 have HRT := Lib.hid ((Mf.right_iff e).1)
 have hE := Mf.EA.new w vd va e.floor e.next 37
 have hb : Below w.heap.size w (w.alloc (.cells #[vd, va, .int .i64 e.floor, .int .i64 e.next] 37)) := (Below.refl _ w).alloc (Nat.le_refl _) _
 have hT0 : Mf.Tf B w (w.alloc (.cells #[vd, va, .int .i64 e.floor, .int .i64 e.next] 37)) := Mf.Tf.of hb hB
 have hEH := heap_alloc_new w (.cells #[vd, va, .int .i64 e.floor, .int .i64 e.next] 37)
 have hk0 := h.kept hb
 have CR := Lib.hid fun (W : World) (g : Below w.heap.size w W) => Mf.rightEdit_c vd va e W (hd.kept g) (ha.kept g)
 obtain ⟨D, A, fl, nx⟩ := e
 simp only at hE hb hT0 hEH hk0 CR HNO HIS HRT hd ha hst ⊢
 have hd1 := hd.kept hb
 have ha1 := ha.kept hb
 obtain ⟨ad, cd, rfl, -, -⟩ := id hd
 obtain ⟨aa, ca, rfl, -⟩ := ha.form
 obtain ⟨w0, hw0⟩ : ∃ w0, w0 = w.alloc (.cells #[.slice ad D.length cd, .slice aa A.length ca, .int .i64 fl, .int .i64 nx] 37) := ⟨_, rfl⟩
 rw [← hw0] at hE hb hT0 hEH hk0 hd1 ha1
 have HEA := Lib.hid hE
 have HT0 := Lib.hid hT0
 have HB0 := Lib.hid hb
 have HK0 := Lib.hid hk0
 have HB := Lib.hid hB
 have HPL := Lib.hid hpl
 have HEDT : Hid (∀ W, Mf.Tf B w0 W → Mf.EA W w.heap.size (.slice ad D.length cd) (.slice aa A.length ca) fl nx) := Lib.hid fun W g => by
  have hs := g.cells _ _ _ _ hEH (by decide) (by decide)
  have k : ∀ i, W.cell? ⟨w.heap.size, i, none⟩ = w0.cell? ⟨w.heap.size, i, none⟩ := fun i => World.cell?_of_block (a := ⟨w.heap.size, i, none⟩) hs
  exact ⟨(k 0).trans hE.c0, (k 1).trans hE.c1, (k 2).trans hE.c2, (k 3).trans hE.c3⟩
 have HDT : Hid (∀ W, Mf.Tf B w0 W → ∀ (i : Nat) (x : Int), D[i]? = some x → ∃ b o, ad = some ⟨b, o, none⟩ ∧ W.cell? ⟨b, o + i, none⟩ = some (.int .i64 x)) := Lib.hid fun W g i x hx => by
  obtain ⟨a', c', e, -, h⟩ := (hst W (HT0.out.trans g)).1
  simp only [Value.slice.injEq, true_and] at e
  obtain ⟨rfl, rfl⟩ := e
  rcases h with ⟨h0, -⟩ | ⟨b, o, cs, fr, rfl, -, _, h⟩
  ·rw [h0] at hx; cases hx
  ·exact ⟨b, o, rfl, Mf.Is.num h hx⟩
 have HAT : Hid (∀ W, Mf.Tf B w0 W → ∀ (i : Nat) (p : Mf.P), A[i]? = some p → ∃ b o, aa = some ⟨b, o, none⟩ ∧ Mf.PA W b (o + i * 8) p) := Lib.hid fun W g i p hp => Mf.Ps.at_ (hst W (HT0.out.trans g)).2 hp
 have HRTRUE := Lib.hid fun (r : Bool) => (rfl : r = r)
 generalize hRES : Mf.ap ⟨K.map (·.2), f, n⟩ ⟨D, A, fl, nx⟩ = RES at HNO HIS ⊢
 generalize hRR : Mf.right ⟨D, A, fl, nx⟩ = R at CR HNO HIS HRT
 clear hRR hRES h hB hd ha hst hpl hT0 hEH hd1 ha1
 obtain ⟨b, m, hbm⟩ := hk0
 obtain ⟨⟨c0, c1, c2, c3⟩, -⟩ := hbm.four
 obtain ⟨e0, e1, e2, e3⟩ := hE
 have HF4 := Lib.hid hbm.four
 have HBM := Lib.hid hbm
 have HBAD : Hid (RES = none → ∀ W, Mf.Tf B w0 W → Mf.GotB B w q pl RES (.returned (.bool false)) W) := Lib.hid fun hr W g => ⟨HT0.out.trans g, .inl ⟨hr, rfl⟩⟩
 have hB0 : B ≤ w0.heap.size := Nat.le_trans HB.out hb.size
 clear hbm hb HRTRUE
 have hways : (R = false) ∨ (R = true ∧ fl < f) ∨ (R = true ∧ ¬ fl < f ∧ nx < n) ∨ (R = true ∧ ¬ fl < f ∧ ¬ nx < n) := by
  cases R
  ·exact .inl rfl
  ·by_cases h1 : fl < f
   ·exact .inr (.inl ⟨rfl, h1⟩)
   ·by_cases h2 : nx < n
    ·exact .inr (.inr (.inl ⟨rfl, h1, h2⟩))
    ·exact .inr (.inr (.inr ⟨rfl, h1, h2⟩))
 have E2 := fun d os => cell_regrown e2 d os
 have E3 := fun d os => cell_regrown e3 d os
 have E0 := fun d os => cell_regrown e0 d os
 have E1 := fun d os => cell_regrown e1 d os
 have C2 := fun d os => cell_regrown c2 d os
 have C3 := fun d os => cell_regrown c3 d os
 have CRR : Hid (∀ z : Regrown, Calls Tryd.prog 20 #[.agg #[.slice ad D.length cd, .slice aa A.length ca, .int .i64 fl, .int .i64 nx]] (Sort.grow (redrawn w0 z.d) z.os) fun e w'' => e = .returned (.bool R) ∧ ∃ p : Regrown, w'' = Sort.grow (redrawn w0 p.d) p.os) := Lib.hid fun z => Calls.regrown_of (CR.out _ (HB0.out.trans ((below_regrown w0 z.d z.os).mono HB0.out.size)))
 clear CR
 rcases hways with rfl | ⟨rfl, h1⟩ | ⟨rfl, h1, h2⟩ | ⟨rfl, h1, h2⟩
 ·have HN := Lib.hid (HBAD.out (HNO.out (.inl rfl)))
  go_enter Tryd.func15, Tryd.ntmps15
  go_wp2_with fail
  rw [← hw0]
  clear e0 e1 e2 e3 c0 c1 c2 c3 hw0
  refine wp_region_quiet_below (by kernel_rfl) (by kernel_rfl) ?_
  repeat (go_big_quiet_step (first | with_reducible exact CRR.out _))
  refine wpQuiet_nil ?_
  intro wq hw'
  have HF := Lib.hid (HN.out wq (Mf.Tf.of (Mf.below_reg3 hw') hB0))
  clear hw' E0 E1 E2 E3 C2 C3
  go_wp2
  go_ret
  exact HF.out
 ·have HN := Lib.hid (HBAD.out (HNO.out (.inr (.inl h1))))
  have hd1 : decide (fl < f) = true := decide_eq_true h1
  go_enter Tryd.func15, Tryd.ntmps15
  go_wp2_with fail
  rw [← hw0]
  clear e0 e1 e2 e3 c0 c1 c2 c3 hw0
  refine wp_region_quiet_below (by kernel_rfl) (by kernel_rfl) ?_
  repeat (go_big_quiet_step (first | with_reducible exact CRR.out _))
  refine wpQuiet_nil ?_
  intro wq hw'
  have HF := Lib.hid (HN.out wq (Mf.Tf.of (Mf.below_reg3 hw') hB0))
  clear hw' E0 E1 E2 E3 C2 C3
  go_wp2
  go_ret
  exact HF.out
 ·have HN := Lib.hid (HBAD.out (HNO.out (.inr (.inr h2))))
  have hd1 : decide (fl < f) = false := decide_eq_false h1
  have hd2 : decide (nx < n) = true := decide_eq_true h2
  go_enter Tryd.func15, Tryd.ntmps15
  go_wp2_with fail
  rw [← hw0]
  clear e0 e1 e2 e3 c0 c1 c2 c3 hw0
  refine wp_region_quiet_below (by kernel_rfl) (by kernel_rfl) ?_
  repeat (go_big_quiet_step (first | with_reducible exact CRR.out _))
  refine wpQuiet_nil ?_
  intro wq hw'
  have HF := Lib.hid (HN.out wq (Mf.Tf.of (Mf.below_reg3 hw') hB0))
  clear hw' E0 E1 E2 E3 C2 C3
  go_wp2
  go_ret
  exact HF.out
 ·have HRES := Lib.hid (HIS.out rfl h1 h2)
  have hd1 : decide (fl < f) = false := decide_eq_false h1
  have hd2 : decide (nx < n) = false := decide_eq_false h2
  obtain ⟨r1, r2, r3, r4, r5, r6⟩ := HRT.out rfl
  have HR3 := Lib.hid r3
  have HR4 := Lib.hid r4
  have HN : Hid (D.length ≤ 1000 ∧ A.length ≤ 1000) := Lib.hid ⟨r1, r2⟩
  have hl1 : (D.length : Int) ≤ 1000 := by omega
  have hl2 : (A.length : Int) ≤ 1000 := by omega
  clear HNO HIS HRT r1 r2 r3 r4 r5 r6
  go_enter Tryd.func15, Tryd.ntmps15
  go_wp2_with fail
  rw [← hw0]
  clear e0 e1 e2 e3 c0 c1 c2 c3 hw0
  refine wp_region_quiet_below (by kernel_rfl) (by kernel_rfl) ?_
  repeat (go_big_quiet_step (first | with_reducible exact CRR.out _))
  refine wpQuiet_nil ?_
  intro wq hw'
  have HTQ := Lib.hid (Mf.Tf.of (Mf.below_reg3 hw') hB0)
  have HBQ : Hid (Mf.Bk B wq q K pl f n) := Lib.hid ⟨b, m, HBM.out.kept (Mf.below_reg3 hw')⟩
  clear hw' E0 E1 E2 E3 C2 C3 CRR hd1 hd2 h1 h2 HBM HF4 HK0
  obtain ⟨e0, e1, e2, e3⟩ := HEDT.out wq HTQ.out
  go_wp2_with fail
  clear e0 e1 e2 e3
  go_loopw [33] (fun i wr => ∃ (k : Nat) (K1 : List (Nat × Mf.P)), k ≤ D.length ∧ i = .int .i64 k ∧ Mf.Bk B wr q K1 pl f n ∧ Mf.Tf B w0 wr ∧ Mf.dr (K1.map (·.2)) (D.drop k) = Mf.dr (K.map (·.2)) D) (fun i _ => D.length - (intOf i).toNat)
  case atStart => exact ⟨0, K, Nat.zero_le _, rfl, HBQ.out, HTQ.out, rfl⟩
  case round =>
   obtain ⟨k, K1, hk, rfl, hK, hT, hdr⟩ := hrel
   have hk0 : (0 : Int) ≤ (k : Int) := by omega
   have HK := Lib.hid hK
   have HT := Lib.hid hT
   have HDR := Lib.hid hdr
   by_cases hkl : k < D.length
   ·have hx := List.getElem?_eq_getElem hkl
    have hmem := List.getElem_mem hkl
    generalize D[k] = d at hx hmem
    have hdi := Mf.nm_i64 (HR3.out d hmem)
    obtain ⟨b1, o1, rfl, x0⟩ := HDT.out wr hT k d hx
    have HST := Lib.hid (Mf.dr_step (L := K1.map (·.2)) hx)
    have hki : (k : Int) < (D.length : Int) := by omega
    have CH := Mf.has_c hK d hdi
    cases hh : Mf.has (K1.map (·.2)) d
    ·rw [hh] at CH
     have HF := Lib.hid (HBAD.out (by
      have e : Mf.dr (K.map (·.2)) D = none := by rw [← HDR.out, HST.out, hh]; rfl
      simp only [HRES.out, e]) wr HT.out)
     clear hh hx hmem hdi hK hT hdr
     go_wp2_with fail
     with_reducible refine CH.mono ?_
     rintro e w3 ⟨rfl, h9⟩
     subst w3
     go_wp2
     go_ret
     exact HF.out
    ·rw [hh] at CH
     have HNX : Hid (Mf.dr ((Mf.off K1 d).map (·.2)) (D.drop (k + 1)) = Mf.dr (K.map (·.2)) D) := Lib.hid (by rw [Mf.off_wo, ← HDR.out, HST.out, hh]; rfl)
     obtain ⟨bb, mm, hbm⟩ := hK
     obtain ⟨⟨c0, -⟩, -⟩ := hbm.four
     obtain ⟨w3, hrun, hpm, ht⟩ := hbm.map.drop hdi 0
     obtain ⟨hbm3, ht3⟩ := hbm.dropped hpm ht
     have HB3 : Hid (Mf.Bk B w3 q (Mf.off K1 d) pl f n) := Lib.hid ⟨bb, _, hbm3⟩
     have HT3 := Lib.hid (HT.out.trans ht3)
     clear hh hx hmem hdi hT hdr hbm hpm ht hbm3 ht3
     go_wp2_with fail
     with_reducible refine CH.mono ?_
     rintro e w4 ⟨rfl, h9⟩
     subst w4
     clear CH
     go_wp2
     go_roundw
     case rel => exact ⟨k + 1, _, by omega, by simp, HB3.out, HT3.out, HNX.out⟩
     case measure => simp [intOf]; omega
   ·obtain rfl : k = D.length := by omega
    have hki : ¬ (D.length : Int) < (D.length : Int) := by omega
    have HDM : Hid (Mf.dr (K.map (·.2)) D = some (K1.map (·.2))) := Lib.hid (by rw [← hdr, Mf.dr_end (by omega)])
    obtain ⟨e0, e1, e2, e3⟩ := HEDT.out wr hT
    clear hk hkl hk0 hK hT hdr HDR hl1
    go_wp2_with fail
    clear e0 e1 e2 e3 hki
    have HKM := Lib.hid HK.out
    have HTM := Lib.hid HT.out
    go_loopw [50] (fun i wr => ∃ (k : Nat) (K2 : List (Nat × Mf.P)), k ≤ A.length ∧ i = .int .i64 k ∧ Mf.Bk B wr q K2 (pl + k) f n ∧ Mf.Tf B w0 wr ∧ Mf.ad nx (K2.map (·.2)) (A.drop k) = Mf.ad nx (K1.map (·.2)) A) (fun i _ => A.length - (intOf i).toNat)
    case atStart => exact ⟨0, K1, Nat.zero_le _, rfl, HKM.out, HTM.out, rfl⟩
    case round =>
     obtain ⟨k, K2, hk, rfl, hK, hT, had⟩ := hrel
     have hk0 : (0 : Int) ≤ (k : Int) := by omega
     have HK := Lib.hid hK
     have HT := Lib.hid hT
     have HAD := Lib.hid had
     obtain ⟨e0, e1, e2, e3⟩ := HEDT.out wr hT
     by_cases hkl : k < A.length
     ·have hx := List.getElem?_eq_getElem hkl
      have hmem := List.getElem_mem hkl
      generalize A[k] = p at hx hmem
      obtain ⟨b1, o1, rfl, ⟨p0, p1, p2, p3, p4, p5, p6, p7⟩⟩ := HAT.out wr hT k p hx
      have HST := Lib.hid (Mf.ad_step (n := nx) (L := K2.map (·.2)) hx)
      have hki : (k : Int) < (A.length : Int) := by omega
      have hpi := Mf.nm_i64 (by have := (Mf.part_id (HR4.out p hmem)); exact this : Mf.nm p.id = true)
      have hA : Below wr.heap.size wr (wr.alloc (.cells (Mf.cs p) 44)) := (Below.refl _ _).alloc (Nat.le_refl _) _
      have hBr : B ≤ wr.heap.size := Nat.le_trans hB0 hT.below.size
      have HTA := Lib.hid (hT.alloc hB0 (.cells (Mf.cs p) 44))
      have hpn := Mf.PA.new wr p 44
      have hea := (HEDT.out wr hT).kept hA
      have CH := Mf.has_c (hK.kept hA) p.id hpi
      have CADD := Mf.add_c (hK.kept hA) (Nat.le_trans hBr hA.size) p hpi (by have := HPL.out; have := HN.out; omega)
      have HBD := Lib.hid fun (h : nx ≤ p.id ∨ Mf.has (K2.map (·.2)) p.id = true) => HBAD.out (by
       have e : Mf.ad nx (K1.map (·.2)) A = none := by rw [← HAD.out, HST.out, if_pos h]
       simp only [HRES.out, HDM.out, e])
      have HNX : Hid (¬ (nx ≤ p.id ∨ Mf.has (K2.map (·.2)) p.id = true) → Mf.ad nx ((K2 ++ [(pl + k, p)]).map (·.2)) (A.drop (k + 1)) = Mf.ad nx (K1.map (·.2)) A) := Lib.hid fun h => by rw [← HAD.out, HST.out, if_neg h, List.map_append]; rfl
      generalize hH : Mf.has (K2.map (·.2)) p.id = HH at CH HBD HNX
      obtain ⟨id, lv, ⟨an, ai, sa⟩, ⟨bn, bi, sb⟩⟩ := p
      unfold Mf.P.val Mf.cs at CADD
      unfold Mf.cs at hA HTA hpn hea CH
      simp only at p0 p1 p2 p3 p4 p5 p6 p7 HBD HNX hpn hea CH CADD HTA hA
      obtain ⟨f0, f1, f2, f3⟩ := hea
      obtain ⟨s0, s1, s2, s3, s4, s5, s6, s7⟩ := hpn
      clear hx hmem hpi hK hT had hBr hA hH HST
      by_cases hni : nx ≤ id
      ·have HF := Lib.hid (HBD.out (.inl hni) _ HTA.out)
       go_wp2
       go_ret
       exact HF.out
      ·cases HH
       ·have HNY := Lib.hid (HNX.out (by rintro (h | h); exact hni h; cases h))
        go_wp2_with fail
        with_reducible refine CH.mono ?_
        rintro e w4 ⟨rfl, h9⟩
        subst w4
        go_wp2_with fail
        with_reducible refine CADD.mono ?_
        rintro e w5 ⟨rfl, hK5, hT5⟩
        have HK5 := Lib.hid hK5
        have HT5 := Lib.hid (HTA.out.trans hT5)
        clear hK5 hT5 CH CADD
        go_wp2
        go_roundw
        case rel => exact ⟨k + 1, _, by omega, by simp, HK5.out, HT5.out, HNY.out⟩
        case measure => simp [intOf]; omega
       ·have HF := Lib.hid (HBD.out (.inr rfl) _ HTA.out)
        go_wp2_with fail
        with_reducible refine CH.mono ?_
        rintro e w4 ⟨rfl, h9⟩
        subst w4
        go_wp2
        go_ret
        exact HF.out
     ·obtain rfl : k = A.length := by omega
      have hki : ¬ (A.length : Int) < (A.length : Int) := by omega
      have HRS : Hid (RES = some ⟨K2.map (·.2), fl, nx⟩) := Lib.hid (by
       have e : Mf.ad nx (K1.map (·.2)) A = some (K2.map (·.2)) := by rw [← HAD.out, Mf.ad_end (by omega)]
       simp only [HRES.out, HDM.out, e])
      obtain ⟨bb, mm, hbm⟩ := hK
      obtain ⟨⟨c0, c1, c2, c3⟩, z1, z2, z3⟩ := hbm.four
      have HBM := Lib.hid hbm
      clear hk hkl hk0 hT had hbm
      go_wp2_with fail
      go_region
      have HEND : Hid (∀ W : World, W = ((wr.setCell ⟨q, 2, none⟩ (.int .i64 fl)).setCell ⟨q, 3, none⟩ (.int .i64 nx)).drew → Mf.GotB B w q pl RES (.returned (.bool true)) W) := Lib.hid fun W hW => by
       have hb := HBM.out.box
       subst hW
       have hfin : ((wr.setCell ⟨q, 2, none⟩ (.int .i64 fl)).setCell ⟨q, 3, none⟩ (.int .i64 nx)).drew.heap[q]? = some (.cells #[.map (some bb), .int .i64 ((pl + A.length : Nat) : Int), .int .i64 fl, .int .i64 nx] 62 (0, 0)) :=
        heap_setCell_same _ q 3 _ _ _ (heap_setCell_same wr q 2 _ _ _ hb)
       have hoth : ∀ j, j ≠ q → ((wr.setCell ⟨q, 2, none⟩ (.int .i64 fl)).setCell ⟨q, 3, none⟩ (.int .i64 nx)).drew.heap[j]? = wr.heap[j]? := fun j hj =>
        (Below.heap_setCell (wr.setCell ⟨q, 2, none⟩ (.int .i64 fl)) _ _ _ (by show j ≠ q; exact hj)).trans (Below.heap_setCell _ _ _ _ (by show j ≠ q; exact hj))
       obtain ⟨h1, h2⟩ := HBM.out.rebox hfin hoth rfl rfl rfl (by show ((wr.setCell ⟨q, 2, none⟩ (.int .i64 fl)).setCell ⟨q, 3, none⟩ (.int .i64 nx)).heap.size = _; simp [World.setCell])
       exact ⟨HT0.out.trans (HT.out.trans h2), .inr ⟨_, K2, pl + A.length, HRS.out, rfl, ⟨bb, mm, h1⟩, rfl, by have := HN.out; omega⟩⟩
      clear c0 c1 c2 c3 z1 z2 z3
      go_wp2
      go_ret
      exact HEND.out _ rfl
end
section
open Go.RowKit Go.Sort
instance Mf.inhP : Inhabited Mf.P := ⟨⟨0, 0, ⟨false, 0, ⟨#[]⟩⟩, ⟨false, 0, ⟨#[]⟩⟩⟩⟩
set_option maxRecDepth 100000 in
theorem Mf.isNaN_c (a : Int) (w : World) : Calls Tryd.prog 57 #[.int .i64 a] w fun e w' => e = .returned (.bool false) ∧ w' = w := by
 go_enter Tryd.func57, Tryd.ntmps57
 go_wp2
 go_ret
 exact ⟨rfl, rfl⟩
set_option maxRecDepth 100000 in
theorem Mf.cmp_c (a b : Int) (w : World) : Calls Tryd.prog 34 #[.int .i64 a, .int .i64 b] w fun e w' => e = .returned (.int .i64 (Kn.ncmp a b)) ∧ w' = w := by
 have hc : (a < b ∧ Kn.ncmp a b = -1) ∨ (¬ a < b ∧ b < a ∧ Kn.ncmp a b = 1) ∨ (¬ a < b ∧ ¬ b < a ∧ Kn.ncmp a b = 0) := by unfold Kn.ncmp; repeat' split <;> omega
 rcases hc with ⟨h1, h⟩ | ⟨h1, h2, h⟩ | ⟨h1, h2, h⟩
 all_goals
  rw [h]
  go_enter Tryd.func34, Tryd.ntmps34
  go_wp2_with fail
  refine (Mf.isNaN_c _ _).mono ?_
  rintro e w1 ⟨rfl, rfl⟩
  go_wp2_with fail
  refine (Mf.isNaN_c _ _).mono ?_
  rintro e w1 ⟨rfl, rfl⟩
  go_wp2
  go_ret
  exact ⟨rfl, rfl⟩
set_option maxHeartbeats 2000000 in
set_option maxRecDepth 100000 in
theorem Mf.closure_c (x y : Nat × Mf.P) (W : World) : Calls Tryd.prog 33 #[.agg (Mf.lc x).toArray, .agg (Mf.lc y).toArray] W fun e w' => e = .returned (.int .i64 (Kn.ncmp x.1 y.1)) ∧ ∃ q os', w' = grow (W.drewN q) os' := by
 have hcon := fun W' => Mf.cmp_c (x.1 : Int) (y.1 : Int) W'
 obtain ⟨a, ⟨i, l, ⟨an, ai, sa⟩, ⟨bn, bi, sb⟩⟩⟩ := x
 obtain ⟨a2, ⟨i2, l2, ⟨an2, ai2, sa2⟩, ⟨bn2, bi2, sb2⟩⟩⟩ := y
 simp only at hcon ⊢
 generalize Kn.ncmp (a : Int) (a2 : Int) = r at hcon ⊢
 show Calls Tryd.prog 33 #[.agg #[.int .i64 (a : Int), .int .i64 i, .int .i64 l, .bool an, .int .i64 ai, .string sa, .bool bn, .int .i64 bi, .string sb], .agg #[.int .i64 (a2 : Int), .int .i64 i2, .int .i64 l2, .bool an2, .int .i64 ai2, .string sa2, .bool bn2, .int .i64 bi2, .string sb2]] W _
 go_enter Tryd.func33, Tryd.ntmps33
 go_wp2_with fail
 refine (hcon _).mono ?_
 rintro e w' ⟨rfl, rfl⟩
 go_wp2
 go_ret
 exact ⟨rfl, 0, _, by rw [alloc_eq_grow, alloc_eq_grow, grow_grow]; rfl⟩
def Mf.cf (x y : Nat × Mf.P) : Int := Kn.ncmp x.1 y.1
theorem Mf.ltOf_is (x y : Nat × Mf.P) : ltOf Mf.cf x y = decide (x.1 < y.1) := by
 unfold ltOf Mf.cf Kn.ncmp
 by_cases h1 : x.1 < y.1
 ·have : (x.1 : Int) < y.1 := by omega
  simp [h1, this]
 ·have : ¬ (x.1 : Int) < y.1 := by omega
  by_cases h2 : y.1 < x.1
  ·have h3 : (y.1 : Int) < x.1 := by omega
   simp [h1, this, h3]
  ·have h3 : ¬ (y.1 : Int) < x.1 := by omega
   simp [h1, this, h3]
theorem Mf.swo : SWO (ltOf Mf.cf) where
 irrefl x := by rw [Mf.ltOf_is]; simp
 trans x y z h1 h2 := by rw [Mf.ltOf_is] at *; simp at *; omega
 ntrans x y z h1 h2 := by rw [Mf.ltOf_is] at *; simp at *; omega
set_option maxHeartbeats 2000000 in
set_option maxRecDepth 100000 in
theorem Mf.ins_none (fv : Value) (w : World) : Calls Tryd.prog 72 #[.slice none 0 0, .int .i64 0, .int .i64 0, fv] w fun e w' => e = .returned (.tuple #[]) ∧ w' = w := by
 go_enter Tryd.func72, Tryd.ntmps72
 go_wp2
 refine wp_loop_rounds 1 ?_
 rw [rounds_succ]
 go_wp2
 go_end0
 exact ⟨rfl, rfl⟩
set_option maxHeartbeats 2000000 in
set_option maxRecDepth 100000 in
theorem Mf.pdq_none (lim : Int) (fv : Value) (w : World) : Calls Tryd.prog 55 #[.slice none 0 0, .int .i64 0, .int .i64 0, .int .i64 lim, fv] w fun e w' => e = .returned (.tuple #[]) ∧ w' = w := by
 go_enter Tryd.func55, Tryd.ntmps55
 go_wp2
 refine wp_loop_rounds 1 ?_
 rw [rounds_succ]
 go_wp2_with fail
 refine (Mf.ins_none fv w).mono ?_
 rintro e w1 ⟨rfl, rfl⟩
 go_wp2
 (try simp only [Exit.inBlock, Exit.then])
 refine bodyPost_ret (results_none rfl _ _ _) rfl ?_
 exact ⟨rfl, rfl⟩
set_option maxHeartbeats 2000000 in
set_option maxRecDepth 100000 in
theorem Mf.sort_none (fv : Value) (w : World) : Calls Tryd.prog 32 #[.slice none 0 0, fv] w fun e w' => e = .returned (.tuple #[]) ∧ w' = w := by
 have hl : Calls Tryd.prog 56 #[.int .u64 0] w fun e w' => e = .returned (.int .i64 (Lib.bitLen 0 : Nat)) ∧ w' = w := by
  have h := Any.bits_Len (SlLaysF0.n15.bits (P := Tryd.prog) (ρ := Tryd.sortL_ren) { Tryd.sortL with }) 0 w (by omega) (by omega)
  exact h
 have hp := fun W => Mf.pdq_none (Lib.bitLen 0 : Nat) fv W
 go_enter Tryd.func32, Tryd.ntmps32
 go_wp2_with fail
 refine hl.mono ?_
 rintro e w1 ⟨rfl, rfl⟩
 go_wp2_with fail
 refine (hp _).mono ?_
 rintro e w1 ⟨rfl, rfl⟩
 go_wp2
 go_end0
 exact ⟨rfl, rfl⟩
theorem Mf.below_grow (w : World) (os : Array Obj) : Below w.heap.size w (grow w os) :=
 ⟨rfl, rfl, rfl, by simp [grow], fun j hj => by
  show (w.heap ++ os)[j]? = w.heap[j]?
  rw [Array.getElem?_append_left hj]⟩
theorem Mf.flat_getL {L : List (Nat × Mf.P)} {i j : Nat} {x : Nat × Mf.P} (h : L[i]? = some x) (hj : j < 9) : (L.flatMap Mf.lc)[i * 9 + j]? = (Mf.lc x)[j]? := Dk.flat_get Mf.lc_len L i j x h hj
theorem Mf.Op.put {base : Nat} {w : World} {g c : Nat} {L : List (Nat × Mf.P)} (h : Mf.Op base w (.slice (some ⟨g, 0, none⟩) L.length c) L) (d : Array (Nat × Mf.P)) (hd : d.size = L.length) :
 Mf.Op base (putRowK Mf.lc 9 w g 0 d) (.slice (some ⟨g, 0, none⟩) L.length c) d.toList := by
 rcases h.2 with ⟨e, _⟩ | ⟨g', cap, cur, e, hb, hg, hn, hm, hs, ht⟩
 ·cases e
 ·simp only [Value.slice.injEq, Option.some.injEq, Addr.mk.injEq, and_true, true_and] at e
  obtain ⟨rfl, rfl⟩ := e
  have hdl : d.toList.length = L.length := by simpa using hd
  have hlen : (d.toList.flatMap Mf.lc).length = L.length * 9 := by rw [Dk.flat_len Mf.lc_len, hdl]
  refine ⟨by rw [hlen, hdl], .inr ⟨g, c, putCells id 0 (flatK Mf.lc 9 d) cur, by rw [hdl], hb, ?_, by rw [hdl]; exact hn, hm, by unfold putCells; rw [Array.size_mapIdx]; exact hs, ?_⟩⟩
  ·unfold putRowK putRow mapBlock
   have hgl := lt_of_block hg
   show (w.heap.modify g (onCells (putCells id 0 (flatK Mf.lc 9 d))))[g]? = _
   rw [Array.getElem?_modify, if_pos rfl, hg]
   rfl
  ·have hcur : L.length * 9 ≤ cur.size := by rw [hs]; exact Nat.mul_le_mul_right 9 hn
   refine List.ext_getElem? fun t => ?_
   rw [List.getElem?_take, hdl]
   by_cases htl : t < L.length * 9
   ·rw [if_pos htl, Array.getElem?_toList]
    have h1 : (putCells id 0 (flatK Mf.lc 9 d) cur)[t]? = some ((flatK Mf.lc 9 d)[t]!) := by
     unfold putCells
     rw [Array.getElem?_mapIdx, Array.getElem?_eq_getElem (by omega)]
     simp only [Option.map_some, Nat.zero_le, true_and, Nat.zero_add, size_flatK, hd]
     rw [if_pos htl]
     rfl
    rw [h1, get_flatK _ _ _ _ (by rw [hd]; exact htl)]
    have hi : t / 9 < L.length := by omega
    have hx : d.toList[t / 9]? = some d[t / 9]! := by
     rw [Array.getElem?_toList, getElem!_pos d (t / 9) (by omega)]
     exact Array.getElem?_eq_getElem (by omega)
    have h2 := Mf.flat_getL hx (Nat.mod_lt t (by decide : 0 < 9))
    rw [show t / 9 * 9 + t % 9 = t by omega] at h2
    rw [h2]
    have hlc : t % 9 < (Mf.lc d[t / 9]!).length := by rw [Mf.lc_len]; omega
    rw [getElem!_pos (Mf.lc d[t / 9]!) (t % 9) hlc]
    exact (List.getElem?_eq_getElem hlc).symm
   ·rw [if_neg htl, List.getElem?_eq_none (by rw [hlen]; omega)]
theorem Mf.heap_putRowK (w : World) (g o : Nat) (d : Array (Nat × Mf.P)) {j : Nat} (hj : j ≠ g) : (putRowK Mf.lc 9 w g o d).heap[j]? = w.heap[j]? := by
 unfold putRowK putRow mapBlock
 show (w.heap.modify g _)[j]? = _
 rw [Array.getElem?_modify, if_neg (fun e => hj e.symm)]
structure Mf.Sorted (base : Nat) (w w' : World) (v : Value) (L : List (Nat × Mf.P)) : Prop where
 row : Mf.Op base w' v L
 size : w.heap.size ≤ w'.heap.size
 os : w'.os = w.os
 tape : w'.tape = w.tape
 output : w'.output = w.output
 block : ∀ j, j < w.heap.size → some j ≠ v.ownBlock → w'.heap[j]? = w.heap[j]?
theorem Mf.Sorted.below {base : Nat} {w w' : World} {v : Value} {L : List (Nat × Mf.P)} (h : Mf.Sorted base w w' v L) (hb : base ≤ w.heap.size) (hv : ∀ j, v.ownBlock = some j → base ≤ j) : Below base w w' :=
 ⟨h.os, h.tape, h.output, h.size, fun j hj => h.block j (by omega) (fun e => by have := hv j e.symm; omega)⟩
theorem Mf.holds_of {base : Nat} {w : World} {g c : Nat} {L : List (Nat × Mf.P)} (h : Mf.Op base w (.slice (some ⟨g, 0, none⟩) L.length c) L) : HoldsK Mf.lc 9 w g 0 L.toArray := by
 obtain ⟨cs, hg⟩ := h.typed (j := g) rfl
 intro t ht
 rw [size_flatK, List.size_toArray] at ht
 have hi : t / 9 < L.length := by omega
 have hx : L[t / 9]? = some L.toArray[t / 9]! := by
  rw [getElem!_pos L.toArray (t / 9) (by simpa using hi)]
  simp [List.getElem?_eq_getElem hi]
 have h1 := Dk.Own.cell Mf.lc_len h (g := g) rfl hx (Nat.mod_lt t (by decide : 0 < 9))
 rw [show t / 9 * 9 + t % 9 = t by omega] at h1
 rw [get_flatK _ _ _ _ (by rw [List.size_toArray]; exact ht), Nat.zero_add]
 have hlc : t % 9 < (Mf.lc L.toArray[t / 9]!).length := by rw [Mf.lc_len]; omega
 rw [getElem!_pos (Mf.lc L.toArray[t / 9]!) (t % 9) hlc]
 refine ⟨h1.trans (List.getElem?_eq_getElem hlc), ?_⟩
 exact frozen_of_row w g t _ _ hg
theorem Mf.perm_all {d d' : Array (Nat × Mf.P)} (h : PermIn 0 d.size d d') : d'.toList.Perm d.toList := by
 obtain ⟨h1, _, h3⟩ := h
 have e1 : d.extract 0 d.size = d := Array.extract_size
 have e2 : d'.extract 0 d.size = d' := by rw [← h1]; exact Array.extract_size
 rw [e1, e2] at h3
 exact h3
theorem Mf.sorted_is {K L : List (Nat × Mf.P)} (hp : L.Perm K) (hs : L.Pairwise fun x y => x.1 ≤ y.1) (hk : K.Pairwise fun x y => x.1 < y.1) : L = K := by
 refine hp.eq_of_pairwise (le := fun x y => x.1 ≤ y.1) (fun a b ha hb h1 h2 => ?_) hs (hk.imp fun h => Nat.le_of_lt h)
 have ha' := hp.subset ha
 have hinj : ∀ {K : List (Nat × Mf.P)}, (K.Pairwise fun x y => x.1 < y.1) → ∀ a ∈ K, ∀ b ∈ K, a.1 = b.1 → a = b := fun {K} hk => by
  induction hk with
  | nil => intro a ha; cases ha
  | cons h _ ih =>
    intro a ha b hb e
    rcases List.mem_cons.1 ha with ea | ha2
    ·rcases List.mem_cons.1 hb with eb | hb2
     ·rw [ea, eb]
     ·have := h b hb2; rw [ea] at e; omega
    ·rcases List.mem_cons.1 hb with eb | hb2
     ·have := h a ha2; rw [eb] at e; omega
     ·exact ih a ha2 b hb2 e
 exact hinj hk a ha' b hb (by omega)
set_option maxHeartbeats 2000000 in
set_option maxRecDepth 100000 in
theorem Mf.sort_c {base : Nat} {w : World} {v : Value} {L K : List (Nat × Mf.P)} (h : Mf.Op base w v L) (hp : L.Perm K) (hk : K.Pairwise fun x y => x.1 < y.1) (hl : L.length ≤ 1000000000000) :
 Calls Tryd.prog 32 #[v, .func (.func 33) #[] #[]] w fun e w' => e = .returned (.tuple #[]) ∧ Mf.Sorted base w w' v K := by
 rcases Dk.Own.form h with ⟨rfl, rfl⟩ | ⟨g, c, rfl, h1, h2, h3, h4⟩
 ·obtain rfl : K = [] := by simpa using hp.symm
  refine (Mf.sort_none _ w).mono ?_
  rintro e w' ⟨rfl, rfl⟩
  exact ⟨rfl, ⟨h, Nat.le_refl _, rfl, rfl, rfl, fun _ _ _ => rfl⟩⟩
 ·have eg : ∀ args w, (callFunc 33 args).run Tryd.prog w = .ok (.enter 33 args) w := enters_of Tryd.func33 (by kernel_rfl) rfl
  have hcmp : CmpLays Tryd.prog 33 #[] Mf.lc 9 Mf.cf g 0 L.toArray.size w := fun _ _ _ _ x y => Mf.closure_c x y _
  have hcon := AnyQ.slices_SortFunc Tryd.sortL 9 (fun _ => rfl) (fun _ => rfl) Mf.lc Mf.lc_len (fun x v hv => Mf.lc_one x v hv) Mf.cf Mf.swo 33 #[] g 0 c L.toArray w eg hcmp (Mf.holds_of h) h4 (by rw [List.size_toArray]; omega)
  rw [List.size_toArray] at hcon
  refine Calls.mono hcon ?_
  rintro e w' ⟨rfl, d', n, os, hpm, hst, rfl⟩
  rw [← List.size_toArray] at hpm
  have hsz : d'.size = L.length := by rw [hpm.1, List.size_toArray]
  have hperm := Mf.perm_all hpm
  rw [List.toList_toArray] at hperm
  have hsorted : d'.toList.Pairwise fun x y => x.1 ≤ y.1 := by
   rw [List.pairwise_iff_getElem]
   intro i j hi hj hij
   have := hst i j (Nat.zero_le _) hij (by rw [Array.length_toList] at hj; omega)
   rw [Mf.ltOf_is] at this
   rw [getElem!_pos d' i (by simpa using hi), getElem!_pos d' j (by simpa using hj)] at this
   have := of_decide_eq_false this
   simpa using this
  have hK : d'.toList = K := Mf.sorted_is (hperm.trans hp) hsorted hk
  refine ⟨rfl, ?_⟩
  have hput := h.put (w := w) d' hsz
  have hahead : Mf.Op base (Sort.ahead w n) (.slice (some ⟨g, 0, none⟩) L.length c) L := h
  have hput := hahead.put d' hsz
  rw [hK] at hput
  have hbw : Below (putRowK Mf.lc 9 (Sort.ahead w n) g 0 d').heap.size (putRowK Mf.lc 9 (Sort.ahead w n) g 0 d') (sortWorldK Mf.lc 9 w g 0 n d' os) := Mf.below_grow _ os
  refine ⟨hput.kept hbw, ?_, rfl, rfl, rfl, fun j hj hne => ?_⟩
  ·have := hbw.size
   rw [size_putRowK] at this
   exact this
  ·have hj2 : j < (putRowK Mf.lc 9 (Sort.ahead w n) g 0 d').heap.size := by rw [size_putRowK]; exact hj
   exact (hbw.block j hj2).trans (Mf.heap_putRowK _ _ _ _ (fun e => hne (by rw [e]; rfl)))
end
section
open Go.RowKit Go.Maps
def Mf.mkV (z : Option Addr × Nat × Nat) : Value := .slice z.1 z.2.1 z.2.2
theorem Mf.mkV_inv (v : Value) (y : DataW Value × List MemPlace) (h : Mf.slR v = some y) : ∃ c, v = Mf.mkV c := by
 unfold Mf.slR at h
 split at h
 ·rename_i a n c
  exact ⟨(a, n, c), rfl⟩
 ·cases h
theorem Mf.keyInv (key : Value) (kl : Lit) (h : keyOf Tryd.prog 3 key = some kl) : ∃ x, key = Value.int .i64 x := by
 obtain ⟨x, hx, _⟩ := Maps.keyOf_int_inv Tryd.underlying3 h
 exact ⟨x, hx⟩
theorem Mf.filter_or {K : List (Nat × Mf.P)} {p q : Nat × Mf.P → Bool} (h : ∀ x, p x = true → q x = false) : (K.filter fun x => p x || q x).Perm (K.filter p ++ K.filter q) := by
 induction K with
 | nil => exact .refl _
 | cons x K ih =>
   rw [List.filter_cons, List.filter_cons, List.filter_cons]
   cases hp : p x
   ·cases hq : q x
    ·simpa [hp, hq] using ih
    ·simp only [Bool.false_or, if_true, Bool.false_eq_true, if_false]
     exact (ih.cons x).trans (List.perm_middle.symm)
   ·rw [h x hp]
    simp only [Bool.true_or, if_true, Bool.false_eq_true, if_false]
    exact ih.cons x
def Mf.met (K : List (Nat × Mf.P)) (left : Lit → Bool) : List (Nat × Mf.P) := K.filter fun e => !left (.int .i64 e.2.id)
theorem Mf.met_step {K L : List (Nat × Mf.P)} {left : Lit → Bool} {x : Int} (h : L.Perm (Mf.met K left)) (hx : left (.int .i64 x) = true) : (L ++ Mf.of K x).Perm (Mf.met K fun z => left z && !z.sameKey (.int .i64 x)) := by
 refine (h.append_right _).trans ?_
 unfold Mf.met Mf.of
 have e : ∀ y : Nat × Mf.P, (!(left (.int .i64 y.2.id) && !(Lit.int .i64 y.2.id).sameKey (.int .i64 x))) = ((!left (.int .i64 y.2.id)) || (y.2.id == x)) := fun y => by
  by_cases hy : y.2.id = x
  ·have : (Lit.int .i64 y.2.id).sameKey (.int .i64 x) = true := by rw [hy]; simp [Lit.sameKey]
   rw [this]
   simp [hy]
  ·have : (Lit.int .i64 y.2.id).sameKey (.int .i64 x) = false := Maps.sameKey_ne (Mf.key_ne hy)
   simp [this, hy]
 simp only [e]
 exact (Mf.filter_or fun y hy => by
  cases hb : (y.2.id == x)
  ·rfl
  ·have : y.2.id = x := by simpa using hb
   rw [this, hx] at hy
   cases hy).symm
theorem Mf.met_none (K : List (Nat × Mf.P)) {left : Lit → Bool} (h : ∀ kl, left kl = false) : Mf.met K left = K := by
 unfold Mf.met
 exact List.filter_eq_self.2 fun y _ => by rw [h]; rfl
theorem Mf.met_start {K : List (Nat × Mf.P)} {D : DataW Value} {m : Int → Option Value} (hr : Mf.Rds D m) (hm : ∀ x, m x = none → Mf.of K x = []) : Mf.met K (Maps.has D) = [] := by
 unfold Mf.met
 refine List.filter_eq_nil_iff.2 fun y hy => ?_
 rw [hr.has]
 cases hx : m y.2.id with
 | some v => simp
 | none =>
   have h0 := hm _ hx
   unfold Mf.of at h0
   rw [List.filter_eq_nil_iff] at h0
   exact absurd (h0 y hy) (by simp)
theorem Mf.met_len (K : List (Nat × Mf.P)) (left : Lit → Bool) : (Mf.met K left).length ≤ K.length := List.length_filter_le _ _
theorem Mf.Op.src {base : Nat} {w : World} {v : Value} {L : List (Nat × Mf.P)} (h : Mf.Op base w v L) : Dk.Src Mf.lc w v L := by
 rcases Dk.Own.form h with ⟨rfl, rfl⟩ | ⟨g, c, rfl, _, _, _, _⟩
 ·exact .inl ⟨rfl, rfl⟩
 ·refine .inr ⟨_, c, rfl, Dk.src_cells Mf.lc_len (by decide) fun i j x hi hj => ?_⟩
  rw [Nat.zero_add]
  exact Dk.Own.cell Mf.lc_len h rfl hi hj
theorem Mf.wpList_op {base : Nat} {w0 : World} {v : Value} {M : List (Nat × Mf.P)} (K : List (Nat × Mf.P)) (hown : Mf.Op base w0 v M) (hb : base ≤ w0.heap.size) (hl : M.length + K.length ≤ 1500000000000) {u : Value} (hu : Dk.Src Mf.lc w0 u K)
 {ops : Array Oper} {rest : List Oper} {o : Oper} {a : Act} {Q : Exit → Act → World → Prop} (s x : Operand) (hgd : Region.wanted o (yielded ops a.tmps) = true)
 (ho : o.op = .call { callee := .builtin .append, args := #[s, x], argTypes := #[72, 72] })
 (hs : a.eval s = v) (hx : a.eval x = u)
 (h : ∀ v' w', Mf.Op base w' v' (M ++ K) → Ty.Grew w0 w' v v' → wpList Tryd.prog ops Q rest (a.put o.dst v') w') :
 wpList Tryd.prog ops Q (o :: rest) a w0 :=
 Dk.wpList_append 72 _ 88 Tryd.underlying72 Mf.infoL rfl (by decide) Mf.lc_len Mf.lc_one K hown hb (by omega) (by omega) hu s x hgd ho hs hx h
theorem Mf.results_cell {fn : Func} {p : Tmp} {ty : TypeId} (h : fn.results = #[.cell p ty]) (tmps : Array Value) (P : Program) (w : World) :
 (results fn tmps).run P w = ((asAddr (tmps.getD p undef)).run P w).andThen fun a w1 => (loadVar ty a).run P w1 := by
 simp only [results, h]
 simp [Sem.run_bind, Result.andThen]
theorem Mf.Ps.form3 {w : World} {v : Value} {L : List Mf.P} (h : Mf.Ps w v L) : ∃ a n c, v = .slice a n c := by
 obtain ⟨a, c, rfl, -⟩ := h
 exact ⟨_, _, _, rfl⟩
set_option maxHeartbeats 8000000 in
set_option maxRecDepth 100000 in
theorem Mf.state_c {B : Nat} {w : World} {q : Nat} {K : List (Nat × Mf.P)} {pl : Nat} {f n : Int} (h : Mf.Bk B w q K pl f n) (hpl : pl ≤ 1000000000000) :
 Calls Tryd.prog 16 #[.pointer (some ⟨q, 0, none⟩)] w fun e w' => ∃ u, e = .returned (Mf.sv u ⟨K.map (·.2), f, n⟩) ∧ Mf.Ow w.heap.size w' u (K.map (·.2)) ∧ Below w.heap.size w w' := by
 obtain ⟨b, m, h⟩ := h
 have HB0 := Lib.hid h
 have hlen := Nat.le_trans (Mf.lt_len h.asc h.lt) hpl
 obtain ⟨D, hown, hr⟩ := h.map
 have HR := Lib.hid hr
 have HM0 := Lib.hid (Mf.met_start hr h.none_)
 have hA : Below w.heap.size w (w.alloc (.cells #[.slice none 0 0, .int .i64 0, .int .i64 0] 25)) := (Below.refl _ _).alloc (Nat.le_refl _) _
 have hsz : (w.alloc (.cells #[.slice none 0 0, .int .i64 0, .int .i64 0] 25)).heap.size = w.heap.size + 1 := World.size_alloc ..
 have hyr := heap_alloc_new w (.cells #[.slice none 0 0, .int .i64 0, .int .i64 0] 25)
 have hown1 := hown.alloc (.cells #[.slice none 0 0, .int .i64 0, .int .i64 0] 25)
 obtain ⟨⟨c0, -⟩, -⟩ := (h.kept hA).four
 have HLN := Lib.hid hlen
 have HQ : Hid (q < w.heap.size ∧ b < w.heap.size) := Lib.hid ⟨lt_of_block h.box, h.map.lt⟩
 have HA := Lib.hid hA
 have HYR := Lib.hid hyr
 have HSZ := Lib.hid hsz
 clear h hpl hlen hown hr hA hyr
 go_enter Tryd.func16, Tryd.ntmps16
 go_wp2_with (first
  | (at_range; refine wpList_range_own _ rfl _ 60 rfl 3 72 Mf.keyed Tryd.underlying60 _ b pl _ rfl hown1 ?_; intro w0 hrg0 hg0 hs0)
  | go_in)
 generalize hwo : w.alloc _ = w1 at HA HYR HSZ hsz hown1 c0 hrg0 hg0 hs0 ⊢
 clear hwo hown1 c0
 rw [hsz] at hrg0 hs0
 rw [hsz]
 go_frame
 have HW0 : Hid (Below w.heap.size w w0) := Lib.hid (HA.out.grown hg0 HA.out.size (fun j hj => by simp at hj))
 have HY0 : Hid (w0.heap[w.heap.size]? = some (.cells #[.slice none 0 0, .int .i64 0, .int .i64 0] 25 (0, 0))) := Lib.hid ((hg0.block w.heap.size (by have := HSZ.out; omega) (by simp)).trans HYR.out)
 go_loopw [3] (fun v wr => ∃ (left : Lit → Bool) (cnt : Nat) (L1 : List (Nat × Mf.P)), wr.ranges Tryd.prog 3 Mf.slR b (w.heap.size + 1) pl D left cnt ∧ Mf.Op (w.heap.size + 2) wr v L1 ∧ L1.Perm (Mf.met K left) ∧ Below w.heap.size w wr ∧ wr.heap[w.heap.size]? = some (.cells #[.slice none 0 0, .int .i64 0, .int .i64 0] 25 (0, 0)) ∧ w.heap.size + 2 ≤ wr.heap.size) (fun _ wr => wr.rangeLeft b (w.heap.size + 1))
 case atStart => exact ⟨_, _, [], hrg0, Mf.Op.nil _ _, by rw [HM0.out], HW0.out, HY0.out, by omega⟩
 case round =>
  obtain ⟨left, cnt, L1, hrg, hO, hP, hB, hY, hS⟩ := hrel
  have HO := Lib.hid hO
  have HP := Lib.hid hP
  have HB := Lib.hid hB
  have HY := Lib.hid hY
  have HS := Lib.hid hS
  clear hO hP hB hY hS hrg0 hg0 hs0
  go_wp2_with (first
   | (at_next; refine wpList_next_ranges _ rfl _ rfl 3 Mf.keyed Mf.slR (Value.int .i64) Mf.mkV Mf.keyInv Mf.mkV_inv b (w.heap.size + 1) pl _ _ _ rfl hrg ?_ ?_)
   | go_in)
  ·intro hc0 hl0
   have HPK : Hid (L1.Perm K) := Lib.hid (by have := HP.out; rwa [Mf.met_none K hl0] at this)
   clear hc0 hl0 hrg
   have hsort := Mf.sort_c HO.out HPK.out HB0.out.asc (by rw [HPK.out.length_eq]; exact HLN.out)
   go_wp2_with fail
   with_reducible refine hsort.mono ?_
   rintro e w3 ⟨rfl, hSD⟩
   have hown := fun j hj => World.ownsRow.lt HO.out j hj
   have hB3 : Below w.heap.size w w3 := HB.out.trans ((hSD.below HS.out (fun j hj => (hown j hj).1)).mono (Nat.le_add_right _ 2))
   have hbm3 := HB0.out.kept hB3
   obtain ⟨⟨-, -, c2, c3⟩, -⟩ := hbm3.four
   have HO3 := Lib.hid hSD.row
   have HB3 := Lib.hid hB3
   have HY3 : Hid (w3.heap[w.heap.size]? = some (.cells #[.slice none 0 0, .int .i64 0, .int .i64 0] 25 (0, 0))) := Lib.hid ((hSD.block w.heap.size (by have := HS.out; omega) (fun e => by have := (hown _ e.symm).1; omega)).trans HY.out)
   have HS3 : Hid (w.heap.size + 2 ≤ w3.heap.size) := Lib.hid (Nat.le_trans HS.out hSD.size)
   have hAz : Below w3.heap.size w3 (w3.alloc (.cells #[.slice none 0 0, .int .i64 0, .int .i64 0] 25)) := (Below.refl _ _).alloc (Nat.le_refl _) _
   obtain ⟨⟨-, -, d2, d3⟩, -⟩ := (hbm3.kept hAz).four
   obtain ⟨⟨n0, n1, n2⟩, z0, z1, z2⟩ := Mf.three (heap_alloc_new w3 (.cells #[.slice none 0 0, .int .i64 0, .int .i64 0] 25))
   clear hSD hown hB3 hbm3 hsort hAz
   go_wp2_with fail
   go_region
   obtain ⟨a9, c9, rfl⟩ := HO3.out.form
   have hA4 : Below w3.heap.size w3 (w3.alloc (.cells #[.slice none 0 0, .int .i64 f, .int .i64 n] 25)).drew := (Kn.below_drewN ((Below.refl _ _).alloc (Nat.le_refl _) _) 1)
   have hs4 : (w3.alloc (.cells #[.slice none 0 0, .int .i64 f, .int .i64 n] 25)).drew.heap.size = w3.heap.size + 1 := World.size_alloc ..
   have hsb : (w3.alloc (.cells #[.slice none 0 0, .int .i64 f, .int .i64 n] 25)).drew.heap[w3.heap.size]? = some (.cells #[.slice none 0 0, .int .i64 f, .int .i64 n] 25 (0, 0)) := heap_alloc_new w3 _
   obtain ⟨sb, hsbq⟩ : ∃ sb, sb = w3.heap.size := ⟨_, rfl⟩
   have HO4 := Lib.hid (HO3.out.kept hA4)
   have HB4 := Lib.hid (HB3.out.trans (hA4.mono HB3.out.size))
   have HY4 := Lib.hid ((hA4.block w.heap.size (by have := HS3.out; omega)).trans HY3.out)
   have HSB := Lib.hid hsb
   have HS4 := Lib.hid hs4
   have hln9 : (K.length : Int) ≤ 1000000000000 := by have := HLN.out; omega
   generalize (w3.alloc (.cells #[.slice none 0 0, .int .i64 f, .int .i64 n] 25)).drew = w4 at HO4 HB4 HY4 HSB HS4 ⊢
   rw [← hsbq] at HSB HS4 ⊢
   have HWS : Hid (w.heap.size + 2 ≤ sb) := Lib.hid (by have := HS3.out; omega)
   have HVG : Hid (∀ j, (Value.slice a9 K.length c9).ownBlock = some j → j < sb) := Lib.hid fun j hj => by rw [hsbq]; exact (World.ownsRow.lt HO3.out j hj).2
   clear hA4 hs4 hsb hsbq c2 c3 d2 d3 n0 n1 n2 z0 z1 z2 HO3 HB3 HY3 HS3 HO HP HB HY HS HPK
   go_wp2_with fail
   go_loopw [34] (fun i wr => ∃ (k : Nat) (u : Value), k ≤ K.length ∧ i = .int .i64 k ∧ wr.heap[sb]? = some (.cells #[u, .int .i64 f, .int .i64 n] 25 (0, 0)) ∧ Mf.Ow (sb + 1) wr u ((K.map (·.2)).take k) ∧ Mf.Op (w.heap.size + 2) wr (.slice a9 K.length c9) K ∧ wr.heap[w.heap.size]? = some (.cells #[.slice none 0 0, .int .i64 0, .int .i64 0] 25 (0, 0)) ∧ Below w.heap.size w wr ∧ sb + 1 ≤ wr.heap.size) (fun i _ => K.length - (intOf i).toNat)
   case atStart => exact ⟨0, _, Nat.zero_le _, rfl, HSB.out, Mf.Ow.nil _ _, HO4.out, HY4.out, HB4.out, by have := HS4.out; omega⟩
   case round =>
    obtain ⟨k, u, hk, rfl, hbx, hU, hO, hY, hB, hS⟩ := hrel
    have hk0 : (0 : Int) ≤ (k : Int) := by omega
    have HBX := Lib.hid hbx
    have HU := Lib.hid hU
    have HO := Lib.hid hO
    have HY := Lib.hid hY
    have HB := Lib.hid hB
    have HS := Lib.hid hS
    obtain ⟨au, lu, cu, rfl⟩ := hU.ps.form3
    by_cases hkl : k < K.length
    ·have hx := List.getElem?_eq_getElem hkl
     generalize K[k] = x at hx
     have hKn : K ≠ [] := fun e => by rw [e] at hkl; simp at hkl
     obtain ⟨g, hg1, hg2, hg3⟩ := hO.blk hKn
     obtain rfl : a9 = some ⟨g, 0, none⟩ := by
      rcases Dk.Own.form hO with ⟨_, e0⟩ | ⟨g', c', e, _⟩
      ·exact absurd e0 hKn
      ·simp only [Value.slice.injEq] at e
       obtain ⟨rfl, -, -⟩ := e
       simpa [Value.ownBlock] using hg1
     have cx := fun j (hj : j < 9) => Dk.Own.cell Mf.lc_len hO (g := g) rfl hx hj
     have x0 := cx 0 (by decide)
     have x1 := cx 1 (by decide)
     have x2 := cx 2 (by decide)
     have x3 := cx 3 (by decide)
     have x4 := cx 4 (by decide)
     have x5 := cx 5 (by decide)
     have x6 := cx 6 (by decide)
     have x7 := cx 7 (by decide)
     have x8 := cx 8 (by decide)
     have HTK : Hid ((K.map (·.2)).take (k + 1) = (K.map (·.2)).take k ++ [x.2]) := Lib.hid (by rw [List.take_add_one, List.getElem?_map, hx]; rfl)
     have hki : (k : Int) < (K.length : Int) := by omega
     obtain ⟨p, ⟨id, lv, ⟨an, ai, sa⟩, ⟨bn, bi, sb9⟩⟩⟩ := x
     simp only [Mf.lc, List.getElem?_cons_zero, List.getElem?_cons_succ] at x0 x1 x2 x3 x4 x5 x6 x7 x8
     rw [Nat.add_zero] at x0
     have hAp : Below wr.heap.size wr (wr.alloc (.cells #[.int .i64 (p : Int), .int .i64 id, .int .i64 lv, .bool an, .int .i64 ai, .string sa, .bool bn, .int .i64 bi, .string sb9] 75)) := (Below.refl _ _).alloc (Nat.le_refl _) _
     obtain ⟨⟨s0, s1, s2⟩, -⟩ := Mf.three ((hAp.block sb (by omega)).trans hbx)
     have hszp : (wr.alloc (.cells #[.int .i64 (p : Int), .int .i64 id, .int .i64 lv, .bool an, .int .i64 ai, .string sa, .bool bn, .int .i64 bi, .string sb9] 75)).heap.size = wr.heap.size + 1 := World.size_alloc ..
     have hsrc := Mf.src_cs (Mf.PA.new (wr.alloc (.cells #[.int .i64 (p : Int), .int .i64 id, .int .i64 lv, .bool an, .int .i64 ai, .string sa, .bool bn, .int .i64 bi, .string sb9] 75)) ⟨id, lv, ⟨an, ai, sa⟩, ⟨bn, bi, sb9⟩⟩ 44)
     have hU2 : Mf.Ow (sb + 1) ((wr.alloc (.cells #[.int .i64 (p : Int), .int .i64 id, .int .i64 lv, .bool an, .int .i64 ai, .string sa, .bool bn, .int .i64 bi, .string sb9] 75)).alloc (.cells #[.int .i64 id, .int .i64 lv, .bool an, .int .i64 ai, .string sa, .bool bn, .int .i64 bi, .string sb9] 44)) (.slice au lu cu) ((K.map (·.2)).take k) := World.ownsRow.alloc (World.ownsRow.alloc hU _) _
     have hA2 := hAp.alloc hAp.size (.cells #[.int .i64 id, .int .i64 lv, .bool an, .int .i64 ai, .string sa, .bool bn, .int .i64 bi, .string sb9] 44)
     have hs2 : sb + 1 ≤ ((wr.alloc (.cells #[.int .i64 (p : Int), .int .i64 id, .int .i64 lv, .bool an, .int .i64 ai, .string sa, .bool bn, .int .i64 bi, .string sb9] 75)).alloc (.cells #[.int .i64 id, .int .i64 lv, .bool an, .int .i64 ai, .string sa, .bool bn, .int .i64 bi, .string sb9] 44)).heap.size := Nat.le_trans hS hA2.size
     have hll : ((K.map (·.2)).take k).length + [(⟨id, lv, ⟨an, ai, sa⟩, ⟨bn, bi, sb9⟩⟩ : Mf.P)].length ≤ 1500000000000 := by rw [List.length_take, List.length_map]; simp only [List.length_singleton]; omega
     rw [hszp] at hsrc
     have HU2 := Lib.hid hU2
     have HA2 := Lib.hid hA2
     have HG := Lib.hid (And.intro hg2 hg3)
     clear hx hKn hg1 hg2 hg3 cx hbx hU hO hY hB hS hAp hA2 hszp
     go_wp2_with (at_builtin; refine Mf.wpList_part [⟨id, lv, ⟨an, ai, sa⟩, ⟨bn, bi, sb9⟩⟩] hU2 hs2 hll hsrc (.tmp 39) (.tmp 42) (by rfl) (by rfl) (by rfl) (by rfl) ?_; intro v6 w6 o6 g6; obtain ⟨gv, cv, rfl, -, -⟩ := Dk.Own.form1 o6; have f6 := frozen_of_row w6 sb 0 _ _ ((g6.by_.block sb (by omega) (fun e => by have := (World.ownsRow.lt HU2.out _ e.symm).1; omega)).trans ((HA2.out.block sb (by have := HS.out; omega)).trans HBX.out)); obtain ⟨⟨t0, -⟩, -⟩ := Mf.three ((g6.by_.block sb (by omega) (fun e => by have := (World.ownsRow.lt HU2.out _ e.symm).1; omega)).trans ((HA2.out.block sb (by have := HS.out; omega)).trans HBX.out)); have O6 := Lib.hid o6; have G6 := Lib.hid g6; clear o6 g6)
     have HS2 := Lib.hid hs2
     have HOL : Hid (∀ j, j < wr.heap.size → j < sb + 1 → w6.heap[j]? = wr.heap[j]?) := Lib.hid fun j hj hj2 => (G6.out.by_.block j (by have := HS2.out; omega) (fun e => by have := (World.ownsRow.lt HU2.out _ e.symm).1; omega)).trans (HA2.out.block j hj)
     clear hsrc hU2 hs2 hll
     go_roundw
     case rel => exact ⟨k + 1, _, by omega, by simp, heap_setCell_same w6 sb 0 _ _ _ ((HOL.out sb (by have := HS.out; omega) (by omega)).trans HBX.out),
      by rw [HTK.out]; have o6 := O6.out; rw [show ((K.map (·.2)).take k).length = k from by rw [List.length_take, List.length_map]; omega] at o6; exact Dk.Own.same o6 (fun j hj => Below.heap_setCell _ _ _ _ (by show j ≠ sb; have := (World.ownsRow.lt O6.out j hj).1; omega)),
      HO.out.at_blk (fun j hj => by
       obtain rfl : g = j := by simpa [Value.ownBlock] using hj
       have hgs := HVG.out g rfl
       exact (Below.heap_setCell _ _ _ _ (by show g ≠ sb; omega)).trans (HOL.out g HG.out.2 (by omega))),
      (Below.heap_setCell _ _ _ _ (by show w.heap.size ≠ sb; have := HWS.out; omega)).trans ((HOL.out w.heap.size (by have := HS.out; have := HWS.out; omega) (by have := HWS.out; omega)).trans HY.out),
      Mf.below1 ((HB.out.trans ((HA2.out).mono HB.out.size)).trans (G6.out.below (by have := HS2.out; have := HWS.out; omega) (fun k hk => by have := (World.ownsRow.lt HU2.out k hk).1; have := HWS.out; omega))) (by have := HWS.out; omega) _ _,
      by have := G6.out.by_.size; have := HS2.out; simp only [World.setCell, Array.size_modify]; omega⟩
     case measure => simp [intOf]; omega
    ·obtain rfl : k = K.length := by omega
     have hki : ¬ (K.length : Int) < (K.length : Int) := by omega
     obtain ⟨⟨s0, s1, s2⟩, -⟩ := Mf.three hbx
     obtain ⟨⟨y0, y1, y2⟩, z0, z1, z2⟩ := Mf.three hY
     have hps : Mf.Ow w.heap.size wr (.slice au lu cu) _ := World.ownsRow.mono hU (by have := HWS.out; omega)
     have hmap : (K.map (·.2)).take K.length = K.map (·.2) := List.take_of_length_le (by rw [List.length_map]; exact Nat.le_refl _)
     rw [hmap] at hps
     have HPF := Lib.hid (Mf.at_off hps hY (by decide) (Mf.heap3 wr w.heap.size (.slice au lu cu) (.int .i64 f) (.int .i64 n)))
     have HBF := Lib.hid (Mf.below3 (q := w.heap.size) hB (Nat.le_refl _) (.slice au lu cu) (.int .i64 f) (.int .i64 n))
     clear hk hkl hk0 hbx hU hO hY hB hS hps hmap
     go_wp2
     (try simp only [Exit.inBlock, Exit.then])
     refine bodyPost_ret (v := .agg #[.slice au lu cu, .int .i64 f, .int .i64 n]) ?_ rfl ⟨_, rfl, HPF.out, HBF.out⟩
     rw [Mf.results_cell rfl]
     go_simp
  ·intro x a9 n9 c9 kl yd yp w3 cnt1 hkey hlk hv hat hrg1 hlt hg1 hs1 hen
   obtain ⟨x', ex, rfl, hwf⟩ := Maps.keyOf_int_inv Tryd.underlying3 hkey
   obtain rfl : x = x' := by simpa using ex
   have hmx : m x = some (.slice a9 n9 c9) := by
    have hyd : yd = .held (.slice a9 n9 c9) := by
     simp only [Mf.mkV, Mf.slR, Option.some.injEq, Prod.mk.injEq] at hv
     exact hv.1.symm
    have e := hat .nil
    rw [HR.out x .nil, hyd] at e
    cases hm : m x with
    | none => rw [hm] at e; cases e
    | some u => rw [hm] at e; simp only [DataW.held.injEq] at e; rw [e]
   have hB3 : Below w.heap.size w w3 := HB.out.grown hg1 HB.out.size (fun j hj => by cases hj; exact Nat.le_succ _)
   have hbm3 := HB0.out.kept hB3
   have hsrc := (hbm3.some_ x _ hmx).1.src
   have hlen2 : (L1 ++ Mf.of K x).length ≤ K.length := by
    rw [(Mf.met_step HP.out hlk).length_eq]
    exact Mf.met_len _ _
   have hlen : L1.length + (Mf.of K x).length ≤ 1500000000000 := by
    rw [List.length_append] at hlen2
    have := HLN.out
    omega
   have hbase := fun j hj => World.ownsRow.lt HO.out j hj
   have hO3 := HO.out.at_blk (w' := w3) fun j hj => hg1.block j (hbase j hj).2 (fun e => by have := (hbase j hj).1; have := Option.some.inj e; omega)
   have hbs : w.heap.size + 2 ≤ w3.heap.size := by have := HS.out; omega
   have HRG := Lib.hid hrg1
   have HOLD := Lib.hid hrg
   have HLT := Lib.hid hlt
   have HO3 := Lib.hid hO3
   have HB3 := Lib.hid hB3
   have HY3 : Hid (w3.heap[w.heap.size]? = some (.cells #[.slice none 0 0, .int .i64 0, .int .i64 0] 25 (0, 0))) := Lib.hid ((hg1.block w.heap.size (by have := HS.out; omega) (fun e => by have := Option.some.inj e; omega)).trans HY.out)
   have HP3 := Lib.hid (Mf.met_step HP.out hlk)
   have HBS := Lib.hid hbs
   have hen' : (Instr.entry (.pointer (some ⟨w.heap.size + 1, 0, none⟩))).run Tryd.prog w3 = .ok (.tuple #[.int .i64 x, .slice a9 n9 c9]) w3 := hen
   clear hkey hlk hv hat hrg1 hlt hg1 hs1 ex hmx hB3 hbm3 hlen2 hbase hrg hen hwf
   change wpList _ _ _ _ (_ : Act) w3
   unfold Mf.mkV
   go_wp2_with (at_builtin; refine Mf.wpList_op (Mf.of K x) hO3 hbs hlen hsrc (.tmp 18) (.tmp 19) (by rfl) (by rfl) (by rfl) (by rfl) ?_; intro v5 w5 o5 g5)
   have O5 := Lib.hid o5
   have G5 := Lib.hid g5
   have HRN := Lib.hid (HRG.out.kept g5.by_ (fun e => by
    obtain ⟨cs, hc⟩ := HO3.out.typed e.symm
    obtain ⟨es, cc, hbm⟩ := (HB0.out.kept HB3.out).map.isMap
    exact Mf.apart_map hc hbm rfl) (fun e => by have := (World.ownsRow.lt HO3.out _ e.symm).1; omega))
   clear o5 g5 hO3 hsrc hlen
   go_roundw
   case rel => exact ⟨_, _, _, HRN.out, O5.out, HP3.out, HB3.out.trans (G5.out.below (Nat.le_trans (Nat.le_trans (Nat.le_add_right _ 2) HBS.out) (Nat.le_refl _)) (fun k hk => by have := (World.ownsRow.lt HO3.out k hk).1; omega)),
    (G5.out.by_.block w.heap.size (by have := HBS.out; omega) (fun e => by have := (World.ownsRow.lt HO3.out _ e.symm).1; omega)).trans HY3.out, Nat.le_trans HBS.out G5.out.by_.size⟩
   case measure => (rw [HRN.out.left_eq, HOLD.out.left_eq]; exact HLT.out)
end
section
open Go.RowKit Go.Maps
theorem Mf.Ps.len_le {w : World} {v : Value} {L : List Mf.P} (h : Mf.Ps w v L) : ∃ a c, v = .slice a L.length c := by
 obtain ⟨a, c, e, -⟩ := h.form
 exact ⟨a, c, e⟩
theorem Mf.Bk.new (w : World) (B : Nat) (hB : B ≤ w.heap.size) (f n : Int) :
 Mf.Bk B ((w.alloc (.map #[] 0)).alloc (.cells #[.map (some w.heap.size), .int .i64 0, .int .i64 f, .int .i64 n] 62)) (w.heap.size + 1) [] 0 f n := by
 refine ⟨w.heap.size, fun _ => none, ?_, ?_, ?_, ?_, ?_, by omega, hB, List.Pairwise.nil, ?_, ?_⟩
 ·have := heap_alloc_new (w.alloc (.map #[] 0)) (.cells #[.map (some w.heap.size), .int .i64 0, .int .i64 f, .int .i64 n] 62)
  rw [World.size_alloc] at this
  exact this
 ·exact (Mf.PM.made w).same (((Below.refl _ _).alloc (Nat.le_refl _) _).block w.heap.size (by rw [World.size_alloc]; omega))
 ·intro x v h; cases h
 ·intro x _; rfl
 ·intro x y u v _ h; cases h
 ·intro y h; cases h
 ·intro y h; cases h
set_option maxHeartbeats 4000000 in
set_option maxRecDepth 100000 in
theorem Mf.bookOf_c (u : Value) (s : Mf.S) (w : World) (hp : Mf.Ps w u s.parts) (hk : ∀ p ∈ s.parts, Ty.I64 p.id) (hl : s.parts.length ≤ 1000000000000) :
 Calls Tryd.prog 13 #[Mf.sv u s] w fun e w' => ∃ q K, e = .returned (.pointer (some ⟨q, 0, none⟩)) ∧ Mf.Bk w.heap.size w' q K s.parts.length s.floor s.next ∧ K.map (·.2) = s.parts ∧ Below w.heap.size w w' := by
 obtain ⟨L, f, n⟩ := s
 unfold Mf.sv
 simp only at hp hk hl ⊢
 obtain ⟨a, c, rfl⟩ := hp.len_le
 obtain ⟨w0, hw0⟩ : ∃ w0, w0 = w.alloc (.cells #[.slice a L.length c, .int .i64 f, .int .i64 n] 25) := ⟨_, rfl⟩
 have hb0 : Below w.heap.size w w0 := by rw [hw0]; exact (Below.refl _ _).alloc (Nat.le_refl _) _
 have hs0 : w0.heap.size = w.heap.size + 1 := by rw [hw0]; exact World.size_alloc ..
 obtain ⟨c0, c1, c2⟩ : Mf.SA w0 w.heap.size (.slice a L.length c) f n := by rw [hw0]; exact Mf.SA.new w _ f n _
 obtain ⟨w1, hw1⟩ : ∃ w1, w1 = w0.alloc (.map #[] 0) := ⟨_, rfl⟩
 obtain ⟨w2, hw2⟩ : ∃ w2, w2 = w1.alloc (.cells #[.map (some w0.heap.size), .int .i64 0, .int .i64 f, .int .i64 n] 62) := ⟨_, rfl⟩
 have hb1 : Below w0.heap.size w0 w1 := by rw [hw1]; exact (Below.refl _ _).alloc (Nat.le_refl _) _
 have hs1 : w1.heap.size = w.heap.size + 2 := by rw [hw1, World.size_alloc, hs0]
 have hb2 : Below w0.heap.size w0 w2 := by rw [hw2]; exact hb1.alloc hb1.size _
 have hbk := Mf.Bk.new w0 w.heap.size (by omega) f n
 rw [← hw1, ← hw2, hs0] at hbk
 obtain ⟨d0, d1, d2⟩ : Mf.SA w1 w.heap.size (.slice a L.length c) f n := Mf.SA.kept ⟨c0, c1, c2⟩ hb1
 obtain ⟨e0, e1, e2⟩ : Mf.SA w2 w.heap.size (.slice a L.length c) f n := Mf.SA.kept ⟨c0, c1, c2⟩ hb2
 have HBK := Lib.hid hbk
 have HB := Lib.hid (hb0.trans (hb2.mono hb0.size))
 have HP := Lib.hid hp
 have HKI := Lib.hid hk
 have HL := Lib.hid hl
 have hln : (L.length : Int) ≤ 1000000000000 := by omega
 have hmm := @run_makeMap Tryd.prog
 rw [hw1] at d0 d1 d2
 rw [hs0] at hw2
 clear hp hk hl hb0 hb1 hb2 hbk
 go_enter Tryd.func13, Tryd.ntmps13
 go_wp2_with fail
 rw [← hw0]
 clear hw0
 go_wp2_with fail
 rw [← hw1, ← hw2]
 clear hw1 hw2 c0 c1 c2 d0 d1 d2 hmm
 go_wp2_with fail
 go_loopw [16] (fun i wr => ∃ (k : Nat) (K : List (Nat × Mf.P)), k ≤ L.length ∧ i = .int .i64 k ∧ Mf.Bk w.heap.size wr (w.heap.size + 2) K k f n ∧ K.map (·.2) = L.take k ∧ Below w.heap.size w wr) (fun i _ => L.length - (intOf i).toNat)
 case atStart => exact ⟨0, [], Nat.zero_le _, rfl, HBK.out, rfl, HB.out⟩
 case round =>
  obtain ⟨k, K, hk, rfl, hK, hm, hB⟩ := hrel
  have hk0 : (0 : Int) ≤ (k : Int) := by omega
  have HK := Lib.hid hK
  have HM := Lib.hid hm
  have HBB := Lib.hid hB
  by_cases hkl : k < L.length
  ·have hx := List.getElem?_eq_getElem hkl
   have hmem := List.getElem_mem hkl
   generalize L[k] = p at hx hmem
   obtain ⟨b1, o1, rfl, ⟨p0, p1, p2, p3, p4, p5, p6, p7⟩⟩ := Mf.Ps.at_ (HP.out.kept hB) hx
   have hki : (k : Int) < (L.length : Int) := by omega
   have hA : Below wr.heap.size wr (wr.alloc (.cells (Mf.cs p) 44)) := (Below.refl _ _).alloc (Nat.le_refl _) _
   have HBA := Lib.hid (hB.trans (hA.mono hB.size))
   have hpn := Mf.PA.new wr p 44
   have CADD := Mf.add_c (hK.kept hA) (HBA.out.size) p (HKI.out p hmem) (by have := HL.out; omega)
   have HNX : Hid ((K ++ [(k, p)]).map (·.2) = L.take (k + 1)) := Lib.hid (by rw [List.map_append, HM.out, List.take_add_one, hx]; rfl)
   obtain ⟨id, lv, ⟨an, ai, sa⟩, ⟨bn, bi, sb⟩⟩ := p
   unfold Mf.P.val Mf.cs at CADD
   unfold Mf.cs at hpn
   simp only at p0 p1 p2 p3 p4 p5 p6 p7 hpn CADD
   obtain ⟨s0, s1, s2, s3, s4, s5, s6, s7⟩ := hpn
   clear hx hmem hK hm hB hA
   go_wp2_with fail
   with_reducible refine CADD.mono ?_
   rintro e w5 ⟨rfl, hK5, hT5⟩
   have HK5 := Lib.hid hK5
   have HT5 := Lib.hid (HBA.out.trans hT5.below)
   clear hK5 hT5 CADD
   go_wp2
   go_roundw
   case rel => exact ⟨k + 1, _, by omega, by simp, HK5.out, HNX.out, HT5.out⟩
   case measure => simp [intOf]; omega
  ·obtain rfl : k = L.length := by omega
   have hki : ¬ (L.length : Int) < (L.length : Int) := by omega
   rw [List.take_length] at hm
   have HM2 := Lib.hid hm
   clear hk hkl hk0 hK hm hB HM
   go_wp2
   go_ret
   exact ⟨_, rfl, K, HK.out, HM2.out, HBB.out⟩
end
section
open Go.RowKit Go.Maps
set_option maxHeartbeats 4000000 in
set_option maxRecDepth 100000 in
theorem Mf.apply_c (vs vd va : Value) (s : Mf.S) (e : Mf.E) (w : World) (hs : Mf.Ps w vs s.parts) (hd : Mf.Is w vd e.drop) (ha : Mf.Ps w va e.add) (hk : ∀ p ∈ s.parts, Ty.I64 p.id) (hl : s.parts.length ≤ 999999998000) :
 Calls Tryd.prog 10 #[Mf.sv vs s, .agg #[vd, va, .int .i64 e.floor, .int .i64 e.next]] w (Mf.GotS w (Mf.ap s e)) := by
 obtain ⟨L, f0, n0⟩ := s
 obtain ⟨D, A, fl, nx⟩ := e
 unfold Mf.sv
 simp only at hs hd ha hk hl ⊢
 obtain ⟨wa, hwa⟩ : ∃ wa, wa = w.alloc (.cells #[vs, .int .i64 f0, .int .i64 n0] 25) := ⟨_, rfl⟩
 obtain ⟨wb, hwb⟩ : ∃ wb, wb = wa.alloc (.cells #[vd, va, .int .i64 fl, .int .i64 nx] 37) := ⟨_, rfl⟩
 obtain ⟨wc, hwc⟩ : ∃ wc, wc = wb.alloc (.cells #[.slice none 0 0, .int .i64 0, .int .i64 0] 25) := ⟨_, rfl⟩
 have ga : Below w.heap.size w wa := by rw [hwa]; exact (Below.refl _ _).alloc (Nat.le_refl _) _
 have gb : Below wa.heap.size wa wb := by rw [hwb]; exact (Below.refl _ _).alloc (Nat.le_refl _) _
 have gc : Below wb.heap.size wb wc := by rw [hwc]; exact (Below.refl _ _).alloc (Nat.le_refl _) _
 have sa : wa.heap.size = w.heap.size + 1 := by rw [hwa]; exact World.size_alloc ..
 have sb : wb.heap.size = w.heap.size + 2 := by rw [hwb, World.size_alloc, sa]
 have sc : wc.heap.size = w.heap.size + 3 := by rw [hwc, World.size_alloc, sb]
 have gbc : Below wa.heap.size wa wc := gb.trans (gc.mono gb.size)
 have gac : Below w.heap.size w wc := ga.trans (gbc.mono ga.size)
 have hSA : Mf.SA wc w.heap.size vs f0 n0 := by
  have := Mf.SA.new w vs f0 n0 25
  rw [← hwa] at this
  exact this.kept gbc
 have hEA : Mf.EA wc (w.heap.size + 1) vd va fl nx := by
  have := Mf.EA.new wa vd va fl nx 37
  rw [← hwb, sa] at this
  exact this.kept gc
 have hyr : wc.heap[w.heap.size + 2]? = some (.cells #[.slice none 0 0, .int .i64 0, .int .i64 0] 25 (0, 0)) := by
  have := heap_alloc_new wb (.cells #[.slice none 0 0, .int .i64 0, .int .i64 0] 25)
  rw [← hwc, sb] at this
  exact this
 have CB := Mf.bookOf_c vs ⟨L, f0, n0⟩ wc (hs.kept gac) hk (by show L.length ≤ _; omega)
 unfold Mf.sv at CB
 simp only at CB
 have HD := Lib.hid (hd.kept gac)
 have HAA := Lib.hid (ha.kept gac)
 have HEA := Lib.hid hEA
 have HYR := Lib.hid hyr
 have HB := Lib.hid gac
 have HSC := Lib.hid sc
 have HL := Lib.hid hl
 generalize hR : Mf.ap ⟨L, f0, n0⟩ ⟨D, A, fl, nx⟩ = r
 have HR := Lib.hid hR
 obtain ⟨c0, c1, c2⟩ := hSA
 clear hR hs hd ha hk hl ga gb gc gbc gac hEA hyr
 go_enter Tryd.func10, Tryd.ntmps10
 go_wp2_with fail
 rw [← hwa]
 rw [← hwb]
 rw [← hwc]
 clear hwa hwb hwc
 go_wp2_with fail
 with_reducible refine CB.mono ?_
 rintro e w1 ⟨q, K, rfl, hK, hm, hB1⟩
 have HK := Lib.hid hK
 have HM := Lib.hid hm
 have HB1 := Lib.hid hB1
 obtain ⟨e0, e1, e2, e3⟩ := HEA.out.kept hB1
 have CA := Mf.bapply_c hK hB1.size vd va ⟨D, A, fl, nx⟩ (HD.out.kept hB1) (HAA.out.kept hB1) (fun W g => ⟨HD.out.kept (HB1.out.trans g.below), HAA.out.kept (HB1.out.trans g.below)⟩) HL.out
 rw [hm] at CA
 simp only at CA
 rw [HR.out] at CA
 unfold Mf.GotB at CA
 clear hK hm hB1 CB c0 c1 c2
 go_wp2_with fail
 with_reducible refine CA.mono ?_
 rintro e w2 ⟨hT, ⟨hr, rfl⟩ | ⟨t, K', pl', hr, rfl, hK', hm', hpl⟩⟩
 ·have hb2 := HB.out.trans ((HB1.out.trans hT.below).mono HB.out.size)
  have hyr2 := ((HB1.out.trans hT.below).block (w.heap.size + 2) (by have := HSC.out; omega)).trans HYR.out
  obtain ⟨⟨y0, y1, y2⟩, z0, z1, z2⟩ := Mf.three hyr2
  have HF := Lib.hid (Mf.GotS.bad (r := r) hr (Mf.below3 (q := w.heap.size + 2) hb2 (by omega) (.slice none 0 0) (.int .i64 0) (.int .i64 0)))
  clear hr hT hb2 hyr2 CA e0 e1 e2 e3
  go_wp2
  (try simp only [Exit.inBlock, Exit.then])
  refine bodyPost_ret (v := .tuple #[.agg #[.slice none 0 0, .int .i64 0, .int .i64 0], .int .i64 8]) ?_ rfl HF.out
  rw [results_cell_tmp rfl]
  go_simp
 ·have CS := Mf.state_c hK' (by have := HL.out; omega)
  have HT := Lib.hid hT
  have HM' := Lib.hid hm'
  clear hT hK' hm' CA e0 e1 e2 e3
  go_wp2_with fail
  with_reducible refine CS.mono ?_
  rintro e w3 ⟨u, rfl, hu, hB3⟩
  rw [HM'.out] at hu
  have hb2 : Below wc.heap.size wc w2 := HB1.out.trans HT.out.below
  have hb3 := hb2.trans (hB3.mono hb2.size)
  have hyr3 := (hb3.block (w.heap.size + 2) (by have := HSC.out; omega)).trans HYR.out
  obtain ⟨⟨y0, y1, y2⟩, z0, z1, z2⟩ := Mf.three hyr3
  obtain ⟨T, tf, tn⟩ := t
  simp only at hu
  obtain ⟨ua, uc, rfl⟩ := hu.ps.len_le
  have HPF := Lib.hid (World.ownsRow.mono (Mf.at_off hu hyr3 (by decide) (Mf.heap3 w3 (w.heap.size + 2) (.slice ua T.length uc) (.int .i64 tf) (.int .i64 tn))) (HB.out.trans (hb2.mono HB.out.size)).size)
  have HBF := Lib.hid (Mf.below3 (q := w.heap.size + 2) (HB.out.trans (hb3.mono HB.out.size)) (by omega) (.slice ua T.length uc) (.int .i64 tf) (.int .i64 tn))
  have HFF := Lib.hid (Mf.GotS.good (r := r) hr HPF.out HBF.out)
  clear hr hu hB3 hb2 hb3 hyr3 CS
  unfold Mf.sv
  go_wp2
  (try simp only [Exit.inBlock, Exit.then])
  refine bodyPost_ret (v := .tuple #[.agg #[.slice ua T.length uc, .int .i64 tf, .int .i64 tn], .int .i64 0]) ?_ rfl HFF.out
  rw [results_cell_tmp rfl]
  go_simp
end
end Go.Proofs.YteaglaijkafphaaDoor
