import Derived.Test.YtodeodndjkkkbaaTAQ
import Derived.StillTailTactics
import Derived.Test.YtodeodndjkkkbaaRows
import Derived.Below
import Derived.ChangeSame
import Derived.Carry
namespace Go.Proofs.Ytodeodndjkkkbaa
open Go Go.RowKit Go.Lib Go.Sort
theorem Lv.ow8 {base q : Nat} {w : World} {v : Value} {L : List Mf.P} (h : Mf.Ow base w v L) (hq : q < base) (x : Mf.P) :
 Mf.Ow base ((((((((w.setCell ⟨q, 0, none⟩ (.int .i64 x.id)).setCell ⟨q, 1, none⟩ (.int .i64 x.lv)).setCell ⟨q, 2, none⟩ (.bool x.lo.null)).setCell ⟨q, 3, none⟩ (.int .i64 x.lo.n)).setCell ⟨q, 4, none⟩ (.string x.lo.s)).setCell ⟨q, 5, none⟩ (.bool x.hi.null)).setCell ⟨q, 6, none⟩ (.int .i64 x.hi.n)).setCell ⟨q, 7, none⟩ (.string x.hi.s)) v L :=
 Dk.Own.same h fun j hj => Lv.set8_off x (by have := Dk.Own.base_le h j hj; omega)
theorem Lv.two3 {w : World} {q : Nat} {a : Mf.P} {T : TypeId} (h : w.heap[q]? = some (.cells (Mf.cs a) T (0, 0))) (u v : Kn.V) :
 ((((((w.setCell ⟨q, 2, none⟩ (.bool u.null)).setCell ⟨q, 3, none⟩ (.int .i64 u.n)).setCell ⟨q, 4, none⟩ (.string u.s)).setCell ⟨q, 5, none⟩ (.bool v.null)).setCell ⟨q, 6, none⟩ (.int .i64 v.n)).setCell ⟨q, 7, none⟩ (.string v.s)).heap[q]? = some (.cells (Mf.cs ⟨a.id, a.lv, u, v⟩) T (0, 0)) :=
 heap_setCell_same _ _ 7 _ _ _ (heap_setCell_same _ _ 6 _ _ _ (heap_setCell_same _ _ 5 _ _ _ (heap_setCell_same _ _ 4 _ _ _ (heap_setCell_same _ _ 3 _ _ _ (heap_setCell_same _ _ 2 _ _ _ h)))))
theorem Lv.two3_off {w : World} {q : Nat} (x0 x1 x2 x3 x4 x5 : Value) {j : Nat} (h : j ≠ q) : ((((((w.setCell ⟨q, 2, none⟩ x0).setCell ⟨q, 3, none⟩ x1).setCell ⟨q, 4, none⟩ x2).setCell ⟨q, 5, none⟩ x3).setCell ⟨q, 6, none⟩ x4).setCell ⟨q, 7, none⟩ x5).heap[j]? = w.heap[j]? :=
 (Lv.heap3 5 6 7 _ _ _ h).trans (Lv.heap3 2 3 4 _ _ _ h)
theorem Lv.two3_below {B q : Nat} {w0 w : World} (h : Below B w0 w) (hq : B ≤ q) (x0 x1 x2 x3 x4 x5 : Value) : Below B w0 ((((((w.setCell ⟨q, 2, none⟩ x0).setCell ⟨q, 3, none⟩ x1).setCell ⟨q, 4, none⟩ x2).setCell ⟨q, 5, none⟩ x3).setCell ⟨q, 6, none⟩ x4).setCell ⟨q, 7, none⟩ x5) :=
 Lv.below3 (Lv.below3 h hq 2 3 4 x0 x1 x2) hq 5 6 7 x3 x4 x5
set_option maxHeartbeats 2000000 in
set_option maxRecDepth 100000 in
theorem Lv.lawKeeps_w (v : Value) (L : List Mf.P) (w : World) (hL : Mf.Ps w v L) (hl : L.length ≤ 9223372036854775807) (hz : ∀ p ∈ L, Lv.Zp p) :
 Calls Try.prog 5 #[v] w fun e w' => e = .returned (.bool true) ∧ Below w.heap.size w w' := by
 have CL := Lib.hid (Lv.lives_c w)
 have CE := Lib.hid fun (w' : World) (g : Below w.heap.size w w') => Lv.early_c v L w' (hL.kept g) hl
 have hE : (L.take 80).length ≤ 80 := by rw [List.length_take]; omega
 have hzE : ∀ p ∈ L.take 80, Lv.Zp p := fun p hp => hz p (List.mem_of_mem_take hp)
 generalize L.take 80 = E at CE hE hzE
 have HE := Lib.hid hE
 have HZ := Lib.hid hzE
 obtain ⟨va, vc, rfl, -⟩ := hL.form
 clear hL hl hE hz hzE
 go_enter Try.func5, Try.ntmps5
 go_wp2_with fail
 refine (CL.out).mono ?_
 rintro e w1 ⟨rfl, g1⟩
 have HG1 := Lib.hid g1
 clear g1
 go_wp2_with fail
 refine (CE.out _ HG1.out).mono ?_
 rintro e w2 ⟨u, rfl, hu, rfl⟩
 have HPS := Lib.hid hu
 obtain ⟨ea, ec, rfl, -⟩ := hu.form
 clear hu
 have hle : E.length ≤ 1000000000 := by have := HE.out; omega
 cases hcw : Lv.cw E with
 | none =>
   have CP1 := Lib.hid fun (W : World) (h : Mf.Ps W (.slice ea E.length ec) E) => Lv.pick_none _ E W h hle hcw
   clear hcw hle
   go_wp2_with fail
   refine (CP1.out _ HPS.out).mono ?_
   rintro e w3 ⟨rfl, g3⟩
   have HG3 := Lib.hid (HG1.out.trans (g3.mono HG1.out.size))
   clear g3 HPS HG1
   have gb : Below w3.heap.size w3 (w3.alloc (.cells #[.int .i64 0, .int .i64 0, .slice none 0 0, .bool false] 27)) := (Below.refl _ _).alloc (Nat.le_refl _) _
   have HG4 := Lib.hid (HG3.out.trans (gb.mono HG3.out.size))
   clear gb HG3
   go_upto_region 5 with (fail)
   generalize World.alloc _ _ = w4 at HG4 ⊢
   go_wp2
   go_ret
   exact ⟨rfl, HG4.out⟩
 | some k =>
   have hch := (Lv.ch_len (Lv.cw_some hcw).2).1
   have HPL := Lib.hid (Lv.pi_len hcw HE.out)
   have cp1 := fun (W : World) (h : Mf.Ps W (.slice ea E.length ec) E) => Lv.pick_some _ E k W h hle hcw
   unfold Lv.GotP at cp1
   obtain ⟨t, ht⟩ : ∃ t : Int, t = ((k + 1 : Nat) : Int) := ⟨_, rfl⟩
   rw [← ht] at cp1
   have CP1 := Lib.hid cp1
   have CD := Lib.hid fun (W : World) (h : Mf.Ps W (.slice ea E.length ec) E) => Lv.disjoint_c _ E W h hle
   have HKEEP := Lib.hid fun (hu : Lv.UN E) (hd : Lv.DJ E) (o : Mf.P) (R : List Mf.P) (h1 : o.lv = t) (h2 : R = E.filter fun p => !decide (p.id ∈ Lv.pi E k)) (h3 : (R.all fun p => Lv.ov p p) = true) h4 h5 => Lv.keeps hu hd hch (o := o) (h1.trans ht) h2 h3 h4 h5
   have HSOME : Hid (∃ p ∈ E, p.id ∈ Lv.pi E k) := Lib.hid (by
    have hm : (Lv.ch E k)[0] ∈ Lv.ch E k := List.getElem_mem hch
    exact ⟨_, (Lv.ch_mem hm).1, by rw [Lv.pi_nm]; exact List.mem_map.2 ⟨_, List.mem_append_left _ hm, rfl⟩⟩)
   clear cp1 hcw hle ht hch
   go_wp2_with fail
   refine (CP1.out _ HPS.out).mono ?_
   rintro e w3 ⟨a, n, c, rfl, hid, g3⟩
   have his := hid.is
   obtain ⟨a', c', e', -, -⟩ := id his
   simp only [Value.slice.injEq] at e'
   obtain ⟨rfl, rfl, rfl⟩ := e'
   have HI3 := Lib.hid his
   have HG3 := Lib.hid (HG1.out.trans (g3.mono HG1.out.size))
   have HPS3 := Lib.hid (HPS.out.kept g3)
   generalize Lv.pi E k = X at HI3 HPL HKEEP HSOME ⊢
   generalize Lv.bt E k = bt
   clear g3 hid his HPS HG1
   have HQ3 := Lib.hid (Lv.box4 w3 (.int .i64 (k : Int)) (.int .i64 t) (.slice a X.length c) (.bool bt) 27)
   have gb : Below w3.heap.size w3 (w3.alloc (.cells #[.int .i64 (k : Int), .int .i64 t, .slice a X.length c, .bool bt] 27)) := (Below.refl _ _).alloc (Nat.le_refl _) _
   have HG4 := Lib.hid (HG3.out.trans (gb.mono HG3.out.size))
   have HPS4 := Lib.hid (HPS3.out.kept gb)
   have HI4 := Lib.hid (HI3.out.kept gb)
   clear gb HPS3 HG3 HI3
   go_upto_region 5 with (fail)
   obtain ⟨b, hb⟩ : ∃ b, b = w3.heap.size := ⟨_, rfl⟩
   rw [← hb] at HQ3 ⊢
   generalize World.alloc _ _ = w4 at HG4 HPS4 HI4 HQ3 ⊢
   clear hb
   go_wp2_with fail
   refine (CD.out _ HPS4.out).mono ?_
   rintro e w5 ⟨B, rfl, hBB, g5⟩
   have HG5 := Lib.hid (HG4.out.trans (g5.mono HG4.out.size))
   have HPS5 := Lib.hid (HPS4.out.kept g5)
   have HI5 := Lib.hid (HI4.out.kept g5)
   have HQ5 := Lib.hid ((g5.block b (lt_of_block HQ3.out)).trans HQ3.out)
   have HBB := Lib.hid hBB
   clear g5 HG4 HPS4 HI4 HQ3 hBB
   cases B
   case false =>
    go_wp2
    go_ret
    exact ⟨rfl, HG5.out⟩
   have HDJ := Lib.hid (HBB.out.1 rfl)
   clear HBB
   go_wp2_with fail
   refine (Lv.unlike_c _ E w5 HPS5.out HE.out).mono ?_
   rintro e w6 ⟨rfl, g6⟩
   have HG6 := Lib.hid (HG5.out.trans (g6.mono HG5.out.size))
   have HPS6 := Lib.hid (HPS5.out.kept g6)
   have HI6 := Lib.hid (HI5.out.kept g6)
   have HQ6 := Lib.hid ((g6.block b (lt_of_block HQ5.out)).trans HQ5.out)
   clear g6 HG5 HPS5 HI5 HQ5
   by_cases hun : Lv.UN E
   case neg =>
    rw [decide_eq_false hun]
    go_wp2
    go_ret
    exact ⟨rfl, HG6.out⟩
   rw [decide_eq_true hun]
   have HKP := Lib.hid (HKEEP.out hun HDJ.out)
   clear hun HKEEP
   obtain ⟨⟨y0, y1, y2, y3⟩, -⟩ := Lv.quad HQ6.out
   have HK7 := Lib.hid (heap_alloc_new w6 (.cells (Mf.cs ⟨0, t, ⟨false, 0, ⟨#[]⟩⟩, ⟨false, 0, ⟨#[]⟩⟩⟩) 38))
   have g7 : Below w6.heap.size w6 (w6.alloc (.cells (Mf.cs ⟨0, t, ⟨false, 0, ⟨#[]⟩⟩, ⟨false, 0, ⟨#[]⟩⟩⟩) 38)) := (Below.refl _ _).alloc (Nat.le_refl _) _
   have HB7 := Lib.hid g7
   have hs7 : (w6.alloc (.cells (Mf.cs ⟨0, t, ⟨false, 0, ⟨#[]⟩⟩, ⟨false, 0, ⟨#[]⟩⟩⟩) 38)).heap.size = w6.heap.size + 1 := World.size_alloc _ _
   have HS7 := Lib.hid hs7
   clear g7 hs7
   simp only [Mf.cs] at HK7 HB7 HS7
   go_upto_region 8 with (fail)
   clear y0 y1 y2 y3
   obtain ⟨ob, hob⟩ : ∃ ob, ob = w6.heap.size := ⟨_, rfl⟩
   have HOBE := Lib.hid hob
   rw [← hob] at HK7 ⊢
   generalize World.alloc _ _ = w7 at HK7 HB7 HS7 ⊢
   have HOB : Hid (w6.heap.size ≤ ob ∧ ob < ob + 1) := Lib.hid ⟨by omega, by omega⟩
   clear hob
   go_wp2
   go_loopw [6, 7, 8] (fun r f i wr => ∃ (j : Nat) (o : Mf.P) (fb : Bool), j ≤ E.length ∧ i = .int .i64 (j : Int) ∧ f = .bool fb ∧ Mf.Ow (ob + 1) wr r ((E.take j).filter fun p => !decide (p.id ∈ X)) ∧ Lv.On E X t j o fb ∧ wr.heap[ob]? = some (.cells (Mf.cs o) 38 (0, 0)) ∧ Below w6.heap.size w6 wr) (fun _ _ i _ => E.length - (intOf i).toNat)
   case atStart => exact ⟨0, ⟨0, t, ⟨false, 0, ⟨#[]⟩⟩, ⟨false, 0, ⟨#[]⟩⟩⟩, true, Nat.zero_le _, rfl, rfl, Mf.Ow.nil _ _, ⟨rfl, ⟨(show (0 : Nat) ≤ 140737488351232 by decide), (show (0 : Nat) ≤ 140737488351232 by decide)⟩, (fun _ p hp => by cases hp), (fun h => by cases h)⟩, HK7.out, HB7.out⟩
   case round =>
    obtain ⟨wo, hwo⟩ : ∃ wo, wo = wr := ⟨_, rfl⟩
    subst hwo
    obtain ⟨j, o, fb, hj, rfl, rfl, hO, hon, hK, hB⟩ := hrel
    have HO := Lib.hid hO
    have HON := Lib.hid hon
    have HK := Lib.hid hK
    have HB := Lib.hid hB
    have HOS : Hid (ob + 1 ≤ wo.heap.size) := Lib.hid (lt_of_block hK)
    obtain ⟨ra, rc, rfl⟩ := Lv.Ow.sl hO
    have hj0 : (0 : Int) ≤ (j : Int) := by omega
    have hj9 : (j : Int) ≤ 80 := by have := HE.out; omega
    by_cases hjl : j < E.length
    ·have hji : (j : Int) < (E.length : Int) := by omega
     have hx := List.getElem?_eq_getElem hjl
     generalize E[j] = p at hx
     have HX := Lib.hid hx
     have HJL := Lib.hid hjl
     have HZP := Lib.hid (HZ.out p (List.mem_of_getElem? hx))
     have HFS := Lib.hid (Lv.filter_step (fun p => !decide (p.id ∈ X)) hx)
     have HFL : Hid (((E.take j).filter fun p => !decide (p.id ∈ X)).length ≤ 80) := Lib.hid (by
      have h1 := List.length_filter_le (fun p : Mf.P => !decide (p.id ∈ X)) (E.take j)
      rw [List.length_take] at h1
      have := HE.out
      omega)
     obtain ⟨xb, xo, rfl, -⟩ := (HPS6.out.kept hB).at_ hx
     have HPK : Hid (∀ W, Below w6.heap.size w6 W → Mf.PA W xb (xo + j * 8) p) := Lib.hid fun W g => by
      obtain ⟨b2, o2, e2, h2⟩ := (HPS6.out.kept g).at_ HX.out
      simp only [Option.some.injEq, Addr.mk.injEq, and_true] at e2
      obtain ⟨rfl, rfl⟩ := e2
      exact h2
     clear hj hjl hO hon hK hB hx
     go_wp2
     go_loopw [9, 10] (fun d q W => ∃ m : Nat, m ≤ X.length ∧ q = .int .i64 (m : Int) ∧ d = .bool (decide (p.id ∈ X.take m)) ∧ Below wo.heap.size wo W) (fun _ q _ => X.length - (intOf q).toNat)
     case atStart => exact ⟨0, Nat.zero_le _, rfl, by rw [decide_eq_false (show p.id ∉ X.take 0 from fun h => by cases h)], Below.refl _ _⟩
     case round =>
      obtain ⟨m, hm, rfl, rfl, hB2⟩ := hrel
      have HB2 := Lib.hid hB2
      have hBW := HB.out.trans (hB2.mono HB.out.size)
      have HBW := Lib.hid hBW
      obtain ⟨⟨y0, y1, y2, y3⟩, -⟩ := Lv.quad ((hBW.block b (lt_of_block HQ6.out)).trans HQ6.out)
      have hPA := HPK.out _ hBW
      have hm0 : (0 : Int) ≤ (m : Int) := by omega
      have hm9 : (m : Int) ≤ 1000 := by have := HPL.out; omega
      by_cases hml : m < X.length
      ·have hmi : (m : Int) < (X.length : Int) := by omega
       obtain ⟨ia, ic, ei, -, hcc⟩ := HI6.out.kept hBW
       simp only [Value.slice.injEq] at ei
       obtain ⟨rfl, -, rfl⟩ := ei
       rcases hcc with ⟨h0, _⟩ | ⟨ib, io, cls, fr, rfl, _, hbb, hcl⟩
       ·rw [h0] at hml; simp at hml
       have hxm := List.getElem?_eq_getElem hml
       have htk := List.take_succ_eq_append_getElem hml
       generalize X[m] = z at hxm htk
       have i0 := Mf.Is.num hcl hxm
       have HTK : Hid (decide (p.id ∈ X.take (m + 1)) = (decide (p.id ∈ X.take m) || (z == p.id))) := Lib.hid (by
        rw [htk]
        by_cases h1 : p.id ∈ X.take m
        ·rw [decide_eq_true h1, decide_eq_true (List.mem_append_left _ h1)]; rfl
        ·rw [decide_eq_false h1]
         by_cases h2 : z = p.id
         ·rw [decide_eq_true (List.mem_append_right _ (List.mem_singleton.2 h2.symm)), beq_iff_eq.2 h2]; rfl
         ·rw [decide_eq_false (fun h => by
           rcases List.mem_append.1 h with h | h
           ·exact h1 h
           ·exact h2 (List.mem_singleton.1 h).symm), beq_eq_false_iff_ne.2 h2]; rfl)
       have HML := Lib.hid hml
       have c0 := hPA.c0
       generalize decide (p.id ∈ X.take m) = d at HTK
       generalize hzp : (z == p.id) = ze at HTK
       clear hm hml hB2 hBW hPA hbb hcl hxm htk
       go_upto_region 17 with (fail)
       cases d
       ·go_quiet (fail)
        go_wp2
        go_roundw
        case rel => exact ⟨m + 1, HML.out, by simp, by rw [HTK.out]; rfl, Kn.below_drewN HB2.out _⟩
        case measure => (have := HML.out; simp [intOf]; omega)
       ·go_quiet (fail)
        go_wp2
        go_roundw
        case rel => exact ⟨m + 1, HML.out, by simp, by rw [HTK.out]; rfl, Kn.below_drewN HB2.out _⟩
        case measure => (have := HML.out; simp [intOf]; omega)
      ·have hmi : ¬ (m : Int) < (X.length : Int) := by omega
       obtain rfl : m = X.length := by omega
       rw [List.take_length]
       obtain ⟨wi, hwi⟩ : ∃ wi, wi = wr := ⟨_, rfl⟩
       subst hwi
       have HOW := Lib.hid (HO.out.kept hB2)
       have HKW := Lib.hid ((hB2.block ob (lt_of_block HK.out)).trans HK.out)
       have HOSW : Hid (ob + 1 ≤ wi.heap.size) := Lib.hid (Nat.le_trans HOS.out hB2.size)
       generalize hd : decide (p.id ∈ X) = d
       have HD := Lib.hid hd
       clear hd hm hml hB2 hBW HB HB2 HO HK HOS
       cases d
       ·have HFY : Hid ((E.take (j + 1)).filter (fun p => !decide (p.id ∈ X)) = (E.take j).filter (fun p => !decide (p.id ∈ X)) ++ [p]) := Lib.hid (by rw [HFS.out, HD.out]; rfl)
        have HON1 := Lib.hid (HON.out.skip HX.out (of_decide_eq_false HD.out))
        generalize ((E.take j).filter fun p => !decide (p.id ∈ X)) = G at HOW HFY HFL ⊢
        clear HFS HZP HPK HON HX HD
        obtain ⟨i, l, ⟨an, ai, sa⟩, ⟨bn, bi, sb⟩⟩ := p
        obtain ⟨c0, c1, c2, c3, c4, c5, c6, c7⟩ := hPA
        simp only at c0 c1 c2 c3 c4 c5 c6 c7
        have g5 : Below wi.heap.size wi (wi.alloc (.cells #[.int .i64 i, .int .i64 l, .bool an, .int .i64 ai, .string sa, .bool bn, .int .i64 bi, .string sb] 38)) := (Below.refl _ _).alloc (Nat.le_refl _) _
        have HO5 := Lib.hid (HOW.out.kept g5)
        have HB5 := Lib.hid (HBW.out.trans (g5.mono HBW.out.size))
        have HK5 := Lib.hid ((g5.block ob (lt_of_block HKW.out)).trans HKW.out)
        have HOS5 := Lib.hid (Nat.le_trans HOSW.out g5.size)
        have HSR := Lib.hid (Dk.src_one (enc := Mf.pc) wi ⟨i, l, ⟨an, ai, sa⟩, ⟨bn, bi, sb⟩⟩ #[.int .i64 i, .int .i64 l, .bool an, .int .i64 ai, .string sa, .bool bn, .int .i64 bi, .string sb] rfl 38)
        clear g5
        go_wp2_with (at_builtin; refine Mf.wpList_part [⟨i, l, ⟨an, ai, sa⟩, ⟨bn, bi, sb⟩⟩] HO5.out HOS5.out (by have := HFL.out; simp only [List.length_singleton]; omega) HSR.out _ _ (by rfl) (by rfl) (by rfl) (by rfl) ?_; intro v6 w16 o6 g6; have HO6 := Lib.hid o6; have HB6 := Lib.hid (HB5.out.trans (g6.below HB5.out.size fun q hq => by have := Dk.Own.base_le HO5.out q hq; have := HOB.out; omega)); have HK6 := Lib.hid ((g6.by_.block ob (lt_of_block HK5.out) (fun e => by have := Dk.Own.base_le HO5.out ob e.symm; omega)).trans HK5.out); clear o6 g6)
        go_wp2
        go_roundw
        case rel => exact ⟨j + 1, o, fb, HJL.out, by simp, rfl, by rw [HFY.out]; exact HO6.out, HON1.out, HK6.out, HB6.out⟩
        case measure => (have := HJL.out; simp [intOf]; omega)
       ·have HFY : Hid ((E.take (j + 1)).filter (fun p => !decide (p.id ∈ X)) = (E.take j).filter (fun p => !decide (p.id ∈ X))) := Lib.hid (by rw [HFS.out, HD.out]; simp)
        generalize ((E.take j).filter fun p => !decide (p.id ∈ X)) = G at HOW HFY HFL ⊢
        clear HFS
        have CA : Hid (∀ p : Regrown, _) := Lib.hid fun rg : Regrown => Calls.regrown_of (d := rg.d) (os := rg.os) (w := wi) (Lv.overlap_c p p HZP.out HZP.out _)
        obtain ⟨i, l, ⟨an, ai, sa⟩, ⟨bn, bi, sb⟩⟩ := p
        obtain ⟨c0, c1, c2, c3, c4, c5, c6, c7⟩ := hPA
        simp only [Mf.cs] at c0 c1 c2 c3 c4 c5 c6 c7 CA
        generalize Lv.ov ⟨i, l, ⟨an, ai, sa⟩, ⟨bn, bi, sb⟩⟩ ⟨i, l, ⟨an, ai, sa⟩, ⟨bn, bi, sb⟩⟩ = B at CA
        have C0 := fun d os => cell_regrown c0 d os
        have C1 := fun d os => cell_regrown c1 d os
        have C2 := fun d os => cell_regrown c2 d os
        have C3 := fun d os => cell_regrown c3 d os
        have C4 := fun d os => cell_regrown c4 d os
        have C5 := fun d os => cell_regrown c5 d os
        have C6 := fun d os => cell_regrown c6 d os
        have C7 := fun d os => cell_regrown c7 d os
        go_upto_region 20 with (fail)
        clear c0 c1 c2 c3 c4 c5 c6 c7 y0 y1 y2 y3
        cases an
        case true =>
         refine wp_region_quiet_below (by kernel_rfl) (by kernel_rfl) ?_
         repeat (go_big_quiet_step (first | with_reducible exact CA.out _))
         refine wpQuiet_nil ?_
         intro w9 hw'
         have hb9 := (Bk.below_reg hw')
         have HB9 := Lib.hid (HBW.out.trans (hb9.mono HBW.out.size))
         clear hw'
         go_wp2
         go_ret
         exact ⟨rfl, HG6.out.trans (HB9.out.mono HG6.out.size)⟩
        cases bn
        case true =>
         refine wp_region_quiet_below (by kernel_rfl) (by kernel_rfl) ?_
         repeat (go_big_quiet_step (first | with_reducible exact CA.out _))
         refine wpQuiet_nil ?_
         intro w9 hw'
         have hb9 := (Bk.below_reg hw')
         have HB9 := Lib.hid (HBW.out.trans (hb9.mono HBW.out.size))
         clear hw'
         go_wp2
         go_ret
         exact ⟨rfl, HG6.out.trans (HB9.out.mono HG6.out.size)⟩
        cases B
        case false =>
         refine wp_region_quiet_below (by kernel_rfl) (by kernel_rfl) ?_
         repeat (go_big_quiet_step (first | with_reducible exact CA.out _))
         refine wpQuiet_nil ?_
         intro w9 hw'
         have hb9 := (Bk.below_reg hw')
         have HB9 := Lib.hid (HBW.out.trans (hb9.mono HBW.out.size))
         clear hw'
         go_wp2
         go_ret
         exact ⟨rfl, HG6.out.trans (HB9.out.mono HG6.out.size)⟩
        refine wp_region_quiet_below (by kernel_rfl) (by kernel_rfl) ?_
        repeat (go_big_quiet_step (first | with_reducible exact CA.out _))
        refine wpQuiet_nil ?_
        intro w9 hw'
        have hb9 := (Bk.below_reg hw')
        have HB9 := Lib.hid (HBW.out.trans (hb9.mono HBW.out.size))
        clear hw'
        have HK9 := Lib.hid ((hb9.block ob (lt_of_block HKW.out)).trans HKW.out)
        have HO9 := Lib.hid (HOW.out.kept hb9)
        clear hb9 HKW HOW HOSW HBW CA C0 C1 C2 C3 C4 C5 C6 C7
        have HZO1 := Lib.hid HON.out.z
        obtain ⟨oi, ol, ⟨un, ui, us⟩, ⟨vn, vi, vs⟩⟩ := o
        cases fb
        ·have HZO : Hid (Lv.Zp ⟨oi, ol, ⟨un, ui, us⟩, ⟨vn, vi, vs⟩⟩) := HZO1
         have CW : Hid (∀ W, _) := Lib.hid fun W => Lv.wider_c ⟨oi, ol, ⟨un, ui, us⟩, ⟨vn, vi, vs⟩⟩ ⟨i, l, ⟨false, ai, sa⟩, ⟨false, bi, sb⟩⟩ HZO.out HZP.out W
         have HON1 := Lib.hid (HON.out.take HX.out (of_decide_eq_true HD.out) HZP.out)
         generalize hwr : Lv.wr_ ⟨oi, ol, ⟨un, ui, us⟩, ⟨vn, vi, vs⟩⟩ ⟨i, l, ⟨false, ai, sa⟩, ⟨false, bi, sb⟩⟩ = n1 at CW
         have HWR := Lib.hid hwr
         clear hwr
         obtain ⟨ni, nl, ⟨nn, nk, ns⟩, ⟨mn, mi, ms⟩⟩ := n1
         obtain ⟨⟨d0, d1, d2, d3, d4, d5, d6, d7⟩, -⟩ := Lv.eight (x := ⟨oi, ol, ⟨un, ui, us⟩, ⟨vn, vi, vs⟩⟩) HK9.out
         obtain ⟨c0, c1, c2, c3, c4, c5, c6, c7⟩ := HPK.out _ HB9.out
         simp only [Nat.zero_add] at d0 d1 d2 d3 d4 d5 d6 d7 c0 c1 c2 c3 c4 c5 c6 c7
         simp only [Mf.cs] at CW
         go_upto_region 25 with (fail)
         refine wp_region_still_tail 5 (by kernel_rfl) (by kernel_rfl) ?_
         simp only [List.take_succ_cons, List.take_zero, List.drop_succ_cons, List.drop_zero]
         change wpStill _ _ (World.drew _) (fun a' => wpList _ _ _ _ a' (World.drew _)) _ _
         still_step
         still_step
         still_step
         still_step
         still_step
         refine wpStill_nil ?_
         go_wp2_with fail
         with_reducible refine (CW.out _).mono ?_
         rintro e w15 ⟨rfl, g15⟩
         have g16 : Below w9.heap.size w9 w15 := (Below.refl _ _).drew.trans g15
         have HK15 := Lib.hid ((g16.block ob (lt_of_block HK9.out)).trans HK9.out)
         have HB15 := Lib.hid (HB9.out.trans (g16.mono HB9.out.size))
         have HO15 := Lib.hid (Dk.Own.kept HO9.out g16)
         clear d0 d1 d2 d3 d4 d5 d6 d7 c0 c1 c2 c3 c4 c5 c6 c7 g15 g16
         obtain ⟨⟨d0, d1, d2, d3, d4, d5, d6, d7⟩, hfz⟩ := Lv.eight (x := ⟨oi, ol, ⟨un, ui, us⟩, ⟨vn, vi, vs⟩⟩) HK15.out
         have f0 := hfz 0 (by decide)
         have f1 := hfz 1 (by decide)
         have f2 := hfz 2 (by decide)
         have f3 := hfz 3 (by decide)
         have f4 := hfz 4 (by decide)
         have f5 := hfz 5 (by decide)
         have f6 := hfz 6 (by decide)
         have f7 := hfz 7 (by decide)
         simp only [Nat.zero_add] at d0 d1 d2 d3 d4 d5 d6 d7
         have HK16 := Lib.hid ((Lv.set8 (a := ⟨oi, ol, ⟨un, ui, us⟩, ⟨vn, vi, vs⟩⟩) HK15.out ⟨ni, nl, ⟨nn, nk, ns⟩, ⟨mn, mi, ms⟩⟩))
         have HB16 := Lib.hid (Lv.set8_below HB15.out (q := ob) (by have := HOB.out; omega) ⟨ni, nl, ⟨nn, nk, ns⟩, ⟨mn, mi, ms⟩⟩)
         have HO16 := Lib.hid (Lv.ow8 HO15.out (q := ob) (by have := HOB.out; omega) ⟨ni, nl, ⟨nn, nk, ns⟩, ⟨mn, mi, ms⟩⟩)
         clear hfz
         go_upto_region 12 with (fail)
         clear d0 d1 d2 d3 d4 d5 d6 d7 f0 f1 f2 f3 f4 f5 f6 f7
         generalize hw16 : World.setCell _ _ _ = w16 at HK16 HB16 HO16 ⊢
         clear hw16
         go_wp2
         go_roundw
         case rel => exact ⟨j + 1, ⟨ni, nl, ⟨nn, nk, ns⟩, ⟨mn, mi, ms⟩⟩, false, HJL.out, by simp, rfl, by rw [HFY.out]; exact HO16.out, by (have h := HON1.out; (first | (rw [if_neg (by decide), HWR.out] at h) | (simp only [Bool.false_eq_true, if_false] at h; rw [HWR.out] at h)); exact h), HK16.out, HB16.out⟩
         case measure => (have := HJL.out; simp [intOf]; omega)
        ·have HZO : Hid (Lv.Zp ⟨oi, ol, ⟨false, ai, sa⟩, ⟨false, bi, sb⟩⟩) := HZP
         go_upto_region 23 with (fail)
         obtain ⟨⟨d0, d1, d2, d3, d4, d5, d6, d7⟩, hfz⟩ := Lv.eight (x := ⟨oi, ol, ⟨un, ui, us⟩, ⟨vn, vi, vs⟩⟩) HK9.out
         have f0 := hfz 0 (by decide)
         have f1 := hfz 1 (by decide)
         have f2 := hfz 2 (by decide)
         have f3 := hfz 3 (by decide)
         have f4 := hfz 4 (by decide)
         have f5 := hfz 5 (by decide)
         have f6 := hfz 6 (by decide)
         have f7 := hfz 7 (by decide)
         obtain ⟨c0, c1, c2, c3, c4, c5, c6, c7⟩ := HPK.out _ HB9.out
         simp only [Nat.zero_add] at d0 d1 d2 d3 d4 d5 d6 d7
         simp only at c0 c1 c2 c3 c4 c5 c6 c7
         clear hfz
         go_region
         have HK10 := Lib.hid ((((Below.refl _ _).drew).block ob (lt_of_block (Lv.two3 (a := ⟨oi, ol, ⟨un, ui, us⟩, ⟨vn, vi, vs⟩⟩) HK9.out ⟨false, ai, sa⟩ ⟨false, bi, sb⟩))).trans (Lv.two3 (a := ⟨oi, ol, ⟨un, ui, us⟩, ⟨vn, vi, vs⟩⟩) HK9.out ⟨false, ai, sa⟩ ⟨false, bi, sb⟩))
         have HB10 := Lib.hid (Lv.two3_below HB9.out (q := ob) (by have := HOB.out; omega) (.bool false) (.int .i64 ai) (.string sa) (.bool false) (.int .i64 bi) (.string sb)).drew
         have HO10 := Lib.hid (Dk.Own.kept (Dk.Own.same HO9.out fun q hq => Lv.two3_off (w := w9) (q := ob) (.bool false) (.int .i64 ai) (.string sa) (.bool false) (.int .i64 bi) (.string sb) (by have := Dk.Own.base_le HO9.out q hq; omega)) (Below.refl _ _).drew)
         clear c0 c1 c2 c3 c4 c5 c6 c7 d0 d1 d2 d3 d4 d5 d6 d7 f0 f1 f2 f3 f4 f5 f6 f7
         generalize hw10 : World.drew _ = w10 at HK10 HB10 HO10 ⊢
         clear hw10
         have CW : Hid (∀ W, _) := Lib.hid fun W => Lv.wider_c ⟨oi, ol, ⟨false, ai, sa⟩, ⟨false, bi, sb⟩⟩ ⟨i, l, ⟨false, ai, sa⟩, ⟨false, bi, sb⟩⟩ HZO.out HZP.out W
         have HON1 := Lib.hid (HON.out.take HX.out (of_decide_eq_true HD.out) HZP.out)
         generalize hwr : Lv.wr_ ⟨oi, ol, ⟨false, ai, sa⟩, ⟨false, bi, sb⟩⟩ ⟨i, l, ⟨false, ai, sa⟩, ⟨false, bi, sb⟩⟩ = n1 at CW
         have HWR := Lib.hid hwr
         clear hwr
         obtain ⟨ni, nl, ⟨nn, nk, ns⟩, ⟨mn, mi, ms⟩⟩ := n1
         obtain ⟨⟨d0, d1, d2, d3, d4, d5, d6, d7⟩, -⟩ := Lv.eight (x := ⟨oi, ol, ⟨false, ai, sa⟩, ⟨false, bi, sb⟩⟩) HK10.out
         obtain ⟨c0, c1, c2, c3, c4, c5, c6, c7⟩ := HPK.out _ HB10.out
         simp only [Nat.zero_add] at d0 d1 d2 d3 d4 d5 d6 d7 c0 c1 c2 c3 c4 c5 c6 c7
         simp only [Mf.cs] at CW
         go_upto_region 25 with (fail)
         refine wp_region_still_tail 5 (by kernel_rfl) (by kernel_rfl) ?_
         simp only [List.take_succ_cons, List.take_zero, List.drop_succ_cons, List.drop_zero]
         change wpStill _ _ (World.drew _) (fun a' => wpList _ _ _ _ a' (World.drew _)) _ _
         still_step
         still_step
         still_step
         still_step
         still_step
         refine wpStill_nil ?_
         go_wp2_with fail
         with_reducible refine (CW.out _).mono ?_
         rintro e w15 ⟨rfl, g15⟩
         have g16 : Below w10.heap.size w10 w15 := (Below.refl _ _).drew.trans g15
         have HK15 := Lib.hid ((g16.block ob (lt_of_block HK10.out)).trans HK10.out)
         have HB15 := Lib.hid (HB10.out.trans (g16.mono HB10.out.size))
         have HO15 := Lib.hid (Dk.Own.kept HO10.out g16)
         clear d0 d1 d2 d3 d4 d5 d6 d7 c0 c1 c2 c3 c4 c5 c6 c7 g15 g16
         obtain ⟨⟨d0, d1, d2, d3, d4, d5, d6, d7⟩, hfz⟩ := Lv.eight (x := ⟨oi, ol, ⟨false, ai, sa⟩, ⟨false, bi, sb⟩⟩) HK15.out
         have f0 := hfz 0 (by decide)
         have f1 := hfz 1 (by decide)
         have f2 := hfz 2 (by decide)
         have f3 := hfz 3 (by decide)
         have f4 := hfz 4 (by decide)
         have f5 := hfz 5 (by decide)
         have f6 := hfz 6 (by decide)
         have f7 := hfz 7 (by decide)
         simp only [Nat.zero_add] at d0 d1 d2 d3 d4 d5 d6 d7
         have HK16 := Lib.hid ((Lv.set8 (a := ⟨oi, ol, ⟨false, ai, sa⟩, ⟨false, bi, sb⟩⟩) HK15.out ⟨ni, nl, ⟨nn, nk, ns⟩, ⟨mn, mi, ms⟩⟩))
         have HB16 := Lib.hid (Lv.set8_below HB15.out (q := ob) (by have := HOB.out; omega) ⟨ni, nl, ⟨nn, nk, ns⟩, ⟨mn, mi, ms⟩⟩)
         have HO16 := Lib.hid (Lv.ow8 HO15.out (q := ob) (by have := HOB.out; omega) ⟨ni, nl, ⟨nn, nk, ns⟩, ⟨mn, mi, ms⟩⟩)
         clear hfz
         go_upto_region 12 with (fail)
         clear d0 d1 d2 d3 d4 d5 d6 d7 f0 f1 f2 f3 f4 f5 f6 f7
         generalize hw16 : World.setCell _ _ _ = w16 at HK16 HB16 HO16 ⊢
         clear hw16
         go_wp2
         go_roundw
         case rel => exact ⟨j + 1, ⟨ni, nl, ⟨nn, nk, ns⟩, ⟨mn, mi, ms⟩⟩, false, HJL.out, by simp, rfl, by rw [HFY.out]; exact HO16.out, by (have h := HON1.out; (first | (rw [if_pos rfl, HWR.out] at h) | (simp only [if_true] at h; rw [HWR.out] at h)); exact h), HK16.out, HB16.out⟩
         case measure => (have := HJL.out; simp [intOf]; omega)
    ·have hji : ¬ (j : Int) < (E.length : Int) := by omega
     obtain rfl : j = E.length := by omega
     have hO1 := HO.out
     rw [List.take_length] at hO1
     have hfb : fb = false := by
      cases fb
      ·rfl
      ·exfalso
       obtain ⟨p, hp, hpx⟩ := HSOME.out
       exact HON.out.yes rfl p (by rw [List.take_length]; exact hp) hpx
     subst hfb
     obtain ⟨hna, hnb⟩ := HON.out.no rfl
     have hKP := fun h3 => HKP.out o _ HON.out.lv rfl h3 hna hnb
     have hzR : ∀ p ∈ (E.filter fun p => !decide (p.id ∈ X)), Lv.Zp p := fun p hp => HZ.out p (List.mem_filter.1 hp).1
     have hRl : (E.filter fun p => !decide (p.id ∈ X)).length ≤ 80 := by
      have h1 := List.length_filter_le (fun p : Mf.P => !decide (p.id ∈ X)) E
      have := HE.out
      omega
     rw [List.take_length]
     generalize (E.filter fun p => !decide (p.id ∈ X)) = R at hO1 hKP hzR hRl ⊢
     have HO1 := Lib.hid hO1
     have HK38 := Lib.hid hKP
     have HRL := Lib.hid hRl
     have CWL := Lib.hid (Lv.well_c _ R wo hO1.ps (by omega) hzR)
     have HGG := Lib.hid (HG6.out.trans (hB.mono HG6.out.size))
     clear hj hjl hO hon hK hB hO1 hna hnb hKP hzR hRl HO HSOME HKP HON
     go_wp2_with fail
     refine (CWL.out).mono ?_
     rintro e w11 ⟨rfl, g11⟩
     have HG11 := Lib.hid (HGG.out.trans (g11.mono HGG.out.size))
     have HK11 := Lib.hid ((g11.block ob (lt_of_block HK.out)).trans HK.out)
     have HO11 := Lib.hid (HO1.out.kept g11)
     have HOS11 := Lib.hid (Nat.le_trans HOS.out g11.size)
     clear g11 HGG HK HO1 HOS HB
     cases hwl : (R.all fun p => Lv.ov p p)
     ·go_wp2
      go_ret
      exact ⟨rfl, HG11.out⟩
     ·have HDJ2 := Lib.hid (HK38.out hwl)
      clear hwl HK38
      obtain ⟨oi, ol, ⟨un, ui, us⟩, ⟨vn, vi, vs⟩⟩ := o
      obtain ⟨⟨d0, d1, d2, d3, d4, d5, d6, d7⟩, -⟩ := Lv.eight (x := ⟨oi, ol, ⟨un, ui, us⟩, ⟨vn, vi, vs⟩⟩) HK11.out
      simp only [Nat.zero_add] at d0 d1 d2 d3 d4 d5 d6 d7
      have g12 : Below w11.heap.size w11 (w11.alloc (.cells #[.int .i64 oi, .int .i64 ol, .bool un, .int .i64 ui, .string us, .bool vn, .int .i64 vi, .string vs] 38)) := (Below.refl _ _).alloc (Nat.le_refl _) _
      have HO12 := Lib.hid (HO11.out.kept g12)
      have HG12 := Lib.hid (HG11.out.trans (g12.mono HG11.out.size))
      have HOS12 := Lib.hid (Nat.le_trans HOS11.out g12.size)
      have HSR := Lib.hid (Dk.src_one (enc := Mf.pc) w11 ⟨oi, ol, ⟨un, ui, us⟩, ⟨vn, vi, vs⟩⟩ #[.int .i64 oi, .int .i64 ol, .bool un, .int .i64 ui, .string us, .bool vn, .int .i64 vi, .string vs] rfl 38)
      obtain ⟨M, hM⟩ : ∃ M, M = R ++ [⟨oi, ol, ⟨un, ui, us⟩, ⟨vn, vi, vs⟩⟩] := ⟨_, rfl⟩
      have HMM := Lib.hid hM
      rw [← hM] at HDJ2
      have HML : Hid (M.length ≤ 81) := Lib.hid (by rw [hM, List.length_append]; have := HRL.out; simp; omega)
      have HG6S := Lib.hid HG6.out.size
      clear g12 hM
      go_wp2_with (at_builtin; refine Mf.wpList_part [⟨oi, ol, ⟨un, ui, us⟩, ⟨vn, vi, vs⟩⟩] HO12.out HOS12.out (by have := HRL.out; simp only [List.length_singleton]; omega) HSR.out _ _ (by rfl) (by rfl) (by rfl) (by rfl) ?_; intro v13 w13 o13 g13; rw [← HMM.out] at o13; have HP13 := Lib.hid o13.ps; have HG13 := Lib.hid (HG12.out.trans (g13.below HG12.out.size fun q hq => by have := Dk.Own.base_le HO12.out q hq; have := HOB.out; have := HG6S.out; omega)); obtain ⟨na, nc, rfl⟩ := Lv.Ow.sl o13; clear o13 g13)
      refine (Lv.disjoint_c _ M w13 HP13.out (by have := HML.out; omega)).mono ?_
      rintro e w14 ⟨B, rfl, hB14, g14⟩
      have hBt := hB14.2 HDJ2.out
      subst hBt
      have HG14 := Lib.hid (HG13.out.trans (g14.mono HG13.out.size))
      clear g14 hB14
      go_wp2
      go_ret
      exact ⟨rfl, HG14.out⟩
end Go.Proofs.Ytodeodndjkkkbaa
namespace Go.Proofs.Ytodeodndjkkkbaa.Ty
open Go.RowKit Go.WideShapes Go.ChangeShapes
theorem post_below {H : Type} {enc : TypeId × Value → H} {P : Program} {f : Func} {s : ChangeSpec} {apart fresh handsOn again : Bool} {W W' : World} {args : Array Value} {v : Value} {ds gs : List (DataW H)} {before pa pv : List MemPlace}
 (hW : DataW.Whole enc P f.params.toList s.vars apart W args.toList ds gs before)
 (hr : ∀ (b : Nat) (sp : Nat → Bool) (hd : Bool), DataW.TrodAll enc P W' b sp hd f.resultTypes.toList (v.resultList f.resultTypes.size) (s.fn H (ds ++ gs)).results [])
 (ha : ∀ sp : Nat → Bool, (∀ p ∈ before, sp p.block = true) → DataW.TrodAll enc P W' 0 sp true f.params.toList args.toList (s.fn H (ds ++ gs)).args pa)
 (hv : ∀ sp : Nat → Bool, (∀ p ∈ before, sp p.block = true) → DataW.TrodVars enc P W' sp s.vars (s.fn H (ds ++ gs)).vars pv)
 (hp : before = pa ++ pv) (hb : Below W.heap.size W W')
 (hok : ∀ (j : Nat) (t : TypeId) (r : Value), f.resultTypes[j]? = some t → (v.resultList f.resultTypes.size)[j]? = some r → Value.okWide P W' .any 0 t r) :
 s.post enc P f apart fresh handsOn again W args v W' := by
 have hl : ∀ p ∈ before, p.block < W.heap.size := fun p h => hW.lt p h
 have hs : ∀ p ∈ before, (fun b => decide (b < W.heap.size)) p.block = true := fun p h => by simpa using hl p h
 have hW0 := hW
 obtain ⟨_, _, _, _, _, hz, hn⟩ := hW0
 refine ⟨ds, gs, before, [], pa, pv, hW, hr _ _ _, ha _ hs, hv _ hs, World.keptBut_mono (fun p h => ⟨h, by rw [hp] at h; exact .inr (List.mem_append.1 h)⟩) (hb.frame (· ∈ before)), fun _ => ⟨hok, _, _, ([] ++ pa) ++ pv, ⟨[] ++ pa, pv, trodAll_append (ha _ (fun _ _ => rfl)) (hr _ _ _), hv _ (fun _ _ => rfl), rfl, ?_, ?_⟩, ?_⟩⟩
 ·intro b off h
  have hin : MemPlace.cell b off ∈ before := by rw [hp]; simpa using h
  rw [hb.frozen (hl _ hin)]
  exact hz b off hin
 ·intro hap
  have := hn hap
  rw [hp] at this
  simpa using this
 ·intro p h _
  rw [hp]
  simpa using h
end Go.Proofs.Ytodeodndjkkkbaa.Ty
namespace Go.Proofs.Ytodeodndjkkkbaa.Ty
open Go.RowKit Go.WideShapes Go.ChangeShapes
theorem all_stay {H : Type} {enc : TypeId × Value → H} {P : Program} (hl : laidOutB P = true) {W W' : World} {sp : Nat → Bool} : ∀ (ts : List TypeId) (vs : List Value) (ds : List (DataW H)) (ps : List MemPlace),
 (ts.all fun t => P.readableRec t && decide (t < P.types.size)) = true → DataW.TrodAll enc P W 0 (fun _ => true) true ts vs ds ps → (∀ p ∈ ps, W.sameAt W' p) → (∀ p ∈ ps, sp p.block = true) → DataW.TrodAll enc P W' 0 sp true ts vs ds ps
 | [], [], [], _, _, h, _, _ => h
 | [], [], _ :: _, _, _, h, _, _ => h.elim
 | [], _ :: _, [], _, _, h, _, _ => h.elim
 | [], _ :: _, _ :: _, _, _, h, _, _ => h.elim
 | _ :: _, [], [], _, _, h, _, _ => h.elim
 | _ :: _, [], _ :: _, _, _, h, _, _ => h.elim
 | _ :: _, _ :: _, [], _, _, h, _, _ => h.elim
 | t :: ts, v :: vs, d :: ds, ps, ht, h, hs, hsp => by
   obtain ⟨p, q, h1, h2, rfl⟩ := h
   simp only [List.all_cons, Bool.and_eq_true, decide_eq_true_eq] at ht
   exact ⟨p, q, WideElems.Trod_stays hl ht.1.1 ht.1.2 h1 (fun x hx => hs x (List.mem_append_left _ hx)) (fun x hx => hsp x (List.mem_append_left _ hx)),
    all_stay hl ts vs ds q ht.2 h2 (fun x hx => hs x (List.mem_append_right _ hx)) (fun x hx => hsp x (List.mem_append_right _ hx)), rfl⟩
end Go.Proofs.Ytodeodndjkkkbaa.Ty
