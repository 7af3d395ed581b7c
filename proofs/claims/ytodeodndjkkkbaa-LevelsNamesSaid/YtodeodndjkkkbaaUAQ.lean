import Derived.Test.YtodeodndjkkkbaaUAP
import Derived.Lib.QuietBelow
import Derived.Test.YtodeodndjkkkbaaRows
import Derived.Below
import Derived.ChangeSame
import Derived.Carry
namespace Go.Proofs.Ytodeodndjkkkbaa
open Go Go.RowKit Go.Lib Go.Sort
theorem Lv.ow_keep {base B : Nat} {W W' : World} {v u u' : Value} {L : List Mf.P} {M : List Int} (h : Mf.Ow base W v L) (o : Lv.Oi B W u M) (g : Ty.Grew W W' u u') : Mf.Ow base W' v L :=
 Dk.Own.same h fun b hb => g.by_.block b (Dk.Own.lt h b hb) fun e => by
  obtain ⟨cs, h1⟩ := Dk.Own.typed h b hb
  obtain ⟨cs2, h2⟩ := Dk.Own.typed o b e.symm
  rw [h1] at h2
  simp only [Option.some.injEq, Obj.cells.injEq] at h2
  exact absurd h2.2.1 (by decide)
theorem Lv.oi_keep {base B : Nat} {W W' : World} {v u u' : Value} {L : List Mf.P} {M : List Int} (h : Lv.Oi base W v M) (o : Mf.Ow B W u L) (g : Ty.Grew W W' u u') : Lv.Oi base W' v M :=
 Dk.Own.same h fun b hb => g.by_.block b (Dk.Own.lt h b hb) fun e => by
  obtain ⟨cs, h1⟩ := Dk.Own.typed h b hb
  obtain ⟨cs2, h2⟩ := Dk.Own.typed o b e.symm
  rw [h1] at h2
  simp only [Option.some.injEq, Obj.cells.injEq] at h2
  exact absurd h2.2.1 (by decide)
theorem Lv.take_map {N : List Mf.P} {X : List Int} (h : X = N.map fun x => x.id) {i : Nat} {p : Mf.P} (hp : N[i]? = some p) : X[i]? = some p.id ∧ X.take (i + 1) = X.take i ++ [p.id] := by
 subst h
 obtain ⟨hi, rfl⟩ := List.getElem?_eq_some_iff.1 hp
 refine ⟨by rw [List.getElem?_map, List.getElem?_eq_getElem hi]; rfl, ?_⟩
 rw [List.take_succ_eq_append_getElem (by rw [List.length_map]; exact hi), List.getElem_map]
set_option maxHeartbeats 2000000 in
set_option maxRecDepth 100000 in
theorem Lv.lawNames_w (v : Value) (L : List Mf.P) (w : World) (hL : Mf.Ps w v L) (hl : L.length ≤ 9223372036854775807) (hz : ∀ p ∈ L, Lv.Zp p) :
 Calls Try.prog 4 #[v] w fun e w' => e = .returned (.bool true) ∧ Below w.heap.size w w' := by
 have CL := Lib.hid (Lv.lives_c w)
 have CE := Lib.hid fun (w' : World) (g : Below w.heap.size w w') => Lv.early_c v L w' (hL.kept g) hl
 have hE : (L.take 80).length ≤ 80 := by rw [List.length_take]; omega
 have hzE : ∀ p ∈ L.take 80, Lv.Zp p := fun p hp => hz p (List.mem_of_mem_take hp)
 generalize L.take 80 = E at CE hE hzE
 have HE := Lib.hid hE
 have HZ := Lib.hid hzE
 obtain ⟨va, vc, rfl, -⟩ := hL.form
 clear hL hl hE hz hzE
 go_enter Try.func4, Try.ntmps4
 go_wp2_with fail
 refine (CL.out).mono ?_
 rintro e w1 ⟨rfl, g1⟩
 have HG1 := Lib.hid g1
 clear g1
 go_wp2_with fail
 refine (CE.out _ HG1.out).mono ?_
 rintro e w2 ⟨u, rfl, hu, rfl⟩
 have HPS := Lib.hid hu
 obtain ⟨ea, ec, rfl, -⟩ := hu.form
 clear hu
 have hle : E.length ≤ 1000000000 := by have := HE.out; omega
 cases hcw : Lv.cw E with
 | none =>
   have CP1 := Lib.hid fun (W : World) (h : Mf.Ps W (.slice ea E.length ec) E) => Lv.pick_none _ E W h hle hcw
   have cc := fun (W : World) (h : Mf.Ps W (.slice ea E.length ec) E) => Lv.calm_c _ E W h hle
   rw [hcw] at cc
   simp only [Option.isNone_none] at cc
   have CC := Lib.hid cc
   clear cc hcw hle
   go_wp2_with fail
   refine (CP1.out _ HPS.out).mono ?_
   rintro e w3 ⟨rfl, g3⟩
   have HG3 := Lib.hid (HG1.out.trans (g3.mono HG1.out.size))
   have HPS3 := Lib.hid (HPS.out.kept g3)
   clear g3 HPS HG1
   have gb : Below w3.heap.size w3 (w3.alloc (.cells #[.int .i64 0, .int .i64 0, .slice none 0 0, .bool false] 27)) := (Below.refl _ _).alloc (Nat.le_refl _) _
   have HG4 := Lib.hid (HG3.out.trans (gb.mono HG3.out.size))
   have HPS4 := Lib.hid (HPS3.out.kept gb)
   clear gb HPS3 HG3
   go_upto_region 5 with (fail)
   generalize World.alloc _ _ = w4 at HG4 HPS4 ⊢
   go_wp2_with fail
   refine (CC.out _ HPS4.out).mono ?_
   rintro e w5 ⟨rfl, g5⟩
   have HG5 := Lib.hid (HG4.out.trans (g5.mono HG4.out.size))
   clear g5
   go_wp2
   go_ret
   exact ⟨rfl, HG5.out⟩
 | some k =>
   have hk3 := (Lv.cw_some hcw).1
   have hch := (Lv.ch_len (Lv.cw_some hcw).2).1
   have HCH := Lib.hid hch
   have HPL := Lib.hid (Lv.pi_len hcw HE.out)
   have cp1 := fun (W : World) (h : Mf.Ps W (.slice ea E.length ec) E) => Lv.pick_some _ E k W h hle hcw
   have cc := fun (W : World) (h : Mf.Ps W (.slice ea E.length ec) E) => Lv.calm_c _ E W h hle
   rw [hcw] at cc
   simp only [Option.isNone_some] at cc
   unfold Lv.GotP at cp1
   obtain ⟨t, ht⟩ : ∃ t : Int, t = ((k + 1 : Nat) : Int) := ⟨_, rfl⟩
   rw [← ht] at cp1
   have CP1 := Lib.hid cp1
   have CC := Lib.hid cc
   have HT := Lib.hid ht
   have HK3 := Lib.hid hk3
   clear cc cp1 hcw hle hch ht hk3
   go_wp2_with fail
   refine (CP1.out _ HPS.out).mono ?_
   rintro e w3 ⟨a, n, c, rfl, hid, g3⟩
   have his := hid.is
   obtain ⟨a', c', e', -, -⟩ := id his
   simp only [Value.slice.injEq] at e'
   obtain ⟨rfl, rfl, rfl⟩ := e'
   have HI3 := Lib.hid his
   have HG3 := Lib.hid (HG1.out.trans (g3.mono HG1.out.size))
   have HPS3 := Lib.hid (HPS.out.kept g3)
   have HXN := Lib.hid (Lv.pi_nm E k)
   have HOV := Lib.hid fun (x c : Mf.P) (h1 : x ∈ E) (h2 : x.lv = t) (h3 : c ∈ Lv.ch E k) (h4 : Lv.ov x c = true) => Lv.nm_over (k := k) h1 (h2.trans HT.out) h3 h4
   have HZR := Lib.hid fun (hk : k = 0) (x : Mf.P) (h1 : x ∈ E) (h2 : x.lv = 0) => (show x.id ∈ Lv.pi E k by subst hk; exact Lv.nm_zero h1 h2)
   have HNW := Lib.hid fun (hu : Lv.UN E) (i : Nat) (p : Mf.P) (hp : (Lv.nm E k)[i]? = some p) => Lv.nm_new hu hp
   generalize Lv.pi E k = X at HI3 HPL HXN HOV HZR HNW ⊢
   generalize Lv.bt E k = bt
   clear g3 hid his HPS HG1
   have HQ3 := Lib.hid (Lv.box4 w3 (.int .i64 (k : Int)) (.int .i64 t) (.slice a X.length c) (.bool bt) 27)
   have gb : Below w3.heap.size w3 (w3.alloc (.cells #[.int .i64 (k : Int), .int .i64 t, .slice a X.length c, .bool bt] 27)) := (Below.refl _ _).alloc (Nat.le_refl _) _
   have HG4 := Lib.hid (HG3.out.trans (gb.mono HG3.out.size))
   have HPS4 := Lib.hid (HPS3.out.kept gb)
   have HI4 := Lib.hid (HI3.out.kept gb)
   clear gb HPS3 HG3 HI3
   go_upto_region 5 with (fail)
   obtain ⟨b, hb⟩ : ∃ b, b = w3.heap.size := ⟨_, rfl⟩
   rw [← hb] at HQ3 ⊢
   generalize World.alloc _ _ = w4 at HG4 HPS4 HI4 HQ3 ⊢
   clear hb
   go_wp2_with fail
   refine (CC.out _ HPS4.out).mono ?_
   rintro e w5 ⟨rfl, g5⟩
   have HG5 := Lib.hid (HG4.out.trans (g5.mono HG4.out.size))
   have HPS5 := Lib.hid (HPS4.out.kept g5)
   have HI5 := Lib.hid (HI4.out.kept g5)
   have HQ5 := Lib.hid ((g5.block b (lt_of_block HQ3.out)).trans HQ3.out)
   clear g5 HG4 HPS4 HI4 HQ3
   go_wp2_with fail
   refine (Lv.unlike_c _ E w5 HPS5.out HE.out).mono ?_
   rintro e w6 ⟨rfl, g6⟩
   have HG6 := Lib.hid (HG5.out.trans (g6.mono HG5.out.size))
   have HPS6 := Lib.hid (HPS5.out.kept g6)
   have HI6 := Lib.hid (HI5.out.kept g6)
   have HQ6 := Lib.hid ((g6.block b (lt_of_block HQ5.out)).trans HQ5.out)
   clear g6 HG5 HPS5 HI5 HQ5
   by_cases hun : Lv.UN E
   case neg =>
    rw [decide_eq_false hun]
    go_wp2
    go_ret
    exact ⟨rfl, HG6.out⟩
   rw [decide_eq_true hun]
   have HUN := Lib.hid hun
   have HNN : Hid (∀ (i : Nat) (p : Mf.P), (Lv.nm E k)[i]? = some p → p ∈ E ∧ (p.lv = (k : Int) ∨ p.lv = t) ∧ p.id ∉ X.take i) := Lib.hid fun i p hp => by
    obtain ⟨h1, h2⟩ := Lv.nm_mem (List.mem_of_getElem? hp)
    refine ⟨h1, ?_, HNW.out hun i p hp⟩
    rcases h2 with h2 | h2
    ·exact .inl h2
    ·exact .inr (h2.trans HT.out.symm)
   have HCF := Lib.hid (Lv.nm_ch E k)
   have HCM : Hid (∀ c ∈ Lv.ch E k, Lv.Zp c) := Lib.hid fun c hc => HZ.out c (Lv.ch_mem hc).1
   have HNL : Hid ((Lv.nm E k).length = X.length) := Lib.hid (by rw [HXN.out, List.length_map])
   clear hun HNW
   generalize Lv.nm E k = N at HXN HNN HCF HNL
   generalize Lv.ch E k = C at HOV HCH HCF HCM
   go_wp2
   go_loopw [5, 6, 7] (fun f m i wr => ∃ j : Nat, j ≤ X.length ∧ i = .int .i64 (j : Int) ∧ Lv.Oi w6.heap.size wr m (X.take j) ∧ Mf.Ow w6.heap.size wr f ((N.take j).filter fun p => p.lv == (k : Int)) ∧ Below w6.heap.size w6 wr) (fun _ _ i _ => X.length - (intOf i).toNat)
   case atStart => exact ⟨0, Nat.zero_le _, rfl, Lv.Oi.nil _ _, Mf.Ow.nil _ _, Below.refl _ _⟩
   case round =>
    obtain ⟨j, hj, rfl, hOi, hOw, hB⟩ := hrel
    have HOI := Lib.hid hOi
    have HOW := Lib.hid hOw
    have HB := Lib.hid hB
    obtain ⟨fa, fc, rfl⟩ := Lv.Ow.sl hOw
    obtain ⟨ma, mn, mc, rfl⟩ := Lv.Oi.sl hOi
    obtain ⟨⟨y0, y1, y2, y3⟩, -⟩ := Lv.quad ((hB.block b (lt_of_block HQ6.out)).trans HQ6.out)
    have hj0 : (0 : Int) ≤ (j : Int) := by omega
    have hj9 : (j : Int) ≤ 1000 := by have := HPL.out; omega
    by_cases hjl : j < X.length
    ·have hji : (j : Int) < (X.length : Int) := by omega
     have hx := List.getElem?_eq_getElem (show j < N.length by rw [HNL.out]; exact hjl)
     generalize N[j]'(by rw [HNL.out]; exact hjl) = p at hx
     obtain ⟨hpE, hlv, hnew⟩ := HNN.out j p hx
     obtain ⟨hxi, htk⟩ := Lv.take_map HXN.out hx
     have HTK := Lib.hid htk
     have HFS := Lib.hid (Lv.filter_step (fun p => p.lv == (k : Int)) hx)
     obtain ⟨ia, ic, ei, -, hcc⟩ := HI6.out.kept hB
     simp only [Value.slice.injEq] at ei
     obtain ⟨rfl, -, rfl⟩ := ei
     rcases hcc with ⟨h0, _⟩ | ⟨ib, io, cls, fr, rfl, _, hbb, hcl⟩
     ·rw [h0] at hjl; simp at hjl
     have i0 := Mf.Is.num hcl hxi
     have CA := Lib.hid (Lv.at_c _ E p wr (HPS6.out.kept hB) HE.out HUN.out hpE)
     have HJL := Lib.hid hjl
     have HLV := Lib.hid hlv
     have HFL : Hid (((N.take j).filter fun p => p.lv == (k : Int)).length ≤ 1000) := Lib.hid (by
      have h1 := List.length_filter_le (fun p : Mf.P => p.lv == (k : Int)) (N.take j)
      rw [List.length_take] at h1
      have := HPL.out
      have := HNL.out
      omega)
     have HTL : Hid ((X.take j).length ≤ 1000) := Lib.hid (by rw [List.length_take]; have := HPL.out; omega)
     have CH : Hid (∀ (v : Value) (W : World), Mf.Is W v (X.take j) → _) := Lib.hid fun v W h => Lv.has_c v (X.take j) p.id W h HTL.out
     rw [decide_eq_false hnew] at CH
     generalize X.take j = Y at HOI HTK HTL CH
     generalize ((N.take j).filter fun p => p.lv == (k : Int)) = G at HOW HFS HFL ⊢
     clear hj hjl hOi hOw hB hx hpE hlv hnew hxi htk hcl hbb
     obtain ⟨i, l, ⟨an, ai, sa⟩, ⟨bn, bi, sb⟩⟩ := p
     simp only [Mf.cs] at i0 CA CH HTK HFS HLV
     go_wp2_with fail
     refine (CA.out).mono ?_
     rintro e w7 ⟨rfl, g7⟩
     have HB7 := Lib.hid (HB.out.trans (g7.mono HB.out.size))
     have HOI7 := Lib.hid (HOI.out.kept g7)
     have HOW7 := Lib.hid (HOW.out.kept g7)
     clear g7 HOI HOW HB y0 y1 y2 y3 i0
     have gb : Below w7.heap.size w7 (w7.alloc (.cells #[.int .i64 i, .int .i64 l, .bool an, .int .i64 ai, .string sa, .bool bn, .int .i64 bi, .string sb] 38)) := (Below.refl _ _).alloc (Nat.le_refl _) _
     have HP8 := Lib.hid (heap_alloc_new w7 (.cells #[.int .i64 i, .int .i64 l, .bool an, .int .i64 ai, .string sa, .bool bn, .int .i64 bi, .string sb] 38))
     have HB8 := Lib.hid (HB7.out.trans (gb.mono HB7.out.size))
     have HOI8 := Lib.hid (HOI7.out.kept gb)
     have HOW8 := Lib.hid (HOW7.out.kept gb)
     clear gb HOI7 HOW7 HB7
     go_upto_region 15 with (fail)
     obtain ⟨pb, hpb⟩ : ∃ pb, pb = w7.heap.size := ⟨_, rfl⟩
     rw [← hpb] at HP8 ⊢
     generalize World.alloc _ _ = w8 at HP8 HB8 HOI8 HOW8 ⊢
     clear hpb
     obtain ⟨d0, d1, d2, d3, d4, d5, d6, d7⟩ := (Lv.eight (x := ⟨i, l, ⟨an, ai, sa⟩, ⟨bn, bi, sb⟩⟩) HP8.out).1
     simp only [Nat.zero_add] at d0 d1 d2 d3 d4 d5 d6 d7
     obtain ⟨⟨y0, y1, y2, y3⟩, -⟩ := Lv.quad ((HB8.out.block b (lt_of_block HQ6.out)).trans HQ6.out)
     have HIS8 := Lib.hid (Lv.Oi.is HOI8.out)
     obtain ⟨gi, hgi⟩ : ∃ gi : World, gi = w8.alloc (.cells #[.int .i64 i] 3) := ⟨_, rfl⟩
     have g9 : Below w8.heap.size w8 gi := by rw [hgi]; exact (Below.refl _ _).alloc (Nat.le_refl _) _
     have HSI : Hid (Dk.Src Mf.ic gi (.slice (some ⟨w8.heap.size, 0, none⟩) 1 1) [i]) := Lib.hid (by rw [hgi]; exact Dk.src_one (enc := Mf.ic) w8 i #[.int .i64 i] rfl 3)
     have HOI9 := Lib.hid (HOI8.out.kept g9)
     have HOW9 := Lib.hid (HOW8.out.kept g9)
     have HB9 := Lib.hid (HB8.out.trans (g9.mono HB8.out.size))
     have HP9 := Lib.hid ((g9.block pb (lt_of_block HP8.out)).trans HP8.out)
     rw [hgi] at HSI HOI9 HOW9 HB9 HP9
     clear g9 hgi gi
     have hways : ((l != (k : Int)) = false ∧ (l == (k : Int)) = true) ∨ ((l != (k : Int)) = true ∧ (l == (k : Int)) = false ∧ (l != t) = false) := by
      rcases HLV.out with h | h
      ·subst h; exact .inl ⟨bne_self_eq_false _, beq_self_eq_true _⟩
      ·have hne : l ≠ (k : Int) := by have := HT.out; omega
       exact .inr ⟨bne_iff_ne.2 hne, beq_eq_false_iff_ne.2 hne, by rw [h]; exact bne_self_eq_false _⟩
     rcases hways with ⟨hw1, hw2⟩ | ⟨hw1, hw2, hw3⟩
     ·have HFS2 := Lib.hid HFS.out
      rw [hw2] at HFS2
      simp only [if_true] at HFS2
      go_wp2_with fail
      refine (CH.out _ _ HIS8.out).mono ?_
      rintro e w9 ⟨rfl, rfl⟩
      go_wp2_with (first
       | (at_builtin
          refine Lv.wpList_int [i] HOI9.out HB9.out.size (by have := HTL.out; simp only [List.length_singleton]; omega) HSI.out _ _ (by rfl) (by rfl) (by rfl) (by rfl) ?_
          intro v10 w10 o10 g10
          have HOW10 := Lib.hid (Lv.ow_keep HOW9.out HOI9.out g10)
          have HOI10 := Lib.hid o10
          have hb10 := Lv.oi_below HB9.out HB9.out.size HOI9.out g10
          have HB10 := Lib.hid hb10
          obtain ⟨na, nn, nc, rfl⟩ := Lv.Oi.sl o10
          have hpa := (Lv.eight (x := ⟨i, l, ⟨an, ai, sa⟩, ⟨bn, bi, sb⟩⟩) (Lv.blk_keep HP9.out HOI9.out g10)).1
          obtain ⟨d0, d1, d2, d3, d4, d5, d6, d7⟩ := hpa
          simp only [Nat.zero_add] at d0 d1 d2 d3 d4 d5 d6 d7
          obtain ⟨⟨y0, y1, y2, y3⟩, -⟩ := Lv.quad ((hb10.block b (lt_of_block HQ6.out)).trans HQ6.out)
          have g11 : Below w10.heap.size w10 (w10.alloc (.cells #[.int .i64 i, .int .i64 l, .bool an, .int .i64 ai, .string sa, .bool bn, .int .i64 bi, .string sb] 38)) := (Below.refl _ _).alloc (Nat.le_refl _) _
          have HSR := Lib.hid (Dk.src_one (enc := Mf.pc) w10 ⟨i, l, ⟨an, ai, sa⟩, ⟨bn, bi, sb⟩⟩ #[.int .i64 i, .int .i64 l, .bool an, .int .i64 ai, .string sa, .bool bn, .int .i64 bi, .string sb] rfl 38)
          have HOW11 := Lib.hid (HOW10.out.kept g11)
          have HOI11 := Lib.hid (HOI10.out.kept g11)
          have HB11 := Lib.hid (hb10.trans (g11.mono hb10.size))
          clear o10 g10 g11 hb10)
       | (at_builtin
          refine Mf.wpList_part [⟨i, l, ⟨an, ai, sa⟩, ⟨bn, bi, sb⟩⟩] HOW11.out HB11.out.size (by have := HFL.out; simp only [List.length_singleton]; omega) HSR.out _ _ (by rfl) (by rfl) (by rfl) (by rfl) ?_
          intro v12 w12 o12 g12
          have HOI12 := Lib.hid (Lv.oi_keep HOI11.out HOW11.out g12)
          have HOW12 := Lib.hid o12
          have HB12 := Lib.hid (Mf.ow_below HB11.out HB11.out.size HOW11.out g12)
          clear o12 g12)
       | fail)
      go_wp2
      go_roundw
      case rel => exact ⟨j + 1, HJL.out, by simp, by rw [HTK.out]; exact HOI12.out, by rw [HFS2.out]; exact HOW12.out, HB12.out⟩
      case measure => (have := HJL.out; simp [intOf]; omega)
     ·have HFS2 := Lib.hid HFS.out
      rw [hw2] at HFS2
      simp only [Bool.false_eq_true, if_false, List.append_nil] at HFS2
      go_wp2_with fail
      refine (CH.out _ _ HIS8.out).mono ?_
      rintro e w9 ⟨rfl, rfl⟩
      go_wp2_with (first
       | (at_builtin
          refine Lv.wpList_int [i] HOI9.out HB9.out.size (by have := HTL.out; simp only [List.length_singleton]; omega) HSI.out _ _ (by rfl) (by rfl) (by rfl) (by rfl) ?_
          intro v10 w10 o10 g10
          have HOW10 := Lib.hid (Lv.ow_keep HOW9.out HOI9.out g10)
          have HOI10 := Lib.hid o10
          have hb10 := Lv.oi_below HB9.out HB9.out.size HOI9.out g10
          have HB10 := Lib.hid hb10
          have hpa := (Lv.eight (x := ⟨i, l, ⟨an, ai, sa⟩, ⟨bn, bi, sb⟩⟩) (Lv.blk_keep HP9.out HOI9.out g10)).1
          obtain ⟨d0, d1, d2, d3, d4, d5, d6, d7⟩ := hpa
          simp only [Nat.zero_add] at d0 d1 d2 d3 d4 d5 d6 d7
          obtain ⟨⟨y0, y1, y2, y3⟩, -⟩ := Lv.quad ((hb10.block b (lt_of_block HQ6.out)).trans HQ6.out)
          clear o10 g10 hb10)
       | fail)
      go_wp2
      go_roundw
      case rel => exact ⟨j + 1, HJL.out, by simp, by rw [HTK.out]; exact HOI10.out, by rw [HFS2.out]; exact HOW10.out, HB10.out⟩
      case measure => (have := HJL.out; simp [intOf]; omega)
    ·have hji : ¬ (j : Int) < (X.length : Int) := by omega
     obtain rfl : j = X.length := by omega
     have hO1 : Mf.Ow w6.heap.size wr (.slice fa ((N.take X.length).filter fun p => p.lv == (k : Int)).length fc) C := by
      have h := HOW.out
      have e : N.take X.length = N := by rw [← HNL.out, List.take_length]
      rw [e] at h ⊢
      rw [HCF.out] at h ⊢
      exact h
     obtain ⟨fa2, fc2, e2⟩ := Lv.Ow.sl hO1
     rw [e2] at hO1 ⊢
     have hI1 : Lv.Oi w6.heap.size wr (.slice ma mn mc) X := by
      have h := HOI.out
      rw [List.take_length] at h
      exact h
     have hI2 := Lv.Oi.is hI1
     obtain ⟨ia, ic, ei, -, -⟩ := id hI2
     simp only [Value.slice.injEq] at ei
     obtain ⟨rfl, rfl, rfl⟩ := ei
     have HIX := Lib.hid hI2
     have HPC := Lib.hid hO1.ps
     have HGQ := Lib.hid (HG6.out.trans (hB.mono HG6.out.size))
     have HPSQ := Lib.hid (HPS6.out.kept hB)
     have HQQ := Lib.hid ((hB.block b (lt_of_block HQ6.out)).trans HQ6.out)
     have HCL : Hid (C.length ≤ 1000) := Lib.hid (by
      rw [← HCF.out]
      have h1 := List.length_filter_le (fun p : Mf.P => p.lv == (k : Int)) N
      have := HPL.out
      have := HNL.out
      omega)
     obtain ⟨wq, hwq⟩ : ∃ wq, wq = wr := ⟨_, rfl⟩
     subst hwq
     clear hO1 hI1 hI2 hOi hOw hB HOI HOW HB hj hjl e2 HPS6 HI6 HQ6 HG6 HNN y0 y1 y2 y3
     have CHX := Lib.hid fun (n : Int) (W : World) (g : Below wq.heap.size wq W) => Lv.has_c _ X n W (HIX.out.kept g) HPL.out
     obtain ⟨⟨y0, y1, y2, y3⟩, -⟩ := Lv.quad HQQ.out
     go_wp2_with fail
     clear y0 y1 y2 y3
     go_loopw [10] (fun i wr => ∃ m : Nat, m ≤ E.length ∧ i = .int .i64 (m : Int) ∧ Below wq.heap.size wq wr) (fun i _ => E.length - (intOf i).toNat)
     case atStart => exact ⟨0, Nat.zero_le _, rfl, Below.refl _ _⟩
     case round =>
      obtain ⟨wo, hwo⟩ : ∃ wo, wo = wr := ⟨_, rfl⟩
      subst hwo
      obtain ⟨m, hm, rfl, hB⟩ := hrel
      have HB := Lib.hid hB
      have hm0 : (0 : Int) ≤ (m : Int) := by omega
      have hm9 : (m : Int) ≤ 80 := by have := HE.out; omega
      by_cases hml : m < E.length
      ·have hmi : (m : Int) < (E.length : Int) := by omega
       have hx := List.getElem?_eq_getElem hml
       generalize E[m] = p at hx
       have hpE := List.mem_of_getElem? hx
       have HPE := Lib.hid hpE
       have HX := Lib.hid hx
       have HML := Lib.hid hml
       clear hm hml hB hx hpE
       go_wp2
       go_loopw [11] (fun i wr => ∃ q : Nat, q ≤ C.length ∧ i = .int .i64 (q : Int) ∧ Below wq.heap.size wq wr) (fun i _ => C.length - (intOf i).toNat)
       case atStart => exact ⟨0, Nat.zero_le _, rfl, HB.out⟩
       case round =>
        obtain ⟨q, hq, rfl, hB⟩ := hrel
        have HB2 := Lib.hid hB
        obtain ⟨⟨y0, y1, y2, y3⟩, -⟩ := Lv.quad ((hB.block b (lt_of_block HQQ.out)).trans HQQ.out)
        obtain ⟨xb, xo, e1, hPA⟩ := (HPSQ.out.kept hB).at_ HX.out
        have hq0 : (0 : Int) ≤ (q : Int) := by omega
        have hq9 : (q : Int) ≤ 1000 := by have := HCL.out; omega
        by_cases hql : q < C.length
        ·have hqi : (q : Int) < (C.length : Int) := by omega
         have hy := List.getElem?_eq_getElem hql
         generalize C[q] = c at hy
         have hcC := List.mem_of_getElem? hy
         obtain ⟨cb, co, e2, hPB⟩ := (HPC.out.kept hB).at_ hy
         have HQL := Lib.hid hql
         subst e1 e2
         have hno : ∀ B : Bool, Lv.ov p c = B → p.lv = t → B = true → decide (p.id ∈ X) = true := fun B h1 h2 h3 => decide_eq_true (HOV.out p c HPE.out h2 hcC (h1.trans h3))
         have CA : Hid (∀ p : Regrown, _) := Lib.hid fun rg : Regrown => Calls.regrown_of (d := rg.d) (os := rg.os) (w := wr) (Lv.overlap_c p c (HZ.out p HPE.out) (HCM.out c hcC) _)
         have CH : Hid (∀ p : Regrown, _) := Lib.hid fun rg : Regrown => Calls.regrown_of (d := rg.d) (os := rg.os) (w := wr) ((CHX.out p.id _ (hB.trans (below_regrown wr rg.d rg.os |>.mono hB.size))).mono fun e w' ⟨he, hw⟩ => (⟨he, by rw [hw]; exact Below.refl _ _⟩ : e = _ ∧ Below _ _ w'))
         generalize decide (p.id ∈ X) = D at CH hno
         generalize hov : Lv.ov p c = B at CA hno
         have HNO := Lib.hid (hno B rfl)
         obtain ⟨i, l, ⟨an, ai, sa⟩, ⟨bn, bi, sb⟩⟩ := p
         obtain ⟨ci, cl, ⟨cn, ck, cs⟩, ⟨dn, dk, ds⟩⟩ := c
         obtain ⟨c0, c1, c2, c3, c4, c5, c6, c7⟩ := hPA
         obtain ⟨d0, d1, d2, d3, d4, d5, d6, d7⟩ := hPB
         simp only [Mf.cs] at c0 c1 c2 c3 c4 c5 c6 c7 d0 d1 d2 d3 d4 d5 d6 d7 CA CH HNO
         have Rc0 := fun d os => cell_regrown c0 d os
         have Rc1 := fun d os => cell_regrown c1 d os
         have Rc2 := fun d os => cell_regrown c2 d os
         have Rc3 := fun d os => cell_regrown c3 d os
         have Rc4 := fun d os => cell_regrown c4 d os
         have Rc5 := fun d os => cell_regrown c5 d os
         have Rc6 := fun d os => cell_regrown c6 d os
         have Rc7 := fun d os => cell_regrown c7 d os
         have Rd0 := fun d os => cell_regrown d0 d os
         have Rd1 := fun d os => cell_regrown d1 d os
         have Rd2 := fun d os => cell_regrown d2 d os
         have Rd3 := fun d os => cell_regrown d3 d os
         have Rd4 := fun d os => cell_regrown d4 d os
         have Rd5 := fun d os => cell_regrown d5 d os
         have Rd6 := fun d os => cell_regrown d6 d os
         have Rd7 := fun d os => cell_regrown d7 d os
         have Ry0 := fun d os => cell_regrown y0 d os
         have Ry1 := fun d os => cell_regrown y1 d os
         have Ry2 := fun d os => cell_regrown y2 d os
         have Ry3 := fun d os => cell_regrown y3 d os
         clear hq hql hB hy hcC hno hov
         go_upto_region 26 with (fail)
         clear c0 c1 c2 c3 c4 c5 c6 c7 d0 d1 d2 d3 d4 d5 d6 d7 y0 y1 y2 y3
         by_cases hlt : l = t
         ·have hlb : (l == t) = true := beq_iff_eq.2 hlt
          have HN2 := Lib.hid (HNO.out hlt)
          clear hlt
          cases B
          ·refine wp_region_quiet_below (by kernel_rfl) (by kernel_rfl) ?_
           repeat (go_big_quiet_step (first | with_reducible exact CA.out _ | with_reducible exact CH.out _))
           refine wpQuiet_nil ?_
           intro w5 hw'
           have HB5 := Lib.hid (HB2.out.trans ((Bk.below_reg hw').mono HB2.out.size))
           clear hw'
           go_wp2
           go_roundw
           case rel => exact ⟨q + 1, HQL.out, by simp, HB5.out⟩
           case measure => (have := HQL.out; simp [intOf]; omega)
          ·have hD := HN2.out rfl
           subst hD
           refine wp_region_quiet_below (by kernel_rfl) (by kernel_rfl) ?_
           repeat (go_big_quiet_step (first | with_reducible exact CA.out _ | with_reducible exact CH.out _))
           refine wpQuiet_nil ?_
           intro w5 hw'
           have HB5 := Lib.hid (HB2.out.trans ((Bk.below_reg hw').mono HB2.out.size))
           clear hw'
           go_wp2
           go_roundw
           case rel => exact ⟨q + 1, HQL.out, by simp, HB5.out⟩
           case measure => (have := HQL.out; simp [intOf]; omega)
         ·have hlb : (l == t) = false := beq_eq_false_iff_ne.2 hlt
          clear hlt
          refine wp_region_quiet_below (by kernel_rfl) (by kernel_rfl) ?_
          repeat (go_big_quiet_step (first | with_reducible exact CA.out _ | with_reducible exact CH.out _))
          refine wpQuiet_nil ?_
          intro w5 hw'
          have HB5 := Lib.hid (HB2.out.trans ((Bk.below_reg hw').mono HB2.out.size))
          clear hw'
          go_wp2
          go_roundw
          case rel => exact ⟨q + 1, HQL.out, by simp, HB5.out⟩
          case measure => (have := HQL.out; simp [intOf]; omega)
        ·have hqi : ¬ (q : Int) < (C.length : Int) := by omega
         have hzr : k = 0 → p.lv = 0 → decide (p.id ∈ X) = true := fun h1 h2 => decide_eq_true (HZR.out h1 p HPE.out h2)
         have CH := Lib.hid fun (W : World) (g : Below wq.heap.size wq W) => (CHX.out p.id W g).mono fun e w' ⟨he, hw⟩ => (⟨he, by rw [hw]; exact Below.refl _ _⟩ : e = _ ∧ Below W.heap.size W w')
         generalize decide (p.id ∈ X) = D at CH hzr
         have HZD := Lib.hid hzr
         subst e1
         obtain ⟨i, l, ⟨an, ai, sa⟩, ⟨bn, bi, sb⟩⟩ := p
         obtain ⟨c0, c1, c2, c3, c4, c5, c6, c7⟩ := hPA
         simp only at c0 c1 c2 c3 c4 c5 c6 c7 CH HZD
         clear hq hql hB hzr
         by_cases hk0 : k = 0
         ·have hkb : ((k : Int) == 0) = true := beq_iff_eq.2 (by omega)
          by_cases hl0 : l = 0
          ·have hlb : (l == 0) = true := beq_iff_eq.2 hl0
           have hD := HZD.out hk0 hl0
           subst hD
           clear hl0 hk0
           go_wp2_with fail
           refine (CH.out _ HB2.out).mono ?_
           rintro e w11 ⟨rfl, g11⟩
           have HB11 := Lib.hid (HB2.out.trans (g11.mono HB2.out.size))
           clear g11
           go_wp2
           go_roundw
           case rel => exact ⟨m + 1, HML.out, by simp, HB11.out⟩
           case measure => (have := HML.out; simp [intOf]; omega)
          ·have hlb : (l == 0) = false := beq_eq_false_iff_ne.2 hl0
           subst hk0
           clear hl0
           go_wp2
           go_roundw
           case rel => exact ⟨m + 1, HML.out, by simp, HB2.out⟩
           case measure => (have := HML.out; simp [intOf]; omega)
         ·have hkz : ¬ (k : Int) = 0 := by omega
          have hkb : ((k : Int) == 0) = false := beq_eq_false_iff_ne.2 hkz
          go_wp2
          go_roundw
          case rel => exact ⟨m + 1, HML.out, by simp, HB2.out⟩
          case measure => (have := HML.out; simp [intOf]; omega)
      ·have hmi : ¬ (m : Int) < (E.length : Int) := by omega
       obtain ⟨⟨y0, y1, y2, y3⟩, -⟩ := Lv.quad ((hB.block b (lt_of_block HQQ.out)).trans HQQ.out)
       have ht := HT.out
       have hk3 := HK3.out
       have hk0 : (0 : Int) ≤ (k : Int) := by omega
       have hk9 : (k : Int) ≤ 3 := by omega
       have wk : IntKind.i64.wrap ((k : Int) + 1) = t := by rw [IntKind.wrap_i64]; omega
       have wk2 : wrap64 ((k : Int) + 1) = t := by unfold wrap64; omega
       have hte : (t == (k : Int) + 1) = true := beq_iff_eq.2 (by omega)
       have htt : (t == t) = true := beq_self_eq_true t
       have hcl : decide ((0 : Int) < (C.length : Int)) = true := decide_eq_true (by have := HCH.out; omega)
       have hcl2 : (0 : Int) < (C.length : Int) := by have := HCH.out; omega
       clear hm hml hB ht
       go_wp2
       go_ret
       exact ⟨by first | rfl | (simp; exact HCH.out) | (simp [hte]; exact HCH.out), HGQ.out.trans (HB.out.mono HGQ.out.size)⟩
end Go.Proofs.Ytodeodndjkkkbaa
namespace Go.Proofs.Ytodeodndjkkkbaa.Ty
open Go.RowKit Go.WideShapes Go.ChangeShapes
theorem post_below {H : Type} {enc : TypeId × Value → H} {P : Program} {f : Func} {s : ChangeSpec} {apart fresh handsOn again : Bool} {W W' : World} {args : Array Value} {v : Value} {ds gs : List (DataW H)} {before pa pv : List MemPlace}
 (hW : DataW.Whole enc P f.params.toList s.vars apart W args.toList ds gs before)
 (hr : ∀ (b : Nat) (sp : Nat → Bool) (hd : Bool), DataW.TrodAll enc P W' b sp hd f.resultTypes.toList (v.resultList f.resultTypes.size) (s.fn H (ds ++ gs)).results [])
 (ha : ∀ sp : Nat → Bool, (∀ p ∈ before, sp p.block = true) → DataW.TrodAll enc P W' 0 sp true f.params.toList args.toList (s.fn H (ds ++ gs)).args pa)
 (hv : ∀ sp : Nat → Bool, (∀ p ∈ before, sp p.block = true) → DataW.TrodVars enc P W' sp s.vars (s.fn H (ds ++ gs)).vars pv)
 (hp : before = pa ++ pv) (hb : Below W.heap.size W W')
 (hok : ∀ (j : Nat) (t : TypeId) (r : Value), f.resultTypes[j]? = some t → (v.resultList f.resultTypes.size)[j]? = some r → Value.okWide P W' .any 0 t r) :
 s.post enc P f apart fresh handsOn again W args v W' := by
 have hl : ∀ p ∈ before, p.block < W.heap.size := fun p h => hW.lt p h
 have hs : ∀ p ∈ before, (fun b => decide (b < W.heap.size)) p.block = true := fun p h => by simpa using hl p h
 have hW0 := hW
 obtain ⟨_, _, _, _, _, hz, hn⟩ := hW0
 refine ⟨ds, gs, before, [], pa, pv, hW, hr _ _ _, ha _ hs, hv _ hs, World.keptBut_mono (fun p h => ⟨h, by rw [hp] at h; exact .inr (List.mem_append.1 h)⟩) (hb.frame (· ∈ before)), fun _ => ⟨hok, _, _, ([] ++ pa) ++ pv, ⟨[] ++ pa, pv, trodAll_append (ha _ (fun _ _ => rfl)) (hr _ _ _), hv _ (fun _ _ => rfl), rfl, ?_, ?_⟩, ?_⟩⟩
 ·intro b off h
  have hin : MemPlace.cell b off ∈ before := by rw [hp]; simpa using h
  rw [hb.frozen (hl _ hin)]
  exact hz b off hin
 ·intro hap
  have := hn hap
  rw [hp] at this
  simpa using this
 ·intro p h _
  rw [hp]
  simpa using h
end Go.Proofs.Ytodeodndjkkkbaa.Ty
namespace Go.Proofs.Ytodeodndjkkkbaa.Ty
open Go.RowKit Go.WideShapes Go.ChangeShapes
theorem all_stay {H : Type} {enc : TypeId × Value → H} {P : Program} (hl : laidOutB P = true) {W W' : World} {sp : Nat → Bool} : ∀ (ts : List TypeId) (vs : List Value) (ds : List (DataW H)) (ps : List MemPlace),
 (ts.all fun t => P.readableRec t && decide (t < P.types.size)) = true → DataW.TrodAll enc P W 0 (fun _ => true) true ts vs ds ps → (∀ p ∈ ps, W.sameAt W' p) → (∀ p ∈ ps, sp p.block = true) → DataW.TrodAll enc P W' 0 sp true ts vs ds ps
 | [], [], [], _, _, h, _, _ => h
 | [], [], _ :: _, _, _, h, _, _ => h.elim
 | [], _ :: _, [], _, _, h, _, _ => h.elim
 | [], _ :: _, _ :: _, _, _, h, _, _ => h.elim
 | _ :: _, [], [], _, _, h, _, _ => h.elim
 | _ :: _, [], _ :: _, _, _, h, _, _ => h.elim
 | _ :: _, _ :: _, [], _, _, h, _, _ => h.elim
 | t :: ts, v :: vs, d :: ds, ps, ht, h, hs, hsp => by
   obtain ⟨p, q, h1, h2, rfl⟩ := h
   simp only [List.all_cons, Bool.and_eq_true, decide_eq_true_eq] at ht
   exact ⟨p, q, WideElems.Trod_stays hl ht.1.1 ht.1.2 h1 (fun x hx => hs x (List.mem_append_left _ hx)) (fun x hx => hsp x (List.mem_append_left _ hx)),
    all_stay hl ts vs ds q ht.2 h2 (fun x hx => hs x (List.mem_append_right _ hx)) (fun x hx => hsp x (List.mem_append_right _ hx)), rfl⟩
end Go.Proofs.Ytodeodndjkkkbaa.Ty
