import Derived.Test.YtodeodndjkkkbaaZAN
namespace Go.Proofs.Ytodeodndjkkkbaa
open Go Go.RowKit
theorem Su.Rd.rev {w : World} {K : List (Option Addr × Nat × Nat)} {Q : List (List Kn.V)} (h : Su.Rd w K Q) : Su.Rd w K.reverse Q.reverse := by
 refine ⟨by rw [List.length_reverse, List.length_reverse, h.1], fun i x hx => ?_⟩
 have hi : i < Q.length := by have := (List.getElem?_eq_some_iff.1 hx).1; rwa [List.length_reverse] at this
 rw [List.getElem?_reverse hi] at hx
 obtain ⟨y, e1, e2⟩ := h.2 _ x hx
 exact ⟨y, by rw [List.getElem?_reverse (by rw [h.1]; exact hi), h.1]; exact e1, e2⟩
theorem Su.z_proj {cs : List Int} {Q : List (List Kn.V)} (h : ∀ r ∈ Q, ∀ x ∈ r, Kn.Z x) : ∀ r ∈ Su.proj cs Q, ∀ x ∈ r, Kn.Z x := fun r hr x hx => by
 unfold Su.proj at hr
 obtain ⟨q, hq, rfl⟩ := List.mem_map.1 hr
 obtain ⟨c, _, rfl⟩ := List.mem_map.1 hx
 exact Su.z_col (c := c) h _ (by unfold Su.col; exact List.mem_map_of_mem hq)
theorem Su.drop_rev {α : Type} {K : List α} {m : Nat} {y : α} (h : K[m]? = some y) : (K.drop m).reverse = (K.drop (m + 1)).reverse ++ [y] := by
 obtain ⟨hm, rfl⟩ := List.getElem?_eq_some_iff.1 h
 rw [List.drop_eq_getElem_cons hm, List.reverse_cons]
set_option maxHeartbeats 1000000 in
set_option maxRecDepth 100000 in
theorem Su.lawOrder_w (u cv : Value) (Q : List (List Kn.V)) (c : Int) (cs : List Int) (w : World) (hu : Su.Rv w u Q) (hc : Mf.Is w cv cs) (hz : ∀ r ∈ Q, ∀ x ∈ r, Kn.Z x) (hq : Q.length ≤ 1048576) (hl : cs.length ≤ 1048576) :
 Calls Try.prog 10 #[u, .int .i64 c, cv] w fun e w' => e = .returned (.bool true) ∧ Below w.heap.size w w' := by
 have CL := Lib.hid (Su.lives_c w)
 have ca := fun (w' : World) (g : Below w.heap.size w w') => Su.fold_c u Q c w' (hu.rws.later g) hz (by omega)
 have cb := fun (z : Value) (w' : World) (h : Rn.Rws w' z Q.reverse) => Su.fold_c z Q.reverse c w' h (fun r hr => hz r (List.mem_reverse.1 hr)) (by rw [List.length_reverse]; omega)
 rw [Su.fold_rev] at cb
 have cp := fun (w' : World) (g : Below w.heap.size w w') => Su.project_c u cv Q cs w' (hu.rws.later g) (hc.kept g) hz (by omega) (by omega)
 have CR : Hid (∀ (z : Value) (w' : World) (k : Nat), Rn.Rws w' z (Su.proj cs Q) → _) := Lib.hid fun z w' k h => Su.fold_c z (Su.proj cs Q) (k : Int) w' h (Su.z_proj hz) (by rw [Su.proj_len]; omega)
 have CC : Hid (∀ (d : Int) (w' : World), Below w.heap.size w w' → _) := Lib.hid fun d w' g => Su.fold_c u Q d w' (hu.rws.later g) hz (by omega)
 have HU := Lib.hid hu.rws
 have HC := Lib.hid hc
 have HQ := Lib.hid hq
 have HL := Lib.hid hl
 obtain ⟨K, hat, hrd⟩ := hu
 have HRD := Lib.hid hrd
 have HKL : Hid (K.length = Q.length) := Lib.hid hrd.1
 have HK0 : Hid (∀ w', Below w.heap.size w w' → Mf.At 1 Bk.e1 w' u K) := Lib.hid fun w' g => Mf.At.kept hat g
 obtain ⟨aa, ac, hue, -⟩ := HU.out
 subst hue
 obtain ⟨c2, c3, rfl, -, -⟩ := hc
 clear hat hrd hz hq hl
 unfold Su.ProjD at cp
 generalize hfa : Su.fold c Q = fa at ca cb
 clear hfa
 obtain ⟨⟨xc, xq, xv, ⟨xln, xli, xls⟩, ⟨xhn, xhi, xhs⟩⟩, xe⟩ := fa
 simp only [Su.S.val, Su.cs] at ca cb
 have CA := Lib.hid ca
 have CB := Lib.hid cb
 have CP := Lib.hid cp
 have ex0 : (xe != xe) = false := bne_self_eq_false xe
 clear ca cb cp
 go_enter Try.func10, Try.ntmps10
 go_wp2_with fail
 refine (CL.out).mono ?_
 rintro e w1 ⟨rfl, g1⟩
 have HG1 := Lib.hid g1
 clear g1
 go_wp2_with fail
 refine (CA.out _ HG1.out).mono ?_
 rintro e w2 ⟨rfl, g2⟩
 have HG2 := Lib.hid (HG1.out.trans (g2.mono HG1.out.size))
 clear g2 HG1
 go_upto_region 4 with (fail)
 obtain ⟨qx, hq⟩ : ∃ b, b = w2.heap.size := ⟨_, rfl⟩
 have HN := Lib.hid (Su.Blk.new w2 ⟨xc, xq, xv, ⟨xln, xli, xls⟩, ⟨xhn, xhi, xhs⟩⟩)
 have gn : Below w2.heap.size w2 (w2.alloc (.cells (Su.cs ⟨xc, xq, xv, ⟨xln, xli, xls⟩, ⟨xhn, xhi, xhs⟩⟩) 52)) := (Below.refl _ _).alloc (Nat.le_refl _) _
 have HG3 := Lib.hid (HG2.out.trans (gn.mono HG2.out.size))
 clear gn HG2
 simp only [Su.cs] at HG3 HN
 rw [← hq] at HN ⊢
 generalize World.alloc _ _ = w3 at HG3 HN ⊢
 clear hq
 have HX3 := HN
 clear HN
 have dq0 : (0 : Int) ≤ (Q.length : Int) := by omega
 have dq7 : (Q.length : Int) ≤ 1048576 := by have := HQ.out; omega
 go_wp2
 go_loopw [9, 10] (fun v i wr => ∃ j : Nat, j ≤ Q.length ∧ i = .int .i64 ((j : Int) - 1) ∧ Dk.Own 58 1 Bk.e1 w3.heap.size wr v (K.drop j).reverse ∧ Below w3.heap.size w3 wr) (fun _ i _ => (intOf i + 1).toNat)
 case atStart => exact ⟨Q.length, Nat.le_refl _, rfl, by rw [← HKL.out, List.drop_length]; exact Dk.Own.nil _ _, Below.refl _ _⟩
 case round =>
  obtain ⟨j, hj, rfl, hO, hB⟩ := hrel
  have HO := Lib.hid hO
  have HB := Lib.hid hB
  obtain ⟨oa, on, oc, rfl⟩ : ∃ a n c, u9 = .slice a n c := by
   rcases hO.form with ⟨e, _⟩ | ⟨g, c, e, _⟩
   ·exact ⟨none, 0, 0, e⟩
   ·exact ⟨_, _, c, e⟩
  clear hO hB
  have HGR := Lib.hid (HG3.out.trans (HB.out.mono HG3.out.size))
  have HXR := Lib.hid (HX3.out.kept HB.out)
  rcases j with _ | m
  ·have d0 : (((0 : Nat) : Int) - 1) = -1 := rfl
   rw [d0]
   have HRW := Lib.hid (Su.own_rws HO.out (by rw [List.drop_zero]; exact (HRD.out.later HGR.out).rev))
   clear hj d0
   go_wp2_with fail
   refine (CB.out _ _ HRW.out).mono ?_
   rintro e w4 ⟨rfl, g4⟩
   have HG4 := Lib.hid (HGR.out.trans (g4.mono HGR.out.size))
   have HX4 := Lib.hid (HXR.out.kept g4)
   clear g4 HRW HO HB HGR HXR
   obtain ⟨ya, yb⟩ : True ∧ True := ⟨trivial, trivial⟩
   clear ya yb
   go_upto_region 10 with (fail)
   obtain ⟨qy, hq⟩ : ∃ b, b = w4.heap.size := ⟨_, rfl⟩
   have HN := Lib.hid (Su.Blk.new w4 ⟨xc, xq, xv, ⟨xln, xli, xls⟩, ⟨xhn, xhi, xhs⟩⟩)
   have gn : Below w4.heap.size w4 (w4.alloc (.cells (Su.cs ⟨xc, xq, xv, ⟨xln, xli, xls⟩, ⟨xhn, xhi, xhs⟩⟩) 52)) := (Below.refl _ _).alloc (Nat.le_refl _) _
   have HG5 := Lib.hid (HG4.out.trans (gn.mono HG4.out.size))
   have HX5 := Lib.hid (HX4.out.kept gn)
   clear gn HG4 HX4
   simp only [Su.cs] at HG5 HN HX5
   rw [← hq] at HN ⊢
   generalize World.alloc _ _ = w5 at HG5 HN HX5 ⊢
   clear hq
   have HN5 := HN
   clear HN
   obtain ⟨x0, x1, x2, x3, x4, x5, x6, x7, x8⟩ := HX5.out.cells
   obtain ⟨y0, y1, y2, y3, y4, y5, y6, y7, y8⟩ := HN5.out.cells
   simp only at x0 x1 x2 x3 x4 x5 x6 x7 x8 y0 y1 y2 y3 y4 y5 y6 y7 y8
   go_wp2_with fail
   refine (CP.out _ HG5.out).mono ?_
   rintro e w6 ⟨p, rfl, hp, g6⟩
   clear x0 x1 x2 x3 x4 x5 x6 x7 x8 y0 y1 y2 y3 y4 y5 y6 y7 y8
   have HG6 := Lib.hid (HG5.out.trans (g6.mono HG5.out.size))
   have HP := Lib.hid hp
   obtain ⟨pa, pc, rfl, -⟩ := hp
   clear g6 HX5 HN5 HG5
   cases hok : Su.okP cs Q
   ·rw [if_neg (by decide)]
    go_wp2
    go_loopw [15] (fun i wr => i = .int .i64 0 ∧ Below w6.heap.size w6 wr) (fun _ _ => 0)
    case atStart => exact ⟨rfl, Below.refl _ _⟩
    case round =>
     obtain ⟨rfl, hB⟩ := hrel
     have HB := Lib.hid (HG6.out.trans (hB.mono HG6.out.size))
     clear hB
     by_cases hn : (0 : Int) < (cs.length : Int)
     ·go_wp2
      go_ret
      exact ⟨rfl, HB.out⟩
     ·go_wp2
      go_ret
      exact ⟨rfl, HB.out⟩
   ·have HPR : Hid (Rn.Rws w6 (.slice pa (Su.proj cs Q).length pc) (Su.proj cs Q)) := Lib.hid (by have := HP.out; rw [hok] at this; simpa using this)
    have HOK := Lib.hid hok
    simp only [if_true]
    clear hok HP
    go_wp2
    go_loopw [15] (fun i wr => ∃ k : Nat, k ≤ cs.length ∧ i = .int .i64 k ∧ Below w6.heap.size w6 wr) (fun i _ => cs.length - (intOf i).toNat)
    case atStart => exact ⟨0, Nat.zero_le _, rfl, Below.refl _ _⟩
    case round =>
     obtain ⟨k, hk, rfl, hB⟩ := hrel
     have HB := Lib.hid hB
     have HG7 := Lib.hid (HG6.out.trans (hB.mono HG6.out.size))
     clear hB
     by_cases hkl : k < cs.length
     ·have dk : (k : Int) < (cs.length : Int) := by omega
      by_cases hq0 : 0 < Q.length
      ·obtain ⟨ca1, cc1, ec, -, hcc⟩ := HC.out
       simp only [Value.slice.injEq] at ec
       obtain ⟨rfl, -, rfl⟩ := ec
       rcases hcc with ⟨rfl, _⟩ | ⟨cb, co, cls, fr, rfl, _, hb, hcl⟩
       ·simp at hkl
       have hx := List.getElem?_eq_getElem hkl
       generalize cs[k] = d at hx
       have hf := Su.fold_proj HOK.out hx
       have cv := CR.out _ _ k (HPR.out.later HB.out)
       rw [hf.1] at cv
       have cw := CC.out d
       have he : (Su.fold d Q).2 = 0 := by rw [hf.2]
       have HCE := Lib.hid ((Mf.Is.num hcl hx))
       have HCB := Lib.hid (lt_of_block hb)
       have dk0 : (0 : Int) ≤ (k : Int) := by omega
       have dk7 : (k : Int) ≤ 1048576 := by have := HL.out; omega
       have dq : decide ((0 : Int) < (Q.length : Int)) = true := decide_eq_true (by omega)
       have dq3 : (0 : Int) < (Q.length : Int) := by omega
       have HK := Lib.hid hkl
       clear hf hcl hb hx hkl hk hq0
       generalize Su.fold d Q = fd at cv cw he
       obtain ⟨⟨vc, vq, vv, ⟨vln, vli, vls⟩, ⟨vhn, vhi, vhs⟩⟩, ve⟩ := fd
       simp only at he
       subst he
       simp only [Su.S.val, Su.cs] at cv cw
       have CV := Lib.hid cv
       have CW := Lib.hid cw
       clear cv cw
       go_wp2_with fail
       refine (CV.out).mono ?_
       rintro e w8 ⟨rfl, g8⟩
       have HG8 := Lib.hid (HG7.out.trans (g8.mono HG7.out.size))
       have HB8 := Lib.hid (HB.out.trans (g8.mono HB.out.size))
       clear g8 HG7 HB
       go_upto_region 17 with (fail)
       obtain ⟨qv, hq⟩ : ∃ b, b = w8.heap.size := ⟨_, rfl⟩
       have HN := Lib.hid (Su.Blk.new w8 ⟨vc, vq, vv, ⟨vln, vli, vls⟩, ⟨vhn, vhi, vhs⟩⟩)
       have gn : Below w8.heap.size w8 (w8.alloc (.cells (Su.cs ⟨vc, vq, vv, ⟨vln, vli, vls⟩, ⟨vhn, vhi, vhs⟩⟩) 52)) := (Below.refl _ _).alloc (Nat.le_refl _) _
       have HG9 := Lib.hid (HG8.out.trans (gn.mono HG8.out.size))
       have HB9 := Lib.hid (HB8.out.trans (gn.mono HB8.out.size))
       clear gn HG8 HB8
       simp only [Su.cs] at HG9 HN HB9
       rw [← hq] at HN ⊢
       generalize World.alloc _ _ = w9 at HG9 HN HB9 ⊢
       clear hq
       have HV9 := HN
       clear HN
       have ce := (HG9.out.cell (p := ⟨cb, co + k, none⟩) HCB.out).trans HCE.out
       go_wp2_with fail
       refine (CW.out _ HG9.out).mono ?_
       rintro e w10 ⟨rfl, g10⟩
       have HG10 := Lib.hid (HG9.out.trans (g10.mono HG9.out.size))
       have HB10 := Lib.hid (HB9.out.trans (g10.mono HB9.out.size))
       have HV10 := Lib.hid (HV9.out.kept g10)
       clear g10 HG9 HB9 HV9 ce
       go_upto_region 18 with (fail)
       obtain ⟨qw, hq⟩ : ∃ b, b = w10.heap.size := ⟨_, rfl⟩
       have HN := Lib.hid (Su.Blk.new w10 ⟨vc, vq, vv, ⟨vln, vli, vls⟩, ⟨vhn, vhi, vhs⟩⟩)
       have gn : Below w10.heap.size w10 (w10.alloc (.cells (Su.cs ⟨vc, vq, vv, ⟨vln, vli, vls⟩, ⟨vhn, vhi, vhs⟩⟩) 52)) := (Below.refl _ _).alloc (Nat.le_refl _) _
       have HG11 := Lib.hid (HG10.out.trans (gn.mono HG10.out.size))
       have HV11 := Lib.hid (HV10.out.kept gn)
       have HB11 := Lib.hid (HB10.out.trans (gn.mono HB10.out.size))
       clear gn HG10 HV10 HB10
       simp only [Su.cs] at HG11 HN HV11 HB11
       rw [← hq] at HN ⊢
       generalize World.alloc _ _ = w11 at HG11 HN HV11 HB11 ⊢
       clear hq
       have HW11 := HN
       clear HN
       obtain ⟨x0, x1, x2, x3, x4, x5, x6, x7, x8⟩ := HV11.out.cells
       obtain ⟨y0, y1, y2, y3, y4, y5, y6, y7, y8⟩ := HW11.out.cells
       simp only at x0 x1 x2 x3 x4 x5 x6 x7 x8 y0 y1 y2 y3 y4 y5 y6 y7 y8
       go_wp2
       go_roundw
       case rel => exact ⟨k + 1, HK.out, by simp, HB11.out⟩
       case measure => (have := HK.out; simp [intOf]; omega)
      ·have dq : decide ((0 : Int) < (Q.length : Int)) = false := decide_eq_false (by omega)
       have dq3 : ¬ (0 : Int) < (Q.length : Int) := by omega
       clear hkl hk hq0
       go_wp2
       go_ret
       exact ⟨rfl, HG7.out⟩
     ·obtain rfl : k = cs.length := by omega
      have dk : ¬ (cs.length : Int) < (cs.length : Int) := by omega
      clear hkl hk
      go_wp2
      go_ret
      exact ⟨rfl, HG7.out⟩
  ·have hK : m < K.length := by rw [HKL.out]; omega
   have hx := List.getElem?_eq_getElem hK
   generalize K[m] = y at hx
   obtain ⟨ya, yn, yc⟩ := y
   have e1 : ((m + 1 : Nat) : Int) - 1 = (m : Int) := by omega
   rw [e1]
   obtain ⟨a1, c1, ea, -, hk0⟩ := HK0.out _ HGR.out
   simp only [Value.slice.injEq] at ea
   obtain ⟨rfl, -, rfl⟩ := ea
   rcases hk0 with ⟨rfl, _⟩ | ⟨b, o, cls, fr, rfl, _, hb, hcl⟩
   ·simp at hK
   have c0 : wr.cell? ⟨b, o + m, none⟩ = some (.slice ya yn yc) := by
    have c9 := hcl m 0 _ hx (by decide)
    rw [Nat.mul_one, Nat.add_zero] at c9
    exact c9
   have hdr := Su.drop_rev hx
   have hlen : ((K.drop (m + 1)).reverse).length + 1 ≤ 4194304 := by rw [List.length_reverse, List.length_drop, HKL.out]; have := HQ.out; omega
   have HDR := Lib.hid hdr
   have dm0 : (0 : Int) ≤ (m : Int) := by omega
   have dm : (m : Int) < (Q.length : Int) := by omega
   have HJ : Hid (m + 1 ≤ Q.length) := Lib.hid hj
   have ho := HO.out
   have hb9 := HB.out.size
   generalize (K.drop (m + 1)).reverse = M at ho hlen HDR
   clear hcl hx hb e1 hdr hj hK
   go_wp2_with (at_builtin; refine Dk.wpList_append1 45 _ 24 Try.underlying45 Su.infoR rfl (by decide) Bk.e1_len Bk.e1_one (ya, yn, yc) ho hb9 (by omega) (by omega) _ rfl _ rfl (.tmp 35) (.tmp 40) (by rfl) (by rfl) (by rfl) (by rfl) ?_; intro v6 w6 h6 g6)
   have H6 := Lib.hid h6
   have HB6 := Lib.hid (HB.out.trans (g6.below HB.out.size ho.base_le))
   clear h6 g6 ho hb9 hlen
   go_roundw
   case rel => exact ⟨m, by have := HJ.out; omega, by simp, by rw [HDR.out]; exact H6.out, HB6.out⟩
   case measure => simp [intOf]
end Go.Proofs.Ytodeodndjkkkbaa
