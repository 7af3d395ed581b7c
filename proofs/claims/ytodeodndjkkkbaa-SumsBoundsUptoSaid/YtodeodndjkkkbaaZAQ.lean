import Derived.Test.YtodeodndjkkkbaaZAN
namespace Go.Proofs.Ytodeodndjkkkbaa
open Go Go.RowKit
theorem Su.eq_run (a b : Kn.V) (w : World) : (binOp .eql 36 (.agg #[.bool a.null, .int .i64 a.n, .string a.s]) (.agg #[.bool b.null, .int .i64 b.n, .string b.s])).run Try.prog w = .ok (.bool (Kn.sameV a b)) w := by
 rcases Kn.sameV_ways a b with ⟨h, h1⟩ | ⟨h, h1, h2⟩ | ⟨h, h1, h2, h3⟩ | ⟨h, h1, h2, h3⟩
 all_goals
  rw [h]
  clear h
  go_simp
  done
theorem Su.sameV_self (a : Kn.V) : Kn.sameV a a = true := by unfold Kn.sameV; simp
def Su.in_ (C : List Kn.V) (y : Kn.V) : Bool := C.any fun v => !v.null && Kn.sameV v y
theorem Su.in_snoc (C : List Kn.V) (x y : Kn.V) : Su.in_ (C ++ [x]) y = (Su.in_ C y || (!x.null && Kn.sameV x y)) := by unfold Su.in_; rw [List.any_append]; simp
theorem Su.in_mem {C : List Kn.V} {y : Kn.V} (h : y ∈ C) (hn : y.null = false) : Su.in_ C y = true := by
 unfold Su.in_
 rw [List.any_eq_true]
 exact ⟨y, h, by rw [hn, Su.sameV_self]; rfl⟩
structure Su.Bd (C : List Kn.V) (s : Su.S) : Prop where
 lo : ∀ x ∈ C, x.null = false → decide (Kn.cmp x s.lo < 0) = false
 hi : ∀ x ∈ C, x.null = false → decide (Kn.cmp s.hi x < 0) = false
 vals : s.vals = (Su.cnt C : Nat)
 none_ : Su.cnt C = 0 → s.lo = Zn.zv ∧ s.hi = Zn.zv ∧ s.sum = 0
 some_ : 0 < Su.cnt C → Su.in_ C s.lo = true ∧ Su.in_ C s.hi = true
theorem Su.bd_of (k : Nat) (C : List Kn.V) : Su.Bd C (Su.of k C) := by
 have h := Zn.of_inv C
 have hv : ∀ x ∈ C, x.null = false → (Zn.of C).values = true := fun x hx hn => h.values.2 ⟨x, hx, hn⟩
 refine ⟨fun x hx hn => ?_, fun x hx hn => ?_, rfl, fun h0 => ?_, fun h0 => ?_⟩
 ·obtain ⟨_, _, h3⟩ := h.lo (hv x hx hn)
  have h4 := h3 x hx hn
  have := Zn.anti x (Zn.of C).lo
  exact decide_eq_false (show ¬ Kn.cmp x (Zn.of C).lo < 0 by omega)
 ·obtain ⟨_, _, h3⟩ := h.hi (hv x hx hn)
  have h4 := h3 x hx hn
  have := Zn.anti x (Zn.of C).hi
  exact decide_eq_false (show ¬ Kn.cmp (Zn.of C).hi x < 0 by omega)
 ·rw [Su.of_zero k C h0, Su.tot_zero C h0]
  exact ⟨rfl, rfl, by show wrap64 0 = 0; unfold wrap64; omega⟩
 ·have hw := (Su.vals_iff C).2 h0
  exact ⟨Su.in_mem (h.lo hw).1 (h.lo hw).2.1, Su.in_mem (h.hi hw).1 (h.hi hw).2.1⟩
theorem Su.cnt_snoc (C : List Kn.V) (x : Kn.V) : Su.cnt (C ++ [x]) = Su.cnt C + (if x.null = true then 0 else 1) := by rw [Su.cnt_app]; simp [Su.cnt]
set_option maxHeartbeats 1000000 in
set_option maxRecDepth 100000 in
theorem Su.lawBounds_w (u : Value) (Q : List (List Kn.V)) (c : Int) (w : World) (hu : Rn.Rws w u Q) (hz : ∀ r ∈ Q, ∀ x ∈ r, Kn.Z x) (hq : Q.length ≤ 1048576) :
 Calls Try.prog 11 #[u, .int .i64 c] w fun e w' => e = .returned (.bool true) ∧ Below w.heap.size w w' := by
 have CL := Lib.hid (Su.lives_c w)
 have ca := fun (w' : World) (g : Below w.heap.size w w') => Su.fold_c u Q c w' (hu.later g) hz (by omega)
 have hway : (Q.all (Su.hasC c) = true ∧ (Su.fold c Q).2 = 0 ∧ (Su.fold c Q).1.cnt = Q.length ∧ Su.Bd (Su.col c Q) (Su.fold c Q).1 ∧ Kn.Z (Su.fold c Q).1.lo ∧ Kn.Z (Su.fold c Q).1.hi) ∨ Su.fold c Q = (Su.zero, 7) := by
  cases ha : Q.all (Su.hasC c)
  ·exact .inr (Su.fold_none ha)
  ·rw [Su.fold_all ha]
   exact .inl ⟨rfl, rfl, rfl, Su.bd_of _ _, (Su.z_of (Su.z_col hz) _).1, (Su.z_of (Su.z_col hz) _).2⟩
 have HU := Lib.hid hu
 have HZ := Lib.hid hz
 have HQ := Lib.hid hq
 obtain ⟨aa, ac, rfl, -⟩ := hu
 clear hz hq
 generalize hfa : Su.fold c Q = fa at ca hway
 clear hfa
 obtain ⟨⟨xc, xq, xv, ⟨xln, xli, xls⟩, ⟨xhn, xhi, xhs⟩⟩, xe⟩ := fa
 have HW := Lib.hid hway
 simp only [Su.S.val, Su.cs] at ca
 have CA := Lib.hid ca
 clear hway ca
 go_enter Try.func11, Try.ntmps11
 go_wp2_with fail
 refine (CL.out).mono ?_
 rintro e w1 ⟨rfl, g1⟩
 have HG1 := Lib.hid g1
 clear g1
 go_wp2_with fail
 refine (CA.out _ HG1.out).mono ?_
 rintro e w2 ⟨rfl, g2⟩
 have HG2 := Lib.hid (HG1.out.trans (g2.mono HG1.out.size))
 clear g2 HG1
 go_upto_region 4 with (fail)
 obtain ⟨qx, hq⟩ : ∃ b, b = w2.heap.size := ⟨_, rfl⟩
 have HN := Lib.hid (Su.Blk.new w2 ⟨xc, xq, xv, ⟨xln, xli, xls⟩, ⟨xhn, xhi, xhs⟩⟩)
 have gn : Below w2.heap.size w2 (w2.alloc (.cells (Su.cs ⟨xc, xq, xv, ⟨xln, xli, xls⟩, ⟨xhn, xhi, xhs⟩⟩) 52)) := (Below.refl _ _).alloc (Nat.le_refl _) _
 have HG3 := Lib.hid (HG2.out.trans (gn.mono HG2.out.size))
 clear gn HG2
 simp only [Su.cs] at HG3 HN
 rw [← hq] at HN ⊢
 generalize World.alloc _ _ = w3 at HG3 HN ⊢
 clear hq
 have HX3 := HN
 clear HN
 rcases HW.out with ⟨hall, he, hcnt, hbd, hz1, hz2⟩ | e3
 case inr =>
  simp only [Prod.mk.injEq, Su.zero, Su.S.mk.injEq, Zn.zv, Kn.V.mk.injEq] at e3
  obtain ⟨⟨rfl, rfl, rfl, ⟨rfl, rfl, rfl⟩, rfl, rfl, rfl⟩, rfl⟩ := e3
  obtain ⟨x0, x1, x2, x3, x4, x5, x6, x7, x8⟩ := HX3.out.cells
  simp only at x0 x1 x2 x3 x4 x5 x6 x7 x8
  go_wp2
  go_ret
  exact ⟨rfl, HG3.out⟩
 (try simp only at he hcnt hz1 hz2)
 subst he hcnt
 have HBD := Lib.hid hbd
 have HAL := Lib.hid hall
 have HZL := Lib.hid hz1
 have HZH := Lib.hid hz2
 clear hall hbd hz1 hz2 HW
 go_wp2_with fail
 go_loopw [7, 8, 9, 10] (fun n lo hi i wr => ∃ k : Nat, k ≤ Q.length ∧ i = .int .i64 k ∧ n = .int .i64 (Su.cnt (Su.col c (Q.take k)) : Nat) ∧ lo = .bool (Su.in_ (Su.col c (Q.take k)) ⟨xln, xli, xls⟩) ∧ hi = .bool (Su.in_ (Su.col c (Q.take k)) ⟨xhn, xhi, xhs⟩) ∧ Below w3.heap.size w3 wr) (fun _ _ _ i _ => Q.length - (intOf i).toNat)
 case atStart => exact ⟨0, Nat.zero_le _, rfl, rfl, rfl, rfl, Below.refl _ _⟩
 case round =>
  obtain ⟨k, hk, rfl, rfl, rfl, rfl, hB⟩ := hrel
  have HB := Lib.hid hB
  clear hB
  by_cases hkl : k < Q.length
  ·obtain ⟨a1, c1, e1, hrw⟩ := HU.out
   simp only [Value.slice.injEq] at e1
   obtain ⟨rfl, -, rfl⟩ := e1
   rcases hrw with rfl | ⟨b, o, rfl, hlt, hc⟩
   ·simp at hkl
   have hx := List.getElem?_eq_getElem hkl
   generalize Q[k] = r at hx
   obtain ⟨u, c0, hu⟩ := hc k r hx
   have HGR := Lib.hid (HG3.out.trans (HB.out.mono HG3.out.size))
   have c0 := (HGR.out.cell (p := ⟨b, o + k, none⟩) hlt).trans c0
   have hh : Su.hasC c r = true := List.all_eq_true.1 HAL.out r (List.mem_of_getElem? hx)
   have hxin : Su.cell c r ∈ Su.col c Q := by unfold Su.col; exact List.mem_map_of_mem (List.mem_of_getElem? hx)
   have HST := Lib.hid (Su.col_snoc c Q k r hx)
   obtain ⟨x, hxc, hcell⟩ := Su.cell_at hh
   rw [hcell] at HST hxin
   obtain ⟨cn, rfl⟩ : ∃ cn : Nat, c = (cn : Int) := by
    unfold Su.hasC at hh
    simp only [Bool.and_eq_true, decide_eq_true_eq] at hh
    exact ⟨c.toNat, by omega⟩
   have dc0 : (0 : Int) ≤ (cn : Int) := by omega
   have dc : (cn : Int) < (r.length : Int) := by
    unfold Su.hasC at hh
    simp only [Bool.and_eq_true, decide_eq_true_eq] at hh
    exact hh.2
   rw [Int.toNat_natCast] at hxc
   have hzx := HZ.out r (List.mem_of_getElem? hx) x (List.mem_of_getElem? hxc)
   obtain ⟨ra1, rc1, rfl, hrr⟩ := hu.later HGR.out
   rcases hrr with rfl | ⟨rb, ro, rfl, rlt, rm, rcs⟩
   ·cases hxc
   obtain ⟨x0, x1, x2⟩ := rcs cn x hxc
   have hcl : Su.cnt (Su.col cn (Q.take k)) ≤ 1048576 := by
    have h1 := Su.cnt_le (Su.col cn (Q.take k))
    rw [Su.col_len, List.length_take] at h1
    have := HQ.out
    omega
   have hfl := fun hn => HBD.out.lo x hxin hn
   have hfh := fun hn => HBD.out.hi x hxin hn
   have cal := fun w => Kn.rAhead_c x ⟨xln, xli, xls⟩ hzx HZL.out w
   have cah := fun w => Kn.rAhead_c ⟨xhn, xhi, xhs⟩ x HZH.out hzx w
   have hs1 := Su.in_snoc (Su.col cn (Q.take k)) x ⟨xln, xli, xls⟩
   have hs2 := Su.in_snoc (Su.col cn (Q.take k)) x ⟨xhn, xhi, xhs⟩
   have hs3 := Su.cnt_snoc (Su.col cn (Q.take k)) x
   rw [← HST.out] at hs1 hs2 hs3
   generalize Su.in_ (Su.col cn (Q.take k)) ⟨xln, xli, xls⟩ = fl at hs1 ⊢
   generalize Su.in_ (Su.col cn (Q.take k)) ⟨xhn, xhi, xhs⟩ = fh at hs2 ⊢
   generalize Su.cnt (Su.col cn (Q.take k)) = m at hs3 hcl ⊢
   have HS1 := Lib.hid hs1
   have HS2 := Lib.hid hs2
   have HS3 := Lib.hid hs3
   have dk : (k : Int) < (Q.length : Int) := by omega
   have dk0 : (0 : Int) ≤ (k : Int) := by omega
   have dk7 : (k : Int) ≤ 1048576 := by have := HQ.out; omega
   have dm0 : (0 : Int) ≤ (m : Int) := by omega
   have dm7 : (m : Int) ≤ 1048576 := by omega
   have HK := Lib.hid hkl
   have HXR := Lib.hid (HX3.out.kept HB.out)
   clear hc hx hh hxin hcell hxc hzx rm rcs rlt hlt hkl hk hcl HST hs1 hs2 hs3 hu
   obtain ⟨xn, xi, xs⟩ := x
   simp only at x0 x1 x2 hfl hfh
   obtain ⟨vb, hvb⟩ : ∃ vb, vb = wr.heap.size := ⟨_, rfl⟩
   have gv : Below wr.heap.size wr (wr.alloc (.cells #[.bool xn, .int .i64 xi, .string xs] 36)) := (Below.refl _ _).alloc (Nat.le_refl _) _
   have HV := Lib.hid (Kn.At.new wr ⟨xn, xi, xs⟩ 36)
   have HX5 := Lib.hid (HXR.out.kept gv)
   have HB5 := Lib.hid (HB.out.trans (gv.mono HB.out.size))
   clear gv HXR
   go_upto_region 11 with (fail)
   simp only at HV
   rw [← hvb] at HV ⊢
   generalize World.alloc _ _ = w5 at HV HX5 HB5 ⊢
   clear hvb c0 x0 x1 x2
   obtain ⟨v0, v1, v2⟩ := HV.out
   obtain ⟨y0, y1, y2, y3, y4, y5, y6, y7, y8⟩ := HX5.out.cells
   simp only at v0 v1 v2 y0 y1 y2 y3 y4 y5 y6 y7 y8
   cases xn
   ·have HFL := Lib.hid (hfl rfl)
    have HFH := Lib.hid (hfh rfl)
    rw [HFL.out] at cal
    rw [HFH.out] at cah
    unfold Kn.V.val at cal cah
    have CAL := Lib.hid cal
    have CAH := Lib.hid cah
    simp only [Bool.not_false, Bool.true_and] at HS1 HS2
    have q1 := Su.eq_run ⟨false, xi, xs⟩ ⟨xln, xli, xls⟩
    have q2 := Su.eq_run ⟨false, xi, xs⟩ ⟨xhn, xhi, xhs⟩
    simp only at q1 q2
    generalize Kn.sameV ⟨false, xi, xs⟩ ⟨xln, xli, xls⟩ = f1 at q1 HS1
    generalize Kn.sameV ⟨false, xi, xs⟩ ⟨xhn, xhi, xhs⟩ = f2 at q2 HS2
    simp only [Bool.false_eq_true, if_false] at HS3
    clear hfl hfh cal cah
    cases fl <;> cases fh
    all_goals
     go_wp2_with fail
     refine (CAL.out _).mono ?_
     rintro e w6 ⟨rfl, g6⟩
     have HX6 := Lib.hid (HX5.out.kept g6)
     have HB6 := Lib.hid (HB5.out.trans (g6.mono HB5.out.size))
     obtain ⟨v0, v1, v2⟩ := HV.out.later g6
     obtain ⟨y0, y1, y2, y3, y4, y5, y6, y7, y8⟩ := HX6.out.cells
     simp only at v0 v1 v2 y0 y1 y2 y3 y4 y5 y6 y7 y8
     clear g6
     go_wp2_with fail
     refine (CAH.out _).mono ?_
     rintro e w7 ⟨rfl, g7⟩
     have HB7 := Lib.hid (HB6.out.trans (g7.mono HB6.out.size))
     clear g7
     go_wp2
     go_roundw
     case rel => exact ⟨k + 1, HK.out, by simp, by rw [HS3.out]; simp, by rw [HS1.out]; simp, by rw [HS2.out]; simp, HB7.out⟩
     case measure => (have := HK.out; simp [intOf]; omega)
   ·simp only [Bool.not_true, Bool.false_and, Bool.or_false] at HS1 HS2
    simp only [if_true, Nat.add_zero] at HS3
    clear hfl hfh cal cah
    go_wp2
    go_roundw
    case rel => exact ⟨k + 1, HK.out, by simp, by rw [HS3.out], by rw [HS1.out], by rw [HS2.out], HB5.out⟩
    case measure => (have := HK.out; simp [intOf]; omega)
  ·obtain rfl : k = Q.length := by omega
   have dk : ¬ (Q.length : Int) < (Q.length : Int) := by omega
   have HGR := Lib.hid (HG3.out.trans (HB.out.mono HG3.out.size))
   have HXR := Lib.hid (HX3.out.kept HB.out)
   rw [List.take_length]
   have hv := HBD.out.vals
   simp only at hv
   subst hv
   clear hkl hk
   rcases Nat.eq_zero_or_pos (Su.cnt (Su.col c Q)) with h0 | h0
   ·obtain ⟨e1, e2, e3⟩ := HBD.out.none_ h0
    simp only [Zn.zv, Kn.V.mk.injEq] at e1 e2 e3
    obtain ⟨rfl, rfl, rfl⟩ := e1
    obtain ⟨rfl, rfl, rfl⟩ := e2
    subst e3
    rw [h0]
    obtain ⟨y0, y1, y2, y3, y4, y5, y6, y7, y8⟩ := HXR.out.cells
    simp only [h0] at y0 y1 y2 y3 y4 y5 y6 y7 y8
    clear h0
    go_wp2
    go_ret
    exact ⟨rfl, HGR.out⟩
   ·obtain ⟨e1, e2⟩ := HBD.out.some_ h0
    simp only at e1 e2
    rw [e1, e2]
    obtain ⟨y0, y1, y2, y3, y4, y5, y6, y7, y8⟩ := HXR.out.cells
    simp only at y0 y1 y2 y3 y4 y5 y6 y7 y8
    clear e1 e2
    generalize Su.cnt (Su.col c Q) = m at y0 y1 y2 y3 y4 y5 y6 y7 y8 h0 HBD HX3 HXR ⊢
    have dm : decide ((0 : Int) < (m : Int)) = true := decide_eq_true (by omega)
    have dz : ((m : Int) == 0) = false := beq_eq_false_iff_ne.2 (by omega)
    have H0 := Lib.hid h0
    clear h0
    go_wp2
    all_goals first
     | (go_ret
        exact ⟨rfl, HGR.out⟩)
     | (exfalso; have := H0.out; omega)
     | (exfalso; have := H0.out; simp_all; done)
end Go.Proofs.Ytodeodndjkkkbaa
