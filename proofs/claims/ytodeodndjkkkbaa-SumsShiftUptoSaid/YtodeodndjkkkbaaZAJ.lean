import Derived.Test.YtodeodndjkkkbaaZAG
import Derived.Test.YtodeodndjkkkbaaZAD
import Derived.Test.YtodeodndjkkkbaaZAE
import Derived.Laws.BitsAllLaws
import Derived.Deep.RegionWith
import Derived.BigQuiet
import Derived.Test.YtodeodndjkkkbaaZAH
import Derived.Test.YtodeodndjkkkbaaZAI
import Derived.Test.YtodeodndjkkkbaaZAB
import Derived.Deep.DeepCutAuto
import Derived.Lib.QuietBelow
import Derived.StillTailTactics
import Derived.Test.YtodeodndjkkkbaaZAA
namespace Go.Proofs.Ytodeodndjkkkbaa
section
open Go.RowKit
def Fr.at4 (s : ByteArray) : Nat := Fr.val (s.data.toList.take 4)
end
section
open Go.RowKit
def Rn.pre (s : List Kn.C) (L : List Dd.D) (k : Nat) : List UInt8 := ((List.range k).map (Rn.bk L)).flatMap fun b => Fr.frm (Bk.enc s b)
def Rn.ipre (s : List Kn.C) (L : List Dd.D) (k : Nat) : List UInt8 := Ty.encU (Rn.nb L.length) ++ ((List.range k).map (Rn.bk L)).flatMap fun b => Ty.encU (Fr.frm (Bk.enc s b)).length
end
section
open Go.RowKit
end
section
open Go.RowKit
theorem Zn.grow {w w' : World} (h : Below w.heap.size w w') {w'' : World} (g : Below w'.heap.size w' w'') : Below w.heap.size w w'' := h.trans (g.mono h.size)
end
section
open Go.RowKit
end
section
open Go.RowKit
end
section
open Go.RowKit
end
section
open Go.RowKit
end
section
open Go.RowKit
end
section
open Go.RowKit
end
section
open Go.RowKit
structure Rn.Rws (w : World) (v : Value) (Q : List (List Kn.V)) : Prop where
 is : ∃ a c, v = .slice a Q.length c ∧ (Q = [] ∨ ∃ b o, a = some ⟨b, o, none⟩ ∧ b < w.heap.size ∧ ∀ i x, Q[i]? = some x → ∃ u, w.cell? ⟨b, o + i, none⟩ = some u ∧ Kn.Vals w u x)
theorem Rn.Rws.later {w w' : World} {v : Value} {Q : List (List Kn.V)} (h : Rn.Rws w v Q) (g : Below w.heap.size w w') : Rn.Rws w' v Q := by
 obtain ⟨a, c, hv, h⟩ := h
 refine ⟨a, c, hv, ?_⟩
 rcases h with h | ⟨b, o, ha, hb, h⟩
 ·exact .inl h
 ·refine .inr ⟨b, o, ha, Nat.lt_of_lt_of_le hb g.size, fun i x hx => ?_⟩
  obtain ⟨u, c0, hu⟩ := h i x hx
  exact ⟨u, (g.cell (p := ⟨b, o + i, none⟩) hb).trans c0, hu.later g⟩
def Rn.fr (R : Nat → Option Addr × Nat × Nat) (k : Nat) (_ : Dd.D) : Option Addr × Nat × Nat := R k
set_option maxHeartbeats 4000000 in
set_option maxRecDepth 100000 in
theorem Rn.rsamerows_c (u v : Value) (Q : List (List Kn.V)) (w : World) (hu : Rn.Rws w u Q) (hv : Rn.Rws w v Q) (hl : Q.length ≤ 1048576) :
 Calls Try.prog 32 #[u, v] w fun e w' => e = .returned (.bool true) ∧ Below w.heap.size w w' := by
 obtain ⟨a, c, rfl, h⟩ := hu
 obtain ⟨a2, c2, rfl, h2⟩ := hv
 have HH := Lib.hid h
 have HH2 := Lib.hid h2
 have HL := Lib.hid hl
 clear h h2 hl
 go_enter Try.func32, Try.ntmps32
 go_wp2_with fail
 go_loopw [5] (fun i wr => ∃ k : Nat, k ≤ Q.length ∧ i = .int .i64 k ∧ Below w.heap.size w wr) (fun i _ => Q.length - (intOf i).toNat)
 case atStart => exact ⟨0, Nat.zero_le _, rfl, Below.refl _ _⟩
 case round =>
  obtain ⟨k, hk, rfl, hB⟩ := hrel
  have HB := Lib.hid hB
  by_cases hkl : k < Q.length
  ·rcases HH.out with rfl | ⟨b, o, rfl, hlt, hc⟩
   ·simp at hkl
   rcases HH2.out with rfl | ⟨b2, o2, rfl, hlt2, hc2⟩
   ·simp at hkl
   have hx := List.getElem?_eq_getElem hkl
   generalize Q[k] = x at hx
   obtain ⟨u1, c0, hu1⟩ := hc k x hx
   obtain ⟨u2, d0, hu2⟩ := hc2 k x hx
   have c0 := (hB.cell (p := ⟨b, o + k, none⟩) hlt).trans c0
   have d0 := (hB.cell (p := ⟨b2, o2 + k, none⟩) hlt2).trans d0
   have HU1 := Lib.hid (hu1.later hB)
   have HU2 := Lib.hid (hu2.later hB)
   have CA : Hid (∀ p : Regrown, _) := Lib.hid fun p : Regrown => Calls.regrown_of (d := p.d) (os := p.os) (w := wr) ((Kn.rsame_c u1 u2 x x _ (HU1.out.later (below_regrown wr p.d p.os)) (HU2.out.later (below_regrown wr p.d p.os))).mono fun e w' ⟨he, n, hn⟩ => (⟨he, by rw [hn]; exact Bt.drewN_below _ n⟩ : e = _ ∧ Below _ _ w'))
   rw [Kn.sameR_self] at CA
   obtain ⟨e1, f1, rfl, -⟩ := hu1
   obtain ⟨e2, f2, rfl, -⟩ := hu2
   have C0 := fun d os => cell_regrown c0 d os
   have D0 := fun d os => cell_regrown d0 d os
   have dk : (k : Int) < (Q.length : Int) := by omega
   have dk0 : (0 : Int) ≤ (k : Int) := by omega
   have dk7 : (k : Int) ≤ 1048576 := by have := HL.out; omega
   have HK := Lib.hid hkl
   clear hc hc2 hx c0 d0 hkl hk hB hlt hlt2
   go_upto_region 6 with (fail)
   refine wp_region_quiet_below (by kernel_rfl) (by kernel_rfl) ?_
   repeat (go_big_quiet_step (first | with_reducible exact CA.out _))
   refine wpQuiet_nil ?_
   intro w5 hw'
   have HB5 := Lib.hid (HB.out.trans ((Bk.below_reg hw').mono HB.out.size))
   clear hw'
   go_wp2
   go_roundw
   case rel => exact ⟨k + 1, HK.out, by simp, HB5.out⟩
   case measure => (have := HK.out; simp [intOf]; omega)
  ·obtain rfl : k = Q.length := by omega
   have dk : ¬ (Q.length : Int) < (Q.length : Int) := by omega
   clear hk hkl hB
   go_wp2
   go_ret
   exact ⟨rfl, HB.out⟩
end
section
open Go.RowKit
structure Su.SF (w : World) (s : Su.S) (W : World) : Prop where
 res : Su.Blk W w.heap.size Su.zero
 blk : Su.Blk W (w.heap.size + 1) s
 bel : Below w.heap.size w W
theorem Su.SF.start (w : World) (s : Su.S) : Su.SF w s ((w.alloc (.cells (Su.cs Su.zero) 52)).alloc (.cells (Su.cs s) 52)) := by
 refine ⟨(Su.Blk.new w _).alloc _, ?_, ((Below.refl _ w).alloc (Nat.le_refl _) _).alloc (by simp) _⟩
 have := Su.Blk.new (w.alloc (.cells (Su.cs Su.zero) 52)) s
 rwa [World.size_alloc] at this
theorem Su.SF.kept {w W W' : World} {s : Su.S} (h : Su.SF w s W) (g : Below W.heap.size W W') : Su.SF w s W' := ⟨h.res.kept g, h.blk.kept g, h.bel.trans (g.mono h.bel.size)⟩
theorem Su.put_other {W : World} {q g : Nat} {s y : Su.S} (h : Su.Blk W q y) (hne : q ≠ g) : Su.Blk (Su.put W g s) q y :=
 ((((((((h.other hne _ _).other hne _ _).other hne _ _).other hne _ _).other hne _ _).other hne _ _).other hne _ _).other hne _ _).other hne _ _
theorem Su.SF.put {w W : World} {s : Su.S} (h : Su.SF w s W) (y : Su.S) : Su.SF w y (Su.put W (w.heap.size + 1) y) :=
 ⟨Su.put_other h.res (by omega), h.blk.put y, Su.put_below h.bel (by omega) y⟩
theorem Su.z_of {C : List Kn.V} (h : ∀ x ∈ C, Kn.Z x) (k : Nat) : Kn.Z (Su.of k C).lo ∧ Kn.Z (Su.of k C).hi := by
 have hi := Zn.of_inv C
 unfold Su.of
 cases hv : (Zn.of C).values
 ·obtain ⟨e1, e2⟩ := hi.zero hv
  simp only [e1, e2]
  unfold Kn.Z Zn.zv
  decide
 ·exact ⟨h _ (hi.lo hv).1, h _ (hi.hi hv).1⟩
theorem Su.z_col {c : Int} {Q : List (List Kn.V)} (h : ∀ r ∈ Q, ∀ x ∈ r, Kn.Z x) : ∀ x ∈ Su.col c Q, Kn.Z x := fun x hx => by
 unfold Su.col at hx
 obtain ⟨r, hr, rfl⟩ := List.mem_map.1 hx
 unfold Su.cell
 rw [List.getD_eq_getElem?_getD]
 cases hg : r[c.toNat]? with
 | none => show Kn.Z Zn.zv; unfold Kn.Z Zn.zv; decide
 | some y => exact h r hr y (List.mem_of_getElem? hg)
theorem Su.fold_step {c : Int} {Q : List (List Kn.V)} {k : Nat} {r : List Kn.V} (hr : Q[k]? = some r) (ha : (Q.take k).all (Su.hasC c) = true) (h : Su.hasC c r = true) : (Q.take (k + 1)).all (Su.hasC c) = true := by
 obtain ⟨hk, rfl⟩ := List.getElem?_eq_some_iff.1 hr
 rw [List.take_succ_eq_append_getElem hk, List.all_append, ha]
 simp [h]
theorem Su.fold_no {c : Int} {Q : List (List Kn.V)} {k : Nat} {r : List Kn.V} (hr : Q[k]? = some r) (h : Su.hasC c r = false) : Su.fold c Q = (Su.zero, 7) := by
 unfold Su.fold
 rw [if_neg]
 intro hall
 have := List.all_eq_true.1 hall r (List.mem_of_getElem? hr)
 rw [h] at this
 cases this
theorem Su.fold_yes {c : Int} {Q : List (List Kn.V)} (ha : (Q.take Q.length).all (Su.hasC c) = true) : Su.fold c Q = (Su.of Q.length (Su.col c (Q.take Q.length)), 0) := by
 rw [List.take_length] at ha ⊢
 unfold Su.fold
 rw [if_pos ha]
set_option maxHeartbeats 4000000 in
set_option maxRecDepth 100000 in
theorem Su.fold_c (v : Value) (Q : List (List Kn.V)) (c : Int) (w : World) (hv : Rn.Rws w v Q) (hz : ∀ r ∈ Q, ∀ x ∈ r, Kn.Z x) (hl : Q.length ≤ 4194304) :
 Calls Try.prog 33 #[v, .int .i64 c] w fun e w' => e = .returned (.tuple #[(Su.fold c Q).1.val, .int .i64 (Su.fold c Q).2]) ∧ Below w.heap.size w w' := by
 have HRW := Lib.hid hv
 have HZ := Lib.hid hz
 have HL := Lib.hid hl
 obtain ⟨a, cp, rfl, -⟩ := hv
 have HST := Lib.hid (Su.SF.start w (Su.of Q.length (Su.col c (Q.take 0))))
 clear hz hl
 rw [show Su.of Q.length (Su.col c (Q.take 0)) = ⟨Q.length, 0, 0, ⟨false, 0, ⟨#[]⟩⟩, ⟨false, 0, ⟨#[]⟩⟩⟩ by
  rw [show Su.col c (Q.take 0) = [] from rfl]; unfold Su.of; simp only [Su.cnt, Su.tot, Zn.of, Zn.z0, Zn.zv, List.foldl_nil]; rw [show wrap64 0 = 0 by unfold wrap64; omega]; rfl] at HST
 simp only [Su.cs, Su.zero, Zn.zv] at HST
 go_enter Try.func33, Try.ntmps33
 go_upto_region 2 with (fail)
 generalize hwe : World.alloc _ _ = we at HST ⊢
 clear hwe
 have HS0 : Hid (Su.SF w (Su.of Q.length (Su.col c (Q.take 0))) we) := Lib.hid (by rw [show Su.col c (Q.take 0) = [] from rfl]; unfold Su.of; simp only [Su.cnt, Su.tot, Zn.of, Zn.z0, Zn.zv, List.foldl_nil]; rw [show wrap64 0 = 0 by unfold wrap64; omega]; exact HST.out)
 clear HST
 go_wp2
 go_loopw [14] (fun i wr => ∃ k : Nat, k ≤ Q.length ∧ i = .int .i64 k ∧ (Q.take k).all (Su.hasC c) = true ∧ Su.SF w (Su.of Q.length (Su.col c (Q.take k))) wr) (fun i _ => Q.length - (intOf i).toNat)
 case atStart => exact ⟨0, Nat.zero_le _, rfl, rfl, HS0.out⟩
 case round =>
  clear HS0
  obtain ⟨k, hk, rfl, ha, hS⟩ := hrel
  have HA := Lib.hid ha
  have HS := Lib.hid hS
  clear ha hS
  by_cases hkl : k < Q.length
  ·obtain ⟨a1, c1, e1, hrw⟩ := HRW.out
   simp only [Value.slice.injEq] at e1
   obtain ⟨rfl, -, rfl⟩ := e1
   rcases hrw with rfl | ⟨b, o, rfl, hlt, hc⟩
   ·simp at hkl
   have hx := List.getElem?_eq_getElem hkl
   generalize Q[k] = r at hx
   have HX := Lib.hid hx
   obtain ⟨u, c0, hu⟩ := hc k r hx
   have c0 := (HS.out.bel.cell (p := ⟨b, o + k, none⟩) hlt).trans c0
   have HU := Lib.hid (hu.later HS.out.bel)
   clear hc hx hu
   have HHas : Hid (∀ w', Kn.Vals w' u r → _) := Lib.hid fun w' h => Su.has_c u r c w' h
   have dk : (k : Int) < (Q.length : Int) := by omega
   have dk0 : (0 : Int) ≤ (k : Int) := by omega
   have dk7 : (k : Int) ≤ 4194304 := by have := HL.out; omega
   have HK := Lib.hid hkl
   clear hkl hk
   obtain ⟨ra, rc, rfl, -⟩ := HU.out
   cases hh : Su.hasC c r
   ·have HH := Lib.hid hh
    rw [hh] at HHas
    clear hh
    obtain ⟨r0, r1, r2, r3, r4, r5, r6, r7, r8⟩ := HS.out.res.cells
    obtain ⟨f0, f1, f2, f3, f4, f5, f6, f7, f8⟩ := HS.out.res.frozens
    have HPB := Lib.hid (Su.put_below (q := w.heap.size) HS.out.bel (Nat.le_refl _) Su.zero)
    go_wp2_with fail
    refine (HHas.out _ HU.out).mono ?_
    rintro e w1 ⟨rfl, rfl⟩
    go_wp2
    (try simp only [Exit.inBlock, Exit.then])
    refine bodyPost_ret (v := .tuple #[.agg #[.int .i64 0, .int .i64 0, .int .i64 0, .bool false, .int .i64 0, .string ⟨#[]⟩, .bool false, .int .i64 0, .string ⟨#[]⟩], .int .i64 7]) ?_ rfl ⟨by rw [Su.fold_no HX.out HH.out]; rfl, HPB.out⟩
    rw [results_cell_tmp rfl]
    go_simp
   ·have HH := Lib.hid hh
    rw [hh] at HHas
    obtain ⟨x, hxc, hcell⟩ := Su.cell_at hh
    obtain ⟨cn, rfl⟩ : ∃ cn : Nat, c = (cn : Int) := by
     unfold Su.hasC at hh
     simp only [Bool.and_eq_true, decide_eq_true_eq] at hh
     exact ⟨c.toNat, by omega⟩
    have dc0 : (0 : Int) ≤ (cn : Int) := by omega
    have dc : (cn : Int) < (r.length : Int) := by
     unfold Su.hasC at hh
     simp only [Bool.and_eq_true, decide_eq_true_eq] at hh
     exact hh.2
    rw [Int.toNat_natCast] at hxc
    clear hh
    obtain ⟨ra1, rc1, e1, hrr⟩ := HU.out
    simp only [Value.slice.injEq] at e1
    obtain ⟨rfl, -, rfl⟩ := e1
    rcases hrr with rfl | ⟨rb, ro, rfl, rlt, rm, rcs⟩
    ·cases hxc
    have hat := rcs cn x hxc
    clear rcs
    obtain ⟨x0, x1, x2⟩ := hat
    have HCOL : Hid (Su.col cn (Q.take (k + 1)) = Su.col cn (Q.take k) ++ [x]) := Lib.hid (by rw [Su.col_snoc _ _ _ _ HX.out, hcell])
    have HA1 := Lib.hid (Su.fold_step HX.out HA.out HH.out)
    clear hxc hcell rm
    go_wp2_with fail
    refine (HHas.out _ HU.out).mono ?_
    rintro e w1 ⟨rfl, rfl⟩
    go_upto_region 7 with (fail)
    obtain ⟨xn, xi, xs⟩ := x
    simp only at x0 x1 x2
    cases xn
    ·have hlen : (Su.col cn (Q.take k)).length ≤ 4611686018427387904 := by unfold Su.col; rw [List.length_map, List.length_take]; have := HL.out; omega
     have CA : Hid (∀ w, _) := Lib.hid fun w => Su.add_c (Su.of Q.length (Su.col cn (Q.take k))) ⟨false, xi, xs⟩ w
     rw [Su.add_of _ _ _ rfl hlen, ← HCOL.out] at CA
     have HS1 := HS
     have HRLT := Lib.hid rlt
     clear hlen HCOL rlt
     generalize hs' : Su.of Q.length (Su.col cn (Q.take (k + 1))) = s' at CA
     have HE' := Lib.hid hs'
     clear hs'
     generalize Su.of Q.length (Su.col cn (Q.take k)) = s at HS HS1 CA
     obtain ⟨sc, ss, sv, ⟨ln, li, ls⟩, ⟨hn, hi, hs⟩⟩ := s
     obtain ⟨tc, ts, tv, ⟨mn, mi, ms⟩, ⟨jn, ji, js⟩⟩ := s'
     obtain ⟨y0, y1, y2, y3, y4, y5, y6, y7, y8⟩ := HS.out.blk.cells
     simp only [Su.S.val, Su.cs, Kn.V.val] at y0 y1 y2 y3 y4 y5 y6 y7 y8 CA
     go_upto_region 8 with (fail)
     refine wp_region_still_tail 5 (by kernel_rfl) (by kernel_rfl) ?_
     simp only [List.take_succ_cons, List.take_zero, List.drop_succ_cons, List.drop_zero]
     change wpStill _ _ (World.drew _) (fun a' => wpList _ _ _ _ a' (World.drew _)) _ _
     still_step
     still_step
     still_step
     still_step
     still_step
     refine wpStill_nil ?_
     go_wp2_with fail
     with_reducible refine (CA.out _).mono ?_
     rintro e w2 ⟨rfl, g2⟩
     have HS2 := Lib.hid ((HS1.out.kept (Kn.drewN_below _ 1)).kept g2)
     clear y0 y1 y2 y3 y4 y5 y6 y7 y8 x0 x1 x2 c0 g2
     obtain ⟨y0, y1, y2, y3, y4, y5, y6, y7, y8⟩ := HS2.out.blk.cells
     obtain ⟨f0, f1, f2, f3, f4, f5, f6, f7, f8⟩ := HS2.out.blk.frozens
     have HS3 : Hid (Su.SF w ⟨tc, ts, tv, ⟨mn, mi, ms⟩, ⟨jn, ji, js⟩⟩ _) := Lib.hid (HS2.out.put ⟨tc, ts, tv, ⟨mn, mi, ms⟩, ⟨jn, ji, js⟩⟩)
     simp only [Su.put] at HS3
     go_upto_region 9 with (fail)
     clear y0 y1 y2 y3 y4 y5 y6 y7 y8 f0 f1 f2 f3 f4 f5 f6 f7 f8
     generalize hwf : World.setCell _ _ _ = wf at HS3 ⊢
     clear hwf
     go_wp2
     go_roundw
     case rel => exact ⟨k + 1, HK.out, by simp, HA1.out, by rw [HE'.out]; exact HS3.out⟩
     case measure => (have := HK.out; simp [intOf]; omega)
    ·have HN := Lib.hid (Su.of_null Q.length (Su.col cn (Q.take k)) ⟨true, xi, xs⟩ rfl)
     rw [← HCOL.out] at HN
     go_upto_region 9 with (fail)
     clear x0 x1 x2 c0
     go_wp2
     go_roundw
     case rel => exact ⟨k + 1, HK.out, by simp, HA1.out, by rw [HN.out]; exact HS.out⟩
     case measure => (have := HK.out; simp [intOf]; omega)
  ·obtain rfl : k = Q.length := by omega
   have dk : ¬ (Q.length : Int) < (Q.length : Int) := by omega
   have HF := Lib.hid (Su.fold_yes HA.out)
   have hz1 := Su.z_of (Su.z_col (c := c) HZ.out) Q.length
   have hz2 : Kn.Z (Su.of Q.length (Su.col c (Q.take Q.length))).lo ∧ Kn.Z (Su.of Q.length (Su.col c (Q.take Q.length))).hi := by rw [List.take_length]; exact hz1
   have CO : Hid (∀ w, _) := Lib.hid fun w => Su.own_c _ hz2.1 hz2.2 w
   clear hkl hk hz1 hz2
   generalize Su.of Q.length (Su.col c (Q.take Q.length)) = s at HS HF CO
   obtain ⟨sc, ss, sv, ⟨ln, li, ls⟩, ⟨hn, hi, hs⟩⟩ := s
   obtain ⟨y0, y1, y2, y3, y4, y5, y6, y7, y8⟩ := HS.out.blk.cells
   simp only [Su.S.val, Su.cs] at y0 y1 y2 y3 y4 y5 y6 y7 y8 CO
   go_wp2_with fail
   with_reducible refine (CO.out _).mono ?_
   rintro e w2 ⟨rfl, g2⟩
   have HS2 := Lib.hid (HS.out.kept g2)
   clear y0 y1 y2 y3 y4 y5 y6 y7 y8 g2
   obtain ⟨y0, y1, y2, y3, y4, y5, y6, y7, y8⟩ := HS2.out.res.cells
   obtain ⟨f0, f1, f2, f3, f4, f5, f6, f7, f8⟩ := HS2.out.res.frozens
   have HPB := Lib.hid (Su.put_below (q := w.heap.size) HS2.out.bel (Nat.le_refl _) ⟨sc, ss, sv, ⟨ln, li, ls⟩, ⟨hn, hi, hs⟩⟩)
   go_wp2
   (try simp only [Exit.inBlock, Exit.then])
   refine bodyPost_ret (v := .tuple #[.agg #[.int .i64 sc, .int .i64 ss, .int .i64 sv, .bool ln, .int .i64 li, .string ls, .bool hn, .int .i64 hi, .string hs], .int .i64 0]) ?_ rfl ⟨by rw [HF.out], HPB.out⟩
   rw [results_cell_tmp rfl]
   go_simp
end
section
open Go
structure Mf.P where
 id : Int
 lv : Int
 lo : Kn.V
 hi : Kn.V
structure Mf.E where
 drop : List Int
 add : List Mf.P
 floor : Int
 next : Int
structure Mf.S where
 parts : List Mf.P
 floor : Int
 next : Int
def Mf.nm (n : Int) : Bool := decide (0 ≤ n) && decide (n ≤ 999999999)
def Mf.key (v : Kn.V) : Bool := !v.null && decide (v.s.size ≤ 64)
def Mf.part (p : Mf.P) : Bool := Mf.nm p.id && (decide (0 ≤ p.lv) && decide (p.lv ≤ 3)) && Mf.key p.lo && Mf.key p.hi && decide (Kn.cmp p.lo p.hi ≤ 0)
def Mf.right (e : Mf.E) : Bool := decide (e.drop.length ≤ 1000) && decide (e.add.length ≤ 1000) && e.drop.all Mf.nm && e.add.all Mf.part && Mf.nm e.floor && Mf.nm e.next
theorem Mf.right_iff (e : Mf.E) : Mf.right e = true ↔ e.drop.length ≤ 1000 ∧ e.add.length ≤ 1000 ∧ (∀ d ∈ e.drop, Mf.nm d = true) ∧ (∀ p ∈ e.add, Mf.part p = true) ∧ Mf.nm e.floor = true ∧ Mf.nm e.next = true := by
 unfold Mf.right
 simp only [Bool.and_eq_true, decide_eq_true_iff, List.all_eq_true, and_assoc]
def Mf.has (L : List Mf.P) (d : Int) : Bool := L.any fun p => p.id == d
def Mf.wo (L : List Mf.P) (d : Int) : List Mf.P := L.filter fun p => !(p.id == d)
def Mf.dr : List Mf.P → List Int → Option (List Mf.P)
 | L, [] => some L
 | L, d :: ds => if Mf.has L d = true then Mf.dr (Mf.wo L d) ds else none
def Mf.ad (n : Int) : List Mf.P → List Mf.P → Option (List Mf.P)
 | L, [] => some L
 | L, p :: ps => if n ≤ p.id ∨ Mf.has L p.id = true then none else Mf.ad n (L ++ [p]) ps
def Mf.ap (s : Mf.S) (e : Mf.E) : Option Mf.S :=
 if Mf.right e = true ∧ s.floor ≤ e.floor ∧ s.next ≤ e.next then
  match Mf.dr s.parts e.drop with
  | none => none
  | some L => match Mf.ad e.next L e.add with
    | none => none
    | some M => some ⟨M, e.floor, e.next⟩
 else none
def Mf.at_ : List Mf.P → Int → Option Nat
 | [], _ => none
 | p :: L, d => if (p.id == d) = true then some 0 else (Mf.at_ L d).map (· + 1)
theorem Mf.has_not {L : List Mf.P} {d : Int} : Mf.has L d = false ↔ ∀ p ∈ L, p.id ≠ d := by
 unfold Mf.has
 rw [List.any_eq_false]
 simp
theorem Mf.ap_some {s t : Mf.S} {e : Mf.E} (h : Mf.ap s e = some t) : Mf.right e = true ∧ s.floor ≤ e.floor ∧ s.next ≤ e.next ∧ t.floor = e.floor ∧ t.next = e.next ∧ ∃ L, Mf.dr s.parts e.drop = some L ∧ Mf.ad e.next L e.add = some t.parts := by
 unfold Mf.ap at h
 split at h
 ·rename_i h0
  obtain ⟨h1, h2, h3⟩ := h0
  cases hd : Mf.dr s.parts e.drop with
  | none => rw [hd] at h; cases h
  | some L =>
    rw [hd] at h
    simp only at h
    cases ha : Mf.ad e.next L e.add with
    | none => rw [ha] at h; cases h
    | some M =>
      rw [ha] at h
      simp only [Option.some.injEq] at h
      subst h
      exact ⟨h1, h2, h3, rfl, rfl, L, rfl, ha⟩
 ·cases h
structure Mf.Ok (s : Mf.S) : Prop where
 uniq : (s.parts.map (·.id)).Nodup
 below : ∀ p ∈ s.parts, p.id < s.next
 part : ∀ p ∈ s.parts, Mf.part p = true
theorem Mf.Ok.none : Mf.Ok ⟨[], 0, 0⟩ := ⟨List.nodup_nil, (fun _ h => nomatch h), (fun _ h => nomatch h)⟩
theorem Mf.dr_sub : ∀ {ds : List Int} {L M : List Mf.P}, Mf.dr L ds = some M → M.Sublist L
 | [], L, M, h => by obtain rfl : L = M := by simpa [Mf.dr] using h
                     exact List.Sublist.refl _
 | d :: ds, L, M, h => by
   unfold Mf.dr at h
   split at h
   ·exact (Mf.dr_sub h).trans List.filter_sublist
   ·cases h
theorem Mf.ad_ok : ∀ {n : Int} {ps L M : List Mf.P}, Mf.ad n L ps = some M → (L.map (·.id)).Nodup → (∀ p ∈ L, p.id < n) → (∀ p ∈ L, Mf.part p = true) → (∀ p ∈ ps, Mf.part p = true) →
 (M.map (·.id)).Nodup ∧ (∀ p ∈ M, p.id < n) ∧ (∀ p ∈ M, Mf.part p = true)
 | n, [], L, M, h, h1, h2, h3, _ => by
   obtain rfl : L = M := by simpa [Mf.ad] using h
   exact ⟨h1, h2, h3⟩
 | n, p :: ps, L, M, h, h1, h2, h3, h4 => by
   unfold Mf.ad at h
   split at h
   ·cases h
   ·rename_i hn
    have hn1 : p.id < n := by
     by_cases h : p.id < n
     ·exact h
     ·exact absurd (Or.inl (by omega)) hn
    have hn2 : Mf.has L p.id = false := by
     cases hh : Mf.has L p.id with
     | false => rfl
     | true => exact absurd (Or.inr hh) hn
    refine Mf.ad_ok h ?_ ?_ ?_ fun q hq => h4 q (by simp [hq])
    ·rw [List.map_append, List.nodup_append]
     refine ⟨h1, by simp, fun a ha b hb => ?_⟩
     obtain ⟨q, hq, rfl⟩ := List.mem_map.1 ha
     have hb : b = p.id := by simpa using hb
     rw [hb]
     exact Mf.has_not.1 hn2 q hq
    ·intro q hq
     rcases List.mem_append.1 hq with hq | hq
     ·exact h2 q hq
     ·obtain rfl : q = p := by simpa using hq
      exact hn1
    ·intro q hq
     rcases List.mem_append.1 hq with hq | hq
     ·exact h3 q hq
     ·obtain rfl : q = p := by simpa using hq
      exact h4 q (by simp)
theorem Mf.Ok.step {s t : Mf.S} {e : Mf.E} (hs : Mf.Ok s) (h : Mf.ap s e = some t) : Mf.Ok t := by
 obtain ⟨hr, _, hn, _, ht, L, h1, h2⟩ := Mf.ap_some h
 have hsub := Mf.dr_sub h1
 have hr := (Mf.right_iff e).1 hr
 obtain ⟨a, b, c⟩ := Mf.ad_ok h2 (List.Nodup.sublist (hsub.map _) hs.uniq) (fun p hp => by have := hs.below p (hsub.subset hp); omega) (fun p hp => hs.part p (hsub.subset hp)) hr.2.2.2.1
 exact ⟨a, by rw [ht]; exact b, c⟩
def Mf.snap (s : Mf.S) : Mf.E := ⟨[], s.parts, s.floor, s.next⟩
end
section
open Go.RowKit
def Mf.pc (p : Mf.P) : List Value := [.int .i64 p.id, .int .i64 p.lv, .bool p.lo.null, .int .i64 p.lo.n, .string p.lo.s, .bool p.hi.null, .int .i64 p.hi.n, .string p.hi.s]
abbrev Mf.cs (p : Mf.P) : Array Value := #[.int .i64 p.id, .int .i64 p.lv, .bool p.lo.null, .int .i64 p.lo.n, .string p.lo.s, .bool p.hi.null, .int .i64 p.hi.n, .string p.hi.s]
abbrev Mf.P.val (p : Mf.P) : Value := .agg (Mf.cs p)
def Mf.ic (x : Int) : List Value := [.int .i64 x]
theorem Mf.ic_len (x : Int) : (Mf.ic x).length = 1 := rfl
def Mf.At {α : Type} (k : Nat) (enc : α → List Value) (w : World) (v : Value) (L : List α) : Prop :=
 ∃ a c, v = .slice a L.length c ∧ L.length ≤ c ∧ ((L = [] ∧ (a = none → c = 0)) ∨ ∃ (b o : Nat) (cs : Array Value) (fr : TypeId × (Nat × Nat)), a = some ⟨b, o, none⟩ ∧ True ∧ w.heap[b]? = some (.cells cs fr.1 fr.2) ∧ ∀ i j x, L[i]? = some x → j < k → w.cell? ⟨b, o + i * k + j, none⟩ = (enc x)[j]?)
theorem Mf.At.of {α : Type} {P : Nat → Prop} {e : TypeId} {k : Nat} {enc : α → List Value} {w : World} {v : Value} {L : List α} (h : Dk.At P e k enc w v L) : Mf.At k enc w v L := by
 obtain ⟨a, c, hv, hc, h⟩ := h
 refine ⟨a, c, hv, hc, ?_⟩
 rcases h with h | ⟨b, o, cs, fr, ha, hP, hb, h⟩
 ·exact .inl h
 ·exact .inr ⟨b, o, cs, (e, fr), ha, trivial, hb, h⟩
theorem Mf.At.nil {α : Type} {k : Nat} {enc : α → List Value} (w : World) : Mf.At k enc w (.slice none 0 0) ([] : List α) := ⟨none, 0, rfl, Nat.le_refl _, .inl ⟨rfl, fun _ => rfl⟩⟩
theorem Mf.At.lt {α : Type} {k : Nat} {enc : α → List Value} {w : World} {v : Value} {L : List α} (h : Mf.At k enc w v L) (hL : L ≠ []) {b : Nat} (hb : v.ownBlock = some b) : b < w.heap.size := by
 obtain ⟨a, c, rfl, _, h⟩ := h
 rcases h with ⟨h, _⟩ | ⟨q, o, cs, fr, rfl, _, hq, _⟩
 ·exact absurd h hL
 ·obtain rfl : q = b := by simpa [Value.ownBlock] using hb
  exact lt_of_block hq
theorem Mf.At.stay {α : Type} {k : Nat} {enc : α → List Value} {w w' : World} {v : Value} {L : List α} (h : Mf.At k enc w v L) (g : L ≠ [] → ∀ b, v.ownBlock = some b → b < w.heap.size → w'.heap[b]? = w.heap[b]?) : Mf.At k enc w' v L := by
 by_cases hL : L = []
 ·obtain ⟨a, c, hv, hc, h⟩ := h
  refine ⟨a, c, hv, hc, ?_⟩
  rcases h with h | ⟨b, o, cs, fr, ha, _, hb, h⟩
  ·exact .inl h
  ·exact .inl ⟨hL, fun e => by rw [ha] at e; cases e⟩
 ·obtain ⟨a, c, hv, hc, h⟩ := h
  refine ⟨a, c, hv, hc, ?_⟩
  rcases h with h | ⟨b, o, cs, fr, ha, _, hb, h⟩
  ·exact .inl h
  ·have hs := g hL b (by rw [hv, ha]; rfl) (lt_of_block hb)
   exact .inr ⟨b, o, cs, fr, ha, trivial, hs.trans hb, fun i j x hi hj => (World.cell?_of_block (a := ⟨b, o + i * k + j, none⟩) hs).trans (h i j x hi hj)⟩
theorem Mf.At.kept {α : Type} {k : Nat} {enc : α → List Value} {w w' : World} {v : Value} {L : List α} (h : Mf.At k enc w v L) (g : Below w.heap.size w w') : Mf.At k enc w' v L := h.stay fun _ b _ hb => g.block b hb
def Mf.Ps (w : World) (v : Value) (L : List Mf.P) : Prop := Mf.At 8 Mf.pc w v L
def Mf.Is (w : World) (v : Value) (L : List Int) : Prop := Mf.At 1 Mf.ic w v L
theorem Mf.Ps.kept {w w' : World} {v : Value} {L : List Mf.P} (h : Mf.Ps w v L) (g : Below w.heap.size w w') : Mf.Ps w' v L := Mf.At.kept h g
theorem Mf.Is.kept {w w' : World} {v : Value} {L : List Int} (h : Mf.Is w v L) (g : Below w.heap.size w w') : Mf.Is w' v L := Mf.At.kept h g
structure Mf.PA (w : World) (b o : Nat) (p : Mf.P) : Prop where
 c0 : w.cell? ⟨b, o, none⟩ = some (.int .i64 p.id)
 c1 : w.cell? ⟨b, o + 1, none⟩ = some (.int .i64 p.lv)
 c2 : w.cell? ⟨b, o + 2, none⟩ = some (.bool p.lo.null)
 c3 : w.cell? ⟨b, o + 3, none⟩ = some (.int .i64 p.lo.n)
 c4 : w.cell? ⟨b, o + 4, none⟩ = some (.string p.lo.s)
 c5 : w.cell? ⟨b, o + 5, none⟩ = some (.bool p.hi.null)
 c6 : w.cell? ⟨b, o + 6, none⟩ = some (.int .i64 p.hi.n)
 c7 : w.cell? ⟨b, o + 7, none⟩ = some (.string p.hi.s)
theorem Mf.PA.lt {w : World} {b o : Nat} {p : Mf.P} (h : Mf.PA w b o p) : b < w.heap.size := World.block_lt_of_cell? w _ h.c0
theorem Mf.PA.kept {w w' : World} {b o : Nat} {p : Mf.P} (h : Mf.PA w b o p) (g : Below w.heap.size w w') : Mf.PA w' b o p :=
 ⟨(g.cell (p := ⟨b, o, none⟩) h.lt).trans h.c0, (g.cell (p := ⟨b, o + 1, none⟩) h.lt).trans h.c1, (g.cell (p := ⟨b, o + 2, none⟩) h.lt).trans h.c2, (g.cell (p := ⟨b, o + 3, none⟩) h.lt).trans h.c3, (g.cell (p := ⟨b, o + 4, none⟩) h.lt).trans h.c4, (g.cell (p := ⟨b, o + 5, none⟩) h.lt).trans h.c5, (g.cell (p := ⟨b, o + 6, none⟩) h.lt).trans h.c6, (g.cell (p := ⟨b, o + 7, none⟩) h.lt).trans h.c7⟩
theorem Mf.PA.new (w : World) (p : Mf.P) (t : TypeId) : Mf.PA (w.alloc (.cells (Mf.cs p) t)) w.heap.size 0 p :=
 ⟨Kn.cell_new w _ t 0 _ rfl, Kn.cell_new w _ t 1 _ rfl, Kn.cell_new w _ t 2 _ rfl, Kn.cell_new w _ t 3 _ rfl, Kn.cell_new w _ t 4 _ rfl, Kn.cell_new w _ t 5 _ rfl, Kn.cell_new w _ t 6 _ rfl, Kn.cell_new w _ t 7 _ rfl⟩
theorem Mf.Ps.part {w : World} {b o : Nat} {L : List Mf.P} (h : ∀ i j x, L[i]? = some x → j < 8 → w.cell? ⟨b, o + i * 8 + j, none⟩ = (Mf.pc x)[j]?) {i : Nat} {p : Mf.P} (hi : L[i]? = some p) : Mf.PA w b (o + i * 8) p :=
 ⟨by have := h i 0 p hi (by decide); rwa [Nat.add_zero] at this, h i 1 p hi (by decide), h i 2 p hi (by decide), h i 3 p hi (by decide), h i 4 p hi (by decide), h i 5 p hi (by decide), h i 6 p hi (by decide), h i 7 p hi (by decide)⟩
theorem Mf.Is.num {w : World} {b o : Nat} {L : List Int} (h : ∀ i j x, L[i]? = some x → j < 1 → w.cell? ⟨b, o + i * 1 + j, none⟩ = (Mf.ic x)[j]?) {i : Nat} {x : Int} (hi : L[i]? = some x) : w.cell? ⟨b, o + i, none⟩ = some (.int .i64 x) := by
 have := h i 0 x hi (by decide)
 rwa [Nat.add_zero, Nat.mul_one] at this
def Mf.up (most n : Int) : Bool := decide (0 ≤ n) && decide (n ≤ most)
end
end Go.Proofs.Ytodeodndjkkkbaa
