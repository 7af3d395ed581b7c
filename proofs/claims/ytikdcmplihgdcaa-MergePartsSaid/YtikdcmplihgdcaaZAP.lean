import Derived.Test.YtikdcmplihgdcaaZAI
import Derived.Deep.RegionLaw
import Derived.Deep.RegionLawGrows
import Derived.Test.YtikdcmplihgdcaaZAE
import Derived.Test.YtikdcmplihgdcaaZAC
import Derived.Test.YtikdcmplihgdcaaZAD
import Derived.Test.YtikdcmplihgdcaaZAG
import Derived.BigQuiet
import Derived.Test.YtikdcmplihgdcaaZAH
import Derived.Test.YtikdcmplihgdcaaZAO
import Derived.Deep.Slices
import Derived.Deep.Fields
import Derived.ChangeSame
import Derived.ProofKit
import Derived.OpenShut
import Derived.SizedLaws
import Derived.Test.YtikdcmplihgdcaaZAJ
namespace Go.Proofs.Ytikdcmplihgdcaa
section
open Go.RowKit
def Mg.early (LL : List (List Dd.D)) : List (List Dd.D) := (LL.take 12).map (List.take 60)
def Mg.eps (R : Nat → Option Addr × Nat × Nat) (k : Nat) : List (Option Addr × Nat × Nat) := (List.range k).map fun i => ((R i).1, min (R i).2.1 60, (R i).2.2)
theorem Mg.eps_next (R : Nat → Option Addr × Nat × Nat) (k : Nat) : Mg.eps R (k + 1) = Mg.eps R k ++ [((R k).1, min (R k).2.1 60, (R k).2.2)] := by
 unfold Mg.eps
 rw [List.range_succ, List.map_append]
 rfl
theorem Mg.eps_len (R : Nat → Option Addr × Nat × Nat) (k : Nat) : (Mg.eps R k).length = k := by unfold Mg.eps; simp
theorem Mg.ds_take {w : World} {a : Option Addr} {n c : Nat} {L : List Dd.D} (h : Bk.Ds w (.slice a n c) L) (m : Nat) : Bk.Ds w (.slice a (min n m) c) (L.take m) := by
 obtain ⟨a', c', e, h1, h2, h⟩ := h
 simp only [Value.slice.injEq] at e
 obtain ⟨rfl, rfl, rfl⟩ := e
 refine ⟨a, c, by rw [List.length_take, Nat.min_comm], by rw [List.length_take]; omega, h2, ?_⟩
 rcases h with rfl | ⟨b, o, ha, hb, h⟩
 ·exact .inl List.take_nil
 ·refine .inr ⟨b, o, ha, hb, fun i x hx => ?_⟩
  rw [List.getElem?_take] at hx
  split at hx
  ·exact h i x hx
  ·cases hx
theorem Mg.early_at {LL : List (List Dd.D)} {i : Nat} {L : List Dd.D} (h : (Mg.early LL)[i]? = some L) : ∃ M, LL[i]? = some M ∧ L = M.take 60 := by
 unfold Mg.early at h
 rw [List.getElem?_map, List.getElem?_take] at h
 by_cases hi : i < 12
 ·rw [if_pos hi] at h
  cases hx : LL[i]? with
  | none => rw [hx] at h; cases h
  | some M =>
    rw [hx] at h
    exact ⟨M, rfl, by simpa using h.symm⟩
 ·rw [if_neg hi] at h; cases h
theorem Mg.early_len (LL : List (List Dd.D)) : (Mg.early LL).length = min 12 LL.length := by unfold Mg.early; rw [List.length_map, List.length_take]
theorem Mg.own_form {base : Nat} {w : World} {u : Value} {Ps : List (Option Addr × Nat × Nat)} {EE : List (List Dd.D)} (h : Dk.Own 25 1 Bk.e1 base w u Ps) (hl : Ps.length = EE.length) : (u = .slice none 0 0 ∧ EE = []) ∨ ∃ b c, u = .slice (some ⟨b, 0, none⟩) EE.length c := by
 rcases h.form with ⟨rfl, h0⟩ | ⟨g, c, rfl, _, _, _, _⟩
 ·rw [h0] at hl
  exact .inl ⟨rfl, List.eq_nil_of_length_eq_zero hl.symm⟩
 ·exact .inr ⟨g, c, by rw [hl]⟩
set_option maxHeartbeats 4000000 in
set_option maxRecDepth 100000 in
theorem Mg.earlyF_c (v : Value) (LL : List (List Dd.D)) (w : World) (hv : Mg.Ls w v LL) :
 Calls Try.prog 10 #[v] w fun e w' => ∃ u, e = .returned u ∧ Mg.Ls w' u (Mg.early LL) ∧ Below w.heap.size w w' ∧ ((u = .slice none 0 0 ∧ Mg.early LL = []) ∨ ∃ b c, u = .slice (some ⟨b, 0, none⟩) (Mg.early LL).length c) := by
 obtain ⟨R, hr, hrv⟩ := hv.lr
 have HRV := Lib.hid hrv
 obtain ⟨a, c, rfl, h1, h2, h⟩ := hr
 have HH := Lib.hid h
 have HCC := Lib.hid (And.intro h1 h2)
 clear hv hrv h h1 h2
 go_enter Try.func10, Try.ntmps10
 go_wp2_with fail
 go_loopw [3, 4] (fun out i wr => ∃ k : Nat, k ≤ LL.length ∧ k ≤ 12 ∧ i = .int .i64 k ∧ Dk.Own 25 1 Bk.e1 w.heap.size wr out (Mg.eps R k) ∧ Below w.heap.size w wr) (fun _ i _ => 12 - (intOf i).toNat)
 case atStart => exact ⟨0, Nat.zero_le _, by decide, rfl, Dk.Own.nil _ _, Below.refl _ _⟩
 case round =>
  obtain ⟨k, hk, hk2, rfl, hO, hB⟩ := hrel
  have HB := Lib.hid hB
  have dk0 : (0 : Int) ≤ (k : Int) := by omega
  by_cases hkk : k < LL.length ∧ k < 12
  ·obtain ⟨hkl, hk3⟩ := hkk
   rcases HH.out with rfl | ⟨b, o, rfl, hlt, hc⟩
   ·simp at hkl
   ·have hx := List.getElem?_eq_getElem hkl
    generalize LL[k] = L at hx
    have c0 := (hB.cell (p := ⟨b, o + k, none⟩) hlt).trans (hc k L hx)
    obtain ⟨ds9, e9, hl9, hc9, hm9⟩ := Mg.ds_parts (HRV.out k L hx)
    have HNX := Lib.hid (Mg.eps_next R k)
    have HML : Hid ((Mg.eps R k).length ≤ 12) := Lib.hid (by rw [Mg.eps_len]; exact hk2)
    generalize Mg.eps R k = M at hO HNX HML
    have hrk : R k = ds9 := by
     have := e9
     obtain ⟨x1, x2, x3⟩ := ds9
     generalize R k = y at this
     obtain ⟨y1, y2, y3⟩ := y
     simp only [Bk.sv, Value.slice.injEq] at this
     rw [this.1, this.2.1, this.2.2]
    rw [hrk] at c0 HNX
    obtain ⟨ra, rn, rc⟩ := ds9
    simp only [Bk.sv] at c0
    simp only at HNX hl9 hc9 hm9
    subst hl9
    obtain ⟨m, hm⟩ : ∃ m : Nat, m = min L.length 60 := ⟨_, rfl⟩
    rw [← hm] at HNX
    have hm0 : (0 : Int) ≤ (m : Int) := by omega
    have hmc : m ≤ rc := by omega
    have hmci : (m : Int) ≤ (rc : Int) := by omega
    have dk : (k : Int) < (LL.length : Int) := by omega
    have dk3 : (k : Int) < 12 := by omega
    have HK := Lib.hid (And.intro hkl hk3)
    have HO : Hid (Dk.Own 25 1 Bk.e1 w.heap.size wr.drew _ M) := Lib.hid hO
    have HSZ : Hid (∀ x, w.heap.size ≤ (wr.drew.alloc x).heap.size) := Lib.hid fun x => by have := hB.size; rw [World.size_alloc]; show w.heap.size ≤ wr.heap.size + 1; omega
    have hml := HML.out
    have C0 := fun d os => cell_regrown c0 d os
    have HM := Lib.hid hm
    clear hc hx hkl hk hk2 hk3 hlt hB e9 hrk hm hc9 hm9 HRV HH
    generalize L.length = ln at c0 C0 HM
    rcases Nat.lt_or_ge 60 ln with h60 | h60
    ·have h60i : (60 : Int) < (ln : Int) := by omega
     obtain rfl : m = 60 := by have := HM.out; omega
     have hr60 : (60 : Int) ≤ (rc : Int) := by omega
     clear HM h60
     go_wp2_with fail
     go_region_law (first
      | (refine Dk.step_appendB (enc := Bk.e1) 22 _ 24 Try.underlying22 Rn.infoB rfl (by decide) Bk.e1_len Bk.e1_one [(ra, _, rc)] (base := w.heap.size) (HSZ.out _) (World.ownsRow.alloc HO.out _) (by simp only [List.length_singleton]; omega) (by simp only [List.length_singleton]; omega) _ _ _ (by rfl) (by rfl) (by rfl) (by rfl) (Dk.src_cell (Dk.cell_new rfl)) ?_; intro v7 w7 o7 g7; have H7 := Lib.hid (And.intro o7 (g7.behind _))))
     all_goals
      have HB7 := Lib.hid (Dk.own_below HB.out.drew HO.out H7.out.2)
      go_wp2
      go_roundw
      case rel => exact ⟨k + 1, by have := HK.out; omega, by have := HK.out; omega, by simp, by rw [HNX.out]; exact H7.out.1, HB7.out⟩
      case measure => (have := HK.out; simp [intOf]; omega)
    ·obtain rfl : m = ln := by have := HM.out; omega
     have h60i : (if (60 : Int) < (m : Int) then (60 : Int) else (m : Int)) = (m : Int) := if_neg (by omega)
     clear HM h60
     go_wp2_with fail
     go_region_law (first
      | (refine Dk.step_appendB (enc := Bk.e1) 22 _ 24 Try.underlying22 Rn.infoB rfl (by decide) Bk.e1_len Bk.e1_one [(ra, _, rc)] (base := w.heap.size) (HSZ.out _) (World.ownsRow.alloc HO.out _) (by simp only [List.length_singleton]; omega) (by simp only [List.length_singleton]; omega) _ _ _ (by rfl) (by rfl) (by rfl) (by rfl) (Dk.src_cell (Dk.cell_new rfl)) ?_; intro v7 w7 o7 g7; have H7 := Lib.hid (And.intro o7 (g7.behind _))))
     all_goals
      have HB7 := Lib.hid (Dk.own_below HB.out.drew HO.out H7.out.2)
      go_wp2
      go_roundw
      case rel => exact ⟨k + 1, by have := HK.out; omega, by have := HK.out; omega, by simp, by rw [HNX.out]; exact H7.out.1, HB7.out⟩
      case measure => (have := HK.out; simp [intOf]; omega)
  ·have HE : Hid (k = min 12 LL.length) := Lib.hid (by omega)
   have HO := Lib.hid hO
   by_cases hkl : k < LL.length
   ·have dk : (k : Int) < (LL.length : Int) := by omega
    have dk3 : ¬ (k : Int) < 12 := by omega
    clear hk hk2 hkk hkl hO hB
    go_wp2
    go_ret
    exact ⟨_, rfl, Mg.own_ls HO.out (by rw [Mg.eps_len, Mg.early_len, HE.out]) (fun i L hx => by
     obtain ⟨M, hM, rfl⟩ := Mg.early_at hx
     have hi := (List.getElem?_eq_some_iff.1 hx).1
     rw [Mg.early_len, ← HE.out] at hi
     exact ⟨((R i).1, min (R i).2.1 60, (R i).2.2), by unfold Mg.eps; rw [List.getElem?_map, List.getElem?_range hi]; rfl, Mg.ds_take ((HRV.out i M hM).later HB.out) 60⟩), HB.out, Mg.own_form HO.out (by rw [Mg.eps_len, Mg.early_len, HE.out])⟩
   ·have dk : ¬ (k : Int) < (LL.length : Int) := by omega
    clear hk hk2 hkk hkl hO hB
    go_wp2
    go_ret
    exact ⟨_, rfl, Mg.own_ls HO.out (by rw [Mg.eps_len, Mg.early_len, HE.out]) (fun i L hx => by
     obtain ⟨M, hM, rfl⟩ := Mg.early_at hx
     have hi := (List.getElem?_eq_some_iff.1 hx).1
     rw [Mg.early_len, ← HE.out] at hi
     exact ⟨((R i).1, min (R i).2.1 60, (R i).2.2), by unfold Mg.eps; rw [List.getElem?_map, List.getElem?_range hi]; rfl, Mg.ds_take ((HRV.out i M hM).later HB.out) 60⟩), HB.out, Mg.own_form HO.out (by rw [Mg.eps_len, Mg.early_len, HE.out])⟩
theorem Mg.early_c (v : Value) (LL : List (List Dd.D)) (w : World) (hv : Mg.Ls w v LL) :
 Calls Try.prog 10 #[v] w fun e w' => ∃ u, e = .returned u ∧ Mg.Ls w' u (Mg.early LL) ∧ Below w.heap.size w w' :=
 (Mg.earlyF_c v LL w hv).mono fun _ _ ⟨u, h1, h2, h3, _⟩ => ⟨u, h1, h2, h3⟩
end
section
open Go.RowKit
end
section
open Go.RowKit
open Ty (encU num txt)
open Tx (restT)
open Ig (rest sg)
end
section
open Go.RowKit
def Dd.same (a b : Dd.D) : Bool := (a.gone == b.gone) && Kn.sameR a.row b.row
set_option maxHeartbeats 2000000 in
set_option maxRecDepth 100000 in
theorem Dd.rsame_c (u v : Value) (a b : Dd.D) (w : World) (hu : Kn.Vals w u a.row) (hv : Kn.Vals w v b.row) :
 Calls Try.prog 27 #[.agg #[.bool a.gone, u], .agg #[.bool b.gone, v]] w fun e w' => e = .returned (.bool (Dd.same a b)) ∧ Below w.heap.size w w' := by
 obtain ⟨ga, ra⟩ := a
 obtain ⟨gb, rb⟩ := b
 simp only at hu hv ⊢
 unfold Dd.same
 simp only
 have hG0 : Below w.heap.size w ((w.alloc (.cells #[.bool ga, u] 41)).alloc (.cells #[.bool gb, v] 41)) := ((Below.refl _ w).alloc (Nat.le_refl _) _).alloc (by simp) _
 have hb := (Below.refl _ (w.alloc (.cells #[.bool ga, u] 41))).alloc (Nat.le_refl _) (.cells #[.bool gb, v] 41)
 have x0 := (hb.cell (p := ⟨w.heap.size, 0, none⟩) (by simp)).trans (Kn.cell_new w #[.bool ga, u] 41 0 _ rfl)
 have x1 := (hb.cell (p := ⟨w.heap.size, 1, none⟩) (by simp)).trans (Kn.cell_new w #[.bool ga, u] 41 1 _ rfl)
 have y0 := Kn.cell_new (w.alloc (.cells #[.bool ga, u] 41)) #[.bool gb, v] 41 0 _ rfl
 have y1 := Kn.cell_new (w.alloc (.cells #[.bool ga, u] 41)) #[.bool gb, v] 41 1 _ rfl
 rw [World.size_alloc] at y0 y1
 simp only [List.getElem_toArray, List.getElem_cons_zero, List.getElem_cons_succ] at x0 x1 y0 y1
 have cs := Kn.rsame_c u v ra rb _ (hu.later hG0) (hv.later hG0)
 have HX := Lib.hid (And.intro (And.intro x0 x1) (And.intro y0 y1))
 have HG0 := Lib.hid hG0
 generalize Kn.sameR ra rb = S at cs ⊢
 clear hG0 hb x0 x1 y0 y1 hu hv
 cases ga <;> cases gb
 all_goals
  go_enter Try.func27, Try.ntmps27
  go_wp2_with fail
 ·generalize World.alloc _ _ = wo at HX HG0 cs ⊢
  obtain ⟨⟨x0, x1⟩, y0, y1⟩ := HX.out
  go_wp2_with fail
  with_reducible refine cs.mono ?_
  rintro e w1 ⟨rfl, n, h1⟩
  subst w1
  go_wp2
  go_ret
  exact ⟨by simp, Kn.below_drewN HG0.out n⟩
 ·generalize World.alloc _ _ = wo at HX HG0 cs ⊢
  obtain ⟨⟨x0, x1⟩, y0, y1⟩ := HX.out
  go_wp2
  go_ret
  exact ⟨by simp, HG0.out⟩
 ·generalize World.alloc _ _ = wo at HX HG0 cs ⊢
  obtain ⟨⟨x0, x1⟩, y0, y1⟩ := HX.out
  go_wp2
  go_ret
  exact ⟨by simp, HG0.out⟩
 ·generalize World.alloc _ _ = wo at HX HG0 cs ⊢
  obtain ⟨⟨x0, x1⟩, y0, y1⟩ := HX.out
  go_wp2_with fail
  with_reducible refine cs.mono ?_
  rintro e w1 ⟨rfl, n, h1⟩
  subst w1
  go_wp2
  go_ret
  exact ⟨by simp, Kn.below_drewN HG0.out n⟩
end
section
open Go.RowKit
theorem Bk.same_self (d : Dd.D) : Dd.same d d = true := by
 unfold Dd.same
 rw [Kn.sameR_self]
 simp
set_option maxHeartbeats 4000000 in
set_option maxRecDepth 100000 in
theorem Bk.rsame_c (u v : Value) (L : List Dd.D) (w : World) (hu : Bk.Ds w u L) (hv : Bk.Ds w v L) :
 Calls Try.prog 13 #[u, v] w fun e w' => e = .returned (.bool true) ∧ Below w.heap.size w w' := by
 obtain ⟨a, c, rfl, hlc, hcm, h⟩ := hu
 obtain ⟨a2, c2, rfl, hlc2, hcm2, h2⟩ := hv
 have HH := Lib.hid h
 have HH2 := Lib.hid h2
 clear h h2
 have hz : ((L.length : Int) != (L.length : Int)) = false := by simp
 go_enter Try.func13, Try.ntmps13
 go_wp2_with fail
 go_loopw [5] (fun i wr => ∃ k : Nat, k ≤ L.length ∧ i = .int .i64 k ∧ Below w.heap.size w wr) (fun i _ => L.length - (intOf i).toNat)
 case atStart => exact ⟨0, Nat.zero_le _, rfl, Below.refl _ _⟩
 case round =>
  obtain ⟨k, hk, rfl, hg⟩ := hrel
  have HG := Lib.hid hg
  by_cases hkl : k < L.length
  ·rcases HH.out with rfl | ⟨b, o, rfl, hlt, hc⟩
   ·simp at hkl
   ·rcases HH2.out with rfl | ⟨b2, o2, rfl, hlt2, hc2⟩
    ·simp at hkl
    ·have hx := List.getElem?_eq_getElem hkl
     generalize L[k] = d at hx
     obtain ⟨u0, c0, c1, hu⟩ := hc k d hx
     obtain ⟨u2, d0, d1, hu2⟩ := hc2 k d hx
     have hu := hu.later hg
     have hu2 := hu2.later hg
     have c0 := (hg.cell (p := ⟨b, o + k * 2, none⟩) hlt).trans c0
     have c1 := (hg.cell (p := ⟨b, o + k * 2 + 1, none⟩) hlt).trans c1
     have d0 := (hg.cell (p := ⟨b2, o2 + k * 2, none⟩) hlt2).trans d0
     have d1 := (hg.cell (p := ⟨b2, o2 + k * 2 + 1, none⟩) hlt2).trans d1
     have dk : (k : Int) < (L.length : Int) := by omega
     have dk0 : (0 : Int) ≤ (k : Int) := by omega
     have HK := Lib.hid hkl
     have hm : L.length ≤ 9223372036854775807 := Nat.le_trans hlc hcm
     have C0 := fun d os => cell_regrown c0 d os
     have C1 := fun d os => cell_regrown c1 d os
     have D0 := fun d os => cell_regrown d0 d os
     have D1 := fun d os => cell_regrown d1 d os
     have CS : Hid (∀ p : Regrown, _) := Lib.hid fun p : Regrown => Calls.regrown_of (d := p.d) (os := p.os) (w := wr) (Dd.rsame_c u0 u2 d d _ (hu.later (below_regrown wr p.d p.os)) (hu2.later (below_regrown wr p.d p.os)))
     rw [Bk.same_self] at CS
     obtain ⟨ua, uc, e1, -⟩ := hu
     obtain ⟨ub, ud, e2, -⟩ := hu2
     have HC := Lib.hid hc
     have HC2 := Lib.hid hc2
     clear c0 c1 d0 d1 hc hc2 hx hkl hk hg
     subst e1 e2
     go_upto_region 6 with (fail)
     refine wp_region_quiet_below (by kernel_rfl) (by kernel_rfl) ?_
     repeat (go_big_quiet_step (first | with_reducible exact CS.out _))
     refine wpQuiet_nil ?_
     intro _ hw'
     have HG2 := Lib.hid (HG.out.trans ((Bk.below_reg hw').mono HG.out.size))
     go_wp2
     go_roundw
     case rel => exact ⟨k + 1, HK.out, by simp, HG2.out⟩
     case measure => (have := HK.out; simp [intOf]; omega)
  ·obtain rfl : k = L.length := by omega
   have dk : ¬ (L.length : Int) < (L.length : Int) := by omega
   clear hk hkl hg
   go_wp2
   go_ret
   exact ⟨rfl, HG.out⟩
end
section
open Go Go.RowKit
theorem Mg.early_zs {LL : List (List Dd.D)} (h : ∀ L ∈ LL, Bk.Zs L) : ∀ L ∈ Mg.early LL, Bk.Zs L := fun L hL => by
 obtain ⟨i, hi, e⟩ := List.getElem_of_mem hL
 obtain ⟨M, hM, rfl⟩ := Mg.early_at (show (Mg.early LL)[i]? = some L by rw [List.getElem?_eq_getElem hi, e])
 exact fun d hd => h M (List.mem_of_getElem? hM) d (List.mem_of_mem_take hd)
theorem Mg.sz_bound : ∀ (LL : List (List Dd.D)) (c : Nat), (∀ L ∈ LL, L.length ≤ c) → Mg.sz LL ≤ LL.length * c
 | [], c, _ => by unfold Mg.sz; simp
 | L :: LL, c, h => by
   have h1 := Mg.sz_bound LL c fun M hM => h M (List.mem_cons_of_mem _ hM)
   have h2 := h L List.mem_cons_self
   unfold Mg.sz at h1 ⊢
   rw [List.map_cons, List.sum_cons, List.length_cons, Nat.succ_mul]
   omega
theorem Mg.early_sz (LL : List (List Dd.D)) : Mg.sz (Mg.early LL) ≤ 720 := by
 have h1 := Mg.sz_bound (Mg.early LL) 60 fun L hL => by
  obtain ⟨i, hi, e⟩ := List.getElem_of_mem hL
  obtain ⟨M, _, rfl⟩ := Mg.early_at (show (Mg.early LL)[i]? = some L by rw [List.getElem?_eq_getElem hi, e])
  rw [List.length_take]
  omega
 have h2 := Mg.early_len LL
 have h3 : (Mg.early LL).length * 60 ≤ 12 * 60 := Nat.mul_le_mul_right _ (by omega)
 omega
theorem Mg.fit_of {LL : List (List Dd.D)} (h : Mg.sz LL ≤ 4398046511104) : Mg.Fit LL := ⟨by omega, fun _ => Nat.le_trans (Mg.nw_len LL) h⟩
theorem Mg.early_fit (LL : List (List Dd.D)) : Mg.Fit (Mg.early LL) := Mg.fit_of (by have := Mg.early_sz LL; omega)
set_option maxHeartbeats 4000000 in
set_option maxRecDepth 100000 in
theorem Mg.newest_w (v : Value) (LL : List (List Dd.D)) (w : World) (hv : Mg.Ls w v LL) (hz : ∀ L ∈ LL, Bk.Zs L) :
 Calls Try.prog 3 #[v] w fun e w' => e = .returned (.bool true) ∧ Below w.heap.size w w' := by
 have HV := Lib.hid hv
 have HZ := Lib.hid (Mg.early_zs hz)
 obtain ⟨a, c, rfl, -, -, -⟩ := hv
 clear hz
 go_enter Try.func3, Try.ntmps3
 go_wp2_with fail
 refine (Mg.lives_c w).mono ?_
 rintro e w1 ⟨rfl, g1⟩
 have HG1 := Lib.hid g1
 have HV1 := Lib.hid (HV.out.later g1)
 clear g1
 go_wp2_with fail
 refine (Mg.early_c _ LL w1 HV1.out).mono ?_
 rintro e w2 ⟨u, rfl, hu, g2⟩
 have HG2 := Lib.hid (HG1.out.trans (g2.mono HG1.out.size))
 have HU := Lib.hid hu
 have HE := Lib.hid (Mg.early_fit LL)
 have HES := Lib.hid (Mg.early_sz LL)
 generalize Mg.early LL = EE at hu HU HE HES HZ
 obtain ⟨a2, c2, rfl, -, -, -⟩ := hu
 clear g2
 go_wp2_with fail
 refine (Mg.newest_c _ EE w2 HU.out HZ.out HE.out).mono ?_
 rintro e w3 ⟨x, rfl, hx, g3⟩
 have HG3 := Lib.hid (HG2.out.trans (g3.mono HG2.out.size))
 have HX := Lib.hid hx
 have HU3 := Lib.hid (HU.out.later g3)
 obtain ⟨a3, c3, rfl, -, -, -⟩ := hx
 clear g3
 go_wp2_with fail
 refine (Mg.rnewest_c _ EE w3 HU3.out HZ.out (by have := HES.out; omega)).mono ?_
 rintro e w4 ⟨y, rfl, hy, g4⟩
 have HG4 := Lib.hid (HG3.out.trans (g4.mono HG3.out.size))
 have HS := Lib.hid (Bk.rsame_c _ _ _ w4 (HX.out.later g4) hy)
 obtain ⟨a4, c4, rfl, -, -, -⟩ := hy
 clear g4
 generalize Mg.err EE = E
 generalize (Mg.res EE).length = n at HS ⊢
 go_wp2_with fail
 refine (HS.out).mono ?_
 rintro e w5 ⟨rfl, g5⟩
 have HG5 := Lib.hid (HG4.out.trans (g5.mono HG4.out.size))
 clear g5
 go_wp2
 go_ret
 exact ⟨rfl, HG5.out⟩
theorem Mg.all_of {LL : List (List Dd.D)} {b : Bool} (h : Mg.all LL = b) : Mg.err LL = (if b = true then 0 else 1) ∧ Mg.res LL = (if b = true then Mg.nw LL else []) := by
 subst h
 exact ⟨rfl, rfl⟩
theorem Mg.sorted_nil : Bk.sorted [] = true := rfl
theorem Mg.one_fact {LL : List (List Dd.D)} {L : List Dd.D} (ha : Mg.all LL = Bk.sorted L) (hn : Bk.sorted L = true → Mg.nw LL = L) (hs : Mg.sz LL ≤ L.length + L.length) :
 Mg.err LL = (if Bk.sorted L = true then 0 else 1) ∧ Mg.res LL = (if Bk.sorted L = true then L else []) ∧ (L.length ≤ 4398046511104 → Mg.Fit LL) := by
 refine ⟨by unfold Mg.err; rw [ha], ?_, fun hl => ⟨by omega, fun h => ?_⟩⟩
 ·unfold Mg.res
  rw [ha]
  split
  ·next h => exact hn h
  ·rfl
 ·rw [hn (ha ▸ h)]
  exact hl
theorem Mg.one_facts (L : List Dd.D) : (Mg.err [L] = (if Bk.sorted L = true then 0 else 1) ∧ Mg.res [L] = (if Bk.sorted L = true then L else []) ∧ (L.length ≤ 4398046511104 → Mg.Fit [L])) ∧
 (Mg.err [L, L] = (if Bk.sorted L = true then 0 else 1) ∧ Mg.res [L, L] = (if Bk.sorted L = true then L else []) ∧ (L.length ≤ 4398046511104 → Mg.Fit [L, L])) ∧
 (Mg.err [[], L] = (if Bk.sorted L = true then 0 else 1) ∧ Mg.res [[], L] = (if Bk.sorted L = true then L else []) ∧ (L.length ≤ 4398046511104 → Mg.Fit [[], L])) :=
 ⟨Mg.one_fact (by unfold Mg.all; simp) Mg.one (by unfold Mg.sz; simp), Mg.one_fact (by unfold Mg.all; simp) Mg.two (by unfold Mg.sz; simp), Mg.one_fact (by unfold Mg.all; simp [Mg.sorted_nil]) Mg.ahead (by unfold Mg.sz; simp)⟩
set_option maxHeartbeats 8000000 in
set_option maxRecDepth 100000 in
theorem Mg.one_w (v : Value) (L : List Dd.D) (w : World) (hv : Bk.Ds w v L) (hz : Bk.Zs L) (hl : L.length ≤ 4398046511104) :
 Calls Try.prog 8 #[v] w fun e w' => e = .returned (.bool true) ∧ Below w.heap.size w w' := by
 have HV := Lib.hid hv
 have HZ := Lib.hid hz
 have HL := Lib.hid hl
 have H0 := Mg.one_facts L
 have F1 := Lib.hid (H0.1.2.2 hl)
 have F2 := Lib.hid (H0.2.1.2.2 hl)
 have F3 := Lib.hid (H0.2.2.2.2 hl)
 have E1 := Lib.hid (And.intro H0.1.1 H0.1.2.1)
 have E2 := Lib.hid (And.intro H0.2.1.1 H0.2.1.2.1)
 have E3 := Lib.hid (And.intro H0.2.2.1 H0.2.2.2.1)
 have Z1 : Hid (∀ M ∈ [L], Bk.Zs M) := Lib.hid fun M hM => by obtain rfl : M = L := by simpa using hM
                                                              exact hz
 have Z2 : Hid (∀ M ∈ [L, L], Bk.Zs M) := Lib.hid fun M hM => by obtain rfl : M = L := by simpa using hM
                                                                 exact hz
 have Z3 : Hid (∀ M ∈ [[], L], Bk.Zs M) := Lib.hid fun M hM => by
  simp only [List.mem_cons, List.not_mem_nil, or_false] at hM
  rcases hM with rfl | rfl
  ·exact fun d hd => by cases hd
  ·exact hz
 clear H0
 obtain ⟨a, c, rfl, -, -, -⟩ := hv
 have CL1 := Lib.hid fun (W : World) (g : Below w.heap.size w W) => Mg.lists1 W (a, L.length, c) L (HV.out.later g)
 have CL2 := Lib.hid fun (W : World) (g : Below w.heap.size w W) => Mg.lists2 W (a, L.length, c) (a, L.length, c) L L (HV.out.later g) (HV.out.later g)
 have CL3 := Lib.hid fun (W : World) (g : Below w.heap.size w W) => Mg.lists2 W (none, 0, 0) (a, L.length, c) [] L ⟨none, 0, rfl, Nat.le_refl _, by omega, .inl rfl⟩ (HV.out.later g)
 have CS := Lib.hid fun (W : World) (g : Below w.heap.size w W) => Bk.rsorted_c _ L W (HV.out.later g) HZ.out
 have CM := Lib.hid fun (W : World) (u : Value) (g : Below w.heap.size w W) (hu : Bk.Ds W u L) => Bk.rsame_c u _ L W hu (HV.out.later g)
 simp only [Bk.sv] at CL1 CL2 CL3
 clear hz hl
 generalize Bk.sorted L = s at E1 E2 E3 CS
 obtain ⟨E, hE⟩ : ∃ E : Int, E = if s = true then 0 else 1 := ⟨_, rfl⟩
 obtain ⟨R, hR⟩ : ∃ R : List Dd.D, R = if s = true then L else [] := ⟨_, rfl⟩
 rw [← hE, ← hR] at E1 E2 E3
 have HER := Lib.hid (And.intro hE hR)
 clear hE hR
 go_enter Try.func8, Try.ntmps8
 go_wp2_with fail
 refine (Mg.lives_c w).mono ?_
 rintro e w1 ⟨rfl, g1⟩
 have HG1 := Lib.hid g1
 have HB1 := Lib.hid (CL1.out w1 g1)
 clear g1
 go_wp2_with fail
 refine (Mg.newest_c _ [L] _ HB1.out Z1.out F1.out).mono ?_
 rintro e w2 ⟨x, rfl, hx, g2⟩
 rw [E1.out.2] at hx
 rw [E1.out.1]
 have HG2 := Lib.hid ((HG1.out.alloc HG1.out.size _).trans (g2.mono (HG1.out.alloc HG1.out.size _).size))
 have HX := Lib.hid hx
 obtain ⟨xa, xc, rfl, -, -, -⟩ := hx
 have HB2 := Lib.hid (CL2.out w2 HG2.out)
 clear g2
 go_wp2_with fail
 refine (Mg.newest_c _ [L, L] _ HB2.out Z2.out F2.out).mono ?_
 rintro e w3 ⟨y, rfl, hy, g3⟩
 rw [E2.out.2] at hy
 rw [E2.out.1]
 have HG3 := Lib.hid ((HG2.out.alloc HG2.out.size _).trans (g3.mono (HG2.out.alloc HG2.out.size _).size))
 have HX3 := Lib.hid ((HX.out.later ((Below.refl _ w2).alloc (Nat.le_refl _) _)).later g3)
 have HY := Lib.hid hy
 obtain ⟨ya, yc, rfl, -, -, -⟩ := hy
 have HB3 := Lib.hid (CL3.out w3 HG3.out)
 clear g3 HX
 go_wp2_with fail
 refine (Mg.newest_c _ [[], L] _ HB3.out Z3.out F3.out).mono ?_
 rintro e w4 ⟨z, rfl, hz, g4⟩
 rw [E3.out.2] at hz
 rw [E3.out.1]
 have HG4 := Lib.hid ((HG3.out.alloc HG3.out.size _).trans (g4.mono (HG3.out.alloc HG3.out.size _).size))
 have HX4 := Lib.hid ((HX3.out.later ((Below.refl _ w3).alloc (Nat.le_refl _) _)).later g4)
 have HY4 := Lib.hid ((HY.out.later ((Below.refl _ w3).alloc (Nat.le_refl _) _)).later g4)
 have HZ4 := Lib.hid hz
 obtain ⟨za, zc, rfl, -, -, -⟩ := hz
 clear g4 HX3 HY
 go_wp2_with fail
 refine (CS.out w4 HG4.out).mono ?_
 rintro e w5 ⟨rfl, g5⟩
 have HG5 := Lib.hid (HG4.out.trans (g5.mono HG4.out.size))
 have HX5 := Lib.hid (HX4.out.later g5)
 have HY5 := Lib.hid (HY4.out.later g5)
 have HZ5 := Lib.hid (HZ4.out.later g5)
 clear g5 HX4 HY4 HZ4
 cases s
 ·obtain rfl : E = 1 := HER.out.1.trans (if_neg (by decide))
  go_wp2
  go_ret
  exact ⟨rfl, HG5.out⟩
 ·obtain rfl : E = 0 := HER.out.1.trans (if_pos rfl)
  obtain rfl : R = L := HER.out.2.trans (if_pos rfl)
  have CX := Lib.hid (CM.out w5 _ HG5.out HX5.out)
  go_wp2_with fail
  refine (CX.out).mono ?_
  rintro e w6 ⟨rfl, g6⟩
  have HG6 := Lib.hid (HG5.out.trans (g6.mono HG5.out.size))
  have CY := Lib.hid (CM.out w6 _ HG6.out (HY5.out.later g6))
  have HZ6 := Lib.hid (HZ5.out.later g6)
  clear g6
  go_wp2_with fail
  refine (CY.out).mono ?_
  rintro e w7 ⟨rfl, g7⟩
  have HG7 := Lib.hid (HG6.out.trans (g7.mono HG6.out.size))
  have CZ := Lib.hid (CM.out w7 _ HG7.out (HZ6.out.later g7))
  clear g7
  go_wp2_with fail
  refine (CZ.out).mono ?_
  rintro e w8 ⟨rfl, g8⟩
  have HG8 := Lib.hid (HG7.out.trans (g8.mono HG7.out.size))
  clear g8
  go_wp2
  go_ret
  exact ⟨rfl, HG8.out⟩
end
section
open Go.RowKit Go.ChangeShapes Go.WideShapes Go.ChangeAt Go.Deep
section
variable {H : Type} {enc : TypeId × Value → H} {W : World}
end
end
section
open Go.RowKit Go.ChangeShapes Go.WideShapes Go.ChangeAt Go.Deep
section
variable {H : Type} {enc : TypeId × Value → H} {W : World}
def Kn.rd (x : Kn.V) : DataW H := .agg [.lit (.bool x.null), .lit (.int .i64 x.n), .lit (.string x.s.data.toList)]
set_option maxRecDepth 100000 in
theorem Kn.open_cells {fuel : Nat} {cs : List Value} {z : DataW H × List MemPlace} (h : DataW.trod enc Try.prog W 0 (fun _ => true) true fuel 37 cs = some z) :
 ∃ x : Kn.V, cs = [.bool x.null, .int .i64 x.n, .string x.s] ∧ z.1 = Kn.rd x := by
 obtain ⟨xs, f', _, hx, hcl, hxl, hg⟩ := DataW.trod_struct Try.underlying37 h
 have hC : Try.prog.cellsOf 37 = 3 := by kernel_rfl
 have i3 : Try.prog.cellsOf 4 = 1 := by kernel_rfl
 have i2 : Try.prog.cellsOf 2 = 1 := by kernel_rfl
 have i9 : Try.prog.cellsOf 9 = 1 := by kernel_rfl
 rw [hC] at hcl
 match cs, hcl, xs, hxl with
 | [c0, c1, c2], _, [y0, y1, y2], _ =>
   have g0 : DataW.trod enc Try.prog W 0 (fun _ => true) true f' 4 ((List.drop 0 [c0, c1, c2]).take (Try.prog.cellsOf 4)) = some y0 := hg 0 _ rfl
   have g1 : DataW.trod enc Try.prog W 0 (fun _ => true) true f' 2 ((List.drop 1 [c0, c1, c2]).take (Try.prog.cellsOf 2)) = some y1 := hg 1 _ rfl
   have g2 : DataW.trod enc Try.prog W 0 (fun _ => true) true f' 9 ((List.drop 2 [c0, c1, c2]).take (Try.prog.cellsOf 9)) = some y2 := hg 2 _ rfl
   rw [i3] at g0
   rw [i2] at g1
   rw [i9] at g2
   obtain ⟨k, e0, r0⟩ := DataW.trod_bool Try.underlying4 (show DataW.trod enc Try.prog W 0 (fun _ => true) true f' 4 [c0] = some y0 from g0)
   obtain ⟨n, e1, r1, w1⟩ := DataW.trod_int Try.underlying2 (show DataW.trod enc Try.prog W 0 (fun _ => true) true f' 2 [c1] = some y1 from g1)
   obtain ⟨s, e2, r2, _⟩ := DataW.trod_string Try.underlying9 (show DataW.trod enc Try.prog W 0 (fun _ => true) true f' 9 [c2] = some y2 from g2)
   simp only [List.cons.injEq, and_true] at e0 e1 e2
   subst e0 e1 e2 r0 r1 r2
   exact ⟨⟨k, n, s⟩, rfl, by rw [hx]; rfl⟩
end
end
section
open Go.RowKit Go.ChangeShapes Go.WideShapes Go.ChangeAt Go.Deep
def Bk.In (x : Kn.V) : Prop := Kn.Z x ∧ Ty.I64 x.n
section
variable {H : Type} {enc : TypeId × Value → H} {W : World}
theorem Bk.wa {P : Program} {e : TypeId} {d : DataW H} {n : Nat} : ∀ {l : List (DataW H)}, d ∈ l → n ∈ d.weights P e → n ∈ DataW.weightsAll P e l
 | x :: l, hd, hn => by
   rw [DataW.weightsAll, List.mem_append]
   rcases List.mem_cons.1 hd with rfl | hd
   ·exact .inl hn
   ·exact .inr (Bk.wa hd hn)
theorem Bk.fits {ts : List TypeId} {ds : List (DataW H)} (h : (DataW.weightsEach Try.prog ts ds).all (· ≤ reachBytes) = true) {j : Nat} {t : TypeId} {d : DataW H} (ht : ts[j]? = some t) (hd : ds[j]? = some d) : ∀ n ∈ d.weights Try.prog t, n ≤ reachBytes :=
 fun n hn => of_decide_eq_true (List.all_eq_true.1 h n (DataW.weights_mem_each ht hd _ hn))
end
end
section
open Go.RowKit Go.ChangeShapes Go.WideShapes Go.ChangeAt Go.Deep
def Sk.Got (w : World) (v : Value) (l : List Kn.V) : Prop := ∃ a c, v = .slice a l.length c ∧ (l ≠ [] → Sk.In w v l)
theorem Sk.Got.later {w w' : World} {v : Value} {l : List Kn.V} (h : Sk.Got w v l) (g : Below w.heap.size w w') : Sk.Got w' v l := by
 obtain ⟨a, c, hv, h⟩ := h
 exact ⟨a, c, hv, fun hne => (h hne).later g⟩
theorem Sk.Got.vals {w : World} {v : Value} {l : List Kn.V} (h : Sk.Got w v l) : Kn.Vals w v l := by
 obtain ⟨a, c, hv, h⟩ := h
 by_cases hne : l = []
 ·exact ⟨a, c, hv, .inl hne⟩
 ·obtain ⟨a', c', hv', _, hl, h'⟩ := h hne
  rcases h' with ⟨_, _, h0⟩ | ⟨b, o, ha, hb, hc⟩
  ·exact absurd h0 hne
  ·exact ⟨a', c', hv', .inr ⟨b, o, ha, hb, by omega, hc⟩⟩
theorem Sk.Got.row {w : World} {v : Value} {l : List Kn.V} {B : Nat} (h : Sk.Got w v l) (hB : w.heap.size ≤ B) : Sk.Row B w v l := by
 obtain ⟨a, c, hv, h⟩ := h
 by_cases hne : l = []
 ·exact ⟨a, c, hv, by simp [hne], fun x hx => by simp [hne] at hx, .inl hne⟩
 ·obtain ⟨a', c', hv', hz, hl, h'⟩ := h hne
  rcases h' with ⟨_, _, h0⟩ | ⟨b, o, ha, hb, hc⟩
  ·exact absurd h0 hne
  ·exact ⟨a', c', hv', by omega, hz, .inr ⟨b, o, ha, by omega, hb, hc⟩⟩
def Sk.Deeds (w : World) (v : Value) (L : List Sk.E) : Prop := ∃ a c, v = .slice a L.length c ∧ L.length ≤ c ∧ c ≤ 9223372036854775807 ∧ (∀ x ∈ L, Sk.Got w x.rv x.row) ∧
 (L = [] ∨ ∃ b o, a = some ⟨b, o, none⟩ ∧ b < w.heap.size ∧ ∀ i x, L[i]? = some x → w.cell? ⟨b, o + i * 2, none⟩ = some (.bool x.gone) ∧ w.cell? ⟨b, o + i * 2 + 1, none⟩ = some x.rv)
section
variable {H : Type} {enc : TypeId × Value → H} {W : World}
theorem Sk.wa {P : Program} {e : TypeId} {d : DataW H} {n : Nat} : ∀ {l : List (DataW H)}, d ∈ l → n ∈ d.weights P e → n ∈ DataW.weightsAll P e l
 | x :: l, hd, hn => by
   rw [DataW.weightsAll, List.mem_append]
   rcases List.mem_cons.1 hd with rfl | hd
   ·exact .inl hn
   ·exact .inr (Sk.wa hd hn)
set_option maxRecDepth 100000 in
theorem Sk.open_row {fuel : Nat} {c1 : Value} {z : DataW H × List MemPlace} (h : DataW.trod enc Try.prog W 0 (fun _ => true) true fuel 39 [c1] = some z)
 (hs : ∀ n ∈ z.1.weights Try.prog 39, n ≤ reachBytes) : ∃ l : List Kn.V, Sk.Got W c1 l := by
 have hC : Try.prog.cellsOf 37 = 3 := by kernel_rfl
 have hB : Try.prog.bytesOf 37 = 32 := by kernel_rfl
 rcases open_slice Try.underlying39 h with ⟨hcs, hx⟩ | ⟨a, len, cap, m, n, D, Pl, hcs, _, hl, hm, hmm, hx, hi⟩
 ·obtain rfl : c1 = .slice none 0 0 := by simpa using hcs
  exact ⟨[], none, 0, rfl, fun h => absurd rfl h⟩
 ·obtain rfl : c1 = .slice (some a) len cap := by simpa using hcs
  simp only [if_true] at hmm
  by_cases hz : len = 0
  ·subst hz
   exact ⟨[], some a, cap, rfl, fun h => absurd rfl h⟩
  ·have hz1 : z.1 = .slice ((List.range len).map D) ((List.range (m - len)).map fun j => D (len + j)) := by rw [hx]
   rw [hz1] at hs
   simp only [DataW.weights, Try.underlying39, List.mem_cons, List.mem_append] at hs
   have hcap := hs _ (.inl rfl)
   simp only [List.length_map, List.length_range, hB, reachBytes] at hcap
   have hstr : ∀ i, i < len → ∀ q, q ∈ (D i).weights Try.prog 37 → q ≤ reachBytes := fun i hil q hq =>
    hs q (.inr (.inl (Sk.wa (List.mem_map.2 ⟨i, List.mem_range.2 hil, rfl⟩) hq)))
   rw [hC] at hi
   have hone : ∀ i, i < len → ∃ x : Kn.V, (W.cell? (a.add (i * 3)) = some (.bool x.null) ∧ W.cell? (a.add (i * 3 + 1)) = some (.int .i64 x.n) ∧ W.cell? (a.add (i * 3 + 2)) = some (.string x.s)) ∧ Kn.Z x := fun i hil => by
    obtain ⟨cs', hc, ht⟩ := hi i (by omega)
    obtain ⟨x, rfl, hd⟩ := Kn.open_cells ht
    obtain ⟨_, _, hat⟩ := World.cells?_some hc
    have a0 := hat 0 (by omega)
    have a1 := hat 1 (by omega)
    have a2 := hat 2 (by omega)
    rw [add_add] at a0 a1 a2
    refine ⟨x, ⟨a0, a1, a2⟩, ?_⟩
    have h1 := hstr i hil x.s.size (by
     rw [show D i = Kn.rd x from hd]
     unfold Kn.rd
     simp only [DataW.weights, Try.underlying37]
     show x.s.size ∈ DataW.weightsEach Try.prog [4, 2, 9] [.lit (.bool x.null), .lit (.int .i64 x.n), .lit (.string x.s.data.toList)]
     simp [DataW.weightsEach, DataW.weights])
    unfold reachBytes at h1
    unfold Kn.Z
    omega
   obtain ⟨b, off, spot⟩ := a
   have hspot : spot = none := by
    obtain ⟨x, ⟨h0, _⟩, _⟩ := hone 0 (by omega)
    simpa [Addr.add] using World.cell?_spot h0
   subst hspot
   have hlt : b < W.heap.size := by
    obtain ⟨x, ⟨h0, _⟩, _⟩ := hone 0 (by omega)
    have := World.block_lt_of_cell? W _ h0
    simpa [Addr.add] using this
   have hch : ∃ f : Nat → Kn.V, ∀ i, i < len → Kn.At W b (off + i * 3) (f i) ∧ Kn.Z (f i) := by
    have hone' : ∀ i, i < len → ∃ x : Kn.V, Kn.At W b (off + i * 3) x ∧ Kn.Z x := fun i hil => by
     obtain ⟨x, ⟨h0, h1, h2⟩, h3⟩ := hone i hil
     rw [add_plain] at h0 h1 h2
     rw [← Nat.add_assoc] at h1 h2
     exact ⟨x, ⟨h0, h1, h2⟩, h3⟩
    refine ⟨fun i => if hil : i < len then (hone' i hil).choose else ⟨false, 0, ⟨#[]⟩⟩, fun i hil => ?_⟩
    have hs := (hone' i hil).choose_spec
    simp only [dif_pos hil]
    exact hs
   obtain ⟨f, hf'⟩ := hch
   have hlen : ((List.range len).map f).length = len := by simp
   refine ⟨(List.range len).map f, some ⟨b, off, none⟩, cap, by rw [hlen], fun _ => ⟨_, cap, by rw [hlen], fun x hx => ?_, by rw [hlen]; omega, .inr ⟨b, off, rfl, hlt, fun i x hix => ?_⟩⟩⟩
   ·obtain ⟨i, hi, rfl⟩ := List.mem_map.1 hx
    exact (hf' i (List.mem_range.1 hi)).2
   ·rw [List.getElem?_map, Option.map_eq_some_iff] at hix
    obtain ⟨i', hi', rfl⟩ := hix
    obtain ⟨hil, rfl⟩ := List.getElem?_eq_some_iff.1 hi'
    rw [List.getElem_range]
    rw [List.length_range] at hil
    exact (hf' i hil).1
set_option maxRecDepth 100000 in
theorem Sk.open_deed_cells {fuel : Nat} {cs : List Value} {z : DataW H × List MemPlace} (h : DataW.trod enc Try.prog W 0 (fun _ => true) true fuel 41 cs = some z)
 (hs : ∀ n ∈ z.1.weights Try.prog 41, n ≤ reachBytes) : ∃ x : Sk.E, cs = [.bool x.gone, x.rv] ∧ Sk.Got W x.rv x.row := by
 obtain ⟨xs, f', _, hx, hcl, hxl, hg⟩ := DataW.trod_struct Try.underlying41 h
 have hC : Try.prog.cellsOf 41 = 2 := by kernel_rfl
 have i3 : Try.prog.cellsOf 4 = 1 := by kernel_rfl
 have ir : Try.prog.cellsOf 39 = 1 := by kernel_rfl
 rw [hC] at hcl
 match cs, hcl, xs, hxl with
 | [c0, c1], _, [y0, y1], _ =>
   have g0 : DataW.trod enc Try.prog W 0 (fun _ => true) true f' 4 ((List.drop 0 [c0, c1]).take (Try.prog.cellsOf 4)) = some y0 := hg 0 _ rfl
   have g1 : DataW.trod enc Try.prog W 0 (fun _ => true) true f' 39 ((List.drop 1 [c0, c1]).take (Try.prog.cellsOf 39)) = some y1 := hg 1 _ rfl
   rw [i3] at g0
   rw [ir] at g1
   obtain ⟨k, e0, r0⟩ := DataW.trod_bool Try.underlying4 (show DataW.trod enc Try.prog W 0 (fun _ => true) true f' 4 [c0] = some y0 from g0)
   have g1 : DataW.trod enc Try.prog W 0 (fun _ => true) true f' 39 [c1] = some y1 := g1
   simp only [List.cons.injEq, and_true] at e0
   subst e0
   obtain ⟨l, hl⟩ := Sk.open_row g1 fun n hn => hs n (by
    have hz : z.1 = .agg [y0.1, y1.1] := by rw [hx]; rfl
    rw [hz]
    simp only [DataW.weights, Try.underlying41]
    show n ∈ DataW.weightsEach Try.prog [4, 39] [y0.1, y1.1]
    simp only [DataW.weightsEach, List.append_nil, List.mem_append]
    exact .inr hn)
   exact ⟨⟨k, c1, l⟩, rfl, hl⟩
end
end
end Go.Proofs.Ytikdcmplihgdcaa
