import Derived.Test.YtbelkhkllneifaaGreatDoorWEAP
import Derived.Test.YtbelkhkllneifaaGreatDoorWEAS
import Derived.Test.YtbelkhkllneifaaGreatDoorWEAR
import Derived.Test.YtbelkhkllneifaaGreatDoorWEBA
import Derived.Deep.RegionHeld3
import Derived.Test.YtbelkhkllneifaaGreatDoorWEAL
import Derived.Shelf.Abstract
import Derived.Shelf.RegionOpen
import Derived.OwnWalkIn
import Derived.TacticsInMore
import Derived.LoopNIn
import Derived.LoopIn
import Derived.BigQuiet
import Derived.Test.YtbelkhkllneifaaGreatDoorBlay
import Derived.Test.YtbelkhkllneifaaGreatDoorWEAC
import Derived.Test.YtbelkhkllneifaaGreatDoorWEAD
import Derived.Lib.Hide
import Derived.Test.YtbelkhkllneifaaGreatDoorWEAT
import Derived.Test.YtbelkhkllneifaaGreatDoorWEAX
import Derived.Test.YtbelkhkllneifaaGreatDoorWEAQ
namespace Go.Proofs.YtbelkhkllneifaaGreatDoor
section
open Go.RowKit
theorem Zn.geq (x : Int) : decide (0 ≤ x) = !decide (x < 0) := by
 rw [Bool.eq_iff_iff, Bool.not_eq_true', decide_eq_true_iff, decide_eq_false_iff_not]
 omega
set_option maxHeartbeats 1000000 in
set_option maxRecDepth 100000 in
theorem Zn.rholds_c (a : Zn.As) (v : Kn.V) (ha : Kn.Z a.v) (hv : Kn.Z v) (w : World) : Calls Tryz.prog 54 #[a.val, v.val] w fun e w' => e = .returned (.bool (Zn.holds a v)) ∧ Below w.heap.size w w' := by
 obtain ⟨⟨a0, a1, a2, a3, a4⟩, ⟨v0, v1, v2⟩, hb⟩ := Zn.boxedA w a v 54 33
 have cC := Kn.rCompare_c v a.v hv ha
 have cA := Kn.rAhead_c v a.v hv ha
 clear ha hv
 obtain ⟨op, col, ⟨an, ai, sa⟩⟩ := a
 obtain ⟨vn, vi, sv⟩ := v
 unfold Kn.V.val at cC cA
 simp only at a0 a1 a2 a3 a4 v0 v1 v2 hb cC cA
 unfold Kn.V.val
 have HB := Lib.hid hb
 have HC : Hid (∀ w, _) := Lib.hid cC
 have HA : Hid (∀ w, _) := Lib.hid cA
 clear hb cC cA
 rcases Zn.ops op with rfl | rfl | rfl | rfl | rfl | rfl | ⟨h0, h1, h2, h3, h4, h5, n0, n1, n2, n3, n4, n5⟩
 ·have hB : Zn.holds ⟨0, col, ⟨an, ai, sa⟩⟩ ⟨vn, vi, sv⟩ = true := by simp [Zn.holds]
  rw [hB]
  clear hB
  cases vn <;> cases an
  all_goals
   go_enter Tryz.func54, Tryz.ntmps54
   go_wp2
   go_ret
   exact ⟨rfl, HB.out⟩
 ·have hB : Zn.holds ⟨4, col, ⟨an, ai, sa⟩⟩ ⟨vn, vi, sv⟩ = vn := by simp [Zn.holds]
  rw [hB]
  clear hB
  cases vn <;> cases an
  all_goals
   go_enter Tryz.func54, Tryz.ntmps54
   go_wp2
   go_ret
   exact ⟨rfl, HB.out⟩
 ·have hB : Zn.holds ⟨5, col, ⟨an, ai, sa⟩⟩ ⟨vn, vi, sv⟩ = !vn := by simp [Zn.holds]
  rw [hB]
  clear hB
  cases vn <;> cases an
  all_goals
   go_enter Tryz.func54, Tryz.ntmps54
   go_wp2
   go_ret
   exact ⟨rfl, HB.out⟩
 ·cases vn <;> cases an
  ·have hB : Zn.holds ⟨1, col, ⟨false, ai, sa⟩⟩ ⟨false, vi, sv⟩ = (Kn.cmp ⟨false, vi, sv⟩ ⟨false, ai, sa⟩ == 0) := by simp [Zn.holds]
   rw [hB]
   clear hB
   go_enter Tryz.func54, Tryz.ntmps54
   go_wp2_with fail
   with_reducible refine (HC.out _).mono ?_
   rintro e w1 ⟨rfl, g1⟩
   go_wp2
   go_ret
   exact ⟨rfl, HB.out.trans (g1.mono HB.out.size)⟩
  all_goals
   have hB : ∀ x y, x = true ∨ y = true → Zn.holds ⟨1, col, ⟨x, ai, sa⟩⟩ ⟨y, vi, sv⟩ = false := by intro x y h; cases x <;> cases y <;> simp [Zn.holds] at h ⊢
   rw [hB _ _ (by decide)]
   clear hB
   go_enter Tryz.func54, Tryz.ntmps54
   go_wp2
   go_ret
   exact ⟨rfl, HB.out⟩
 ·cases vn <;> cases an
  ·have hB : Zn.holds ⟨2, col, ⟨false, ai, sa⟩⟩ ⟨false, vi, sv⟩ = (decide (Kn.cmp ⟨false, vi, sv⟩ ⟨false, ai, sa⟩ < 0)) := by simp [Zn.holds]
   rw [hB]
   clear hB
   go_enter Tryz.func54, Tryz.ntmps54
   go_wp2_with fail
   with_reducible refine (HA.out _).mono ?_
   rintro e w1 ⟨rfl, g1⟩
   go_wp2
   go_ret
   exact ⟨rfl, HB.out.trans (g1.mono HB.out.size)⟩
  all_goals
   have hB : ∀ x y, x = true ∨ y = true → Zn.holds ⟨2, col, ⟨x, ai, sa⟩⟩ ⟨y, vi, sv⟩ = false := by intro x y h; cases x <;> cases y <;> simp [Zn.holds] at h ⊢
   rw [hB _ _ (by decide)]
   clear hB
   go_enter Tryz.func54, Tryz.ntmps54
   go_wp2
   go_ret
   exact ⟨rfl, HB.out⟩
 ·cases vn <;> cases an
  ·have hB : Zn.holds ⟨3, col, ⟨false, ai, sa⟩⟩ ⟨false, vi, sv⟩ = (!decide (Kn.cmp ⟨false, vi, sv⟩ ⟨false, ai, sa⟩ < 0)) := by rw [← Zn.geq]; simp [Zn.holds]
   rw [hB]
   clear hB
   go_enter Tryz.func54, Tryz.ntmps54
   go_wp2_with fail
   with_reducible refine (HA.out _).mono ?_
   rintro e w1 ⟨rfl, g1⟩
   go_wp2
   go_ret
   exact ⟨rfl, HB.out.trans (g1.mono HB.out.size)⟩
  all_goals
   have hB : ∀ x y, x = true ∨ y = true → Zn.holds ⟨3, col, ⟨x, ai, sa⟩⟩ ⟨y, vi, sv⟩ = false := by intro x y h; cases x <;> cases y <;> simp [Zn.holds] at h ⊢
   rw [hB _ _ (by decide)]
   clear hB
   go_enter Tryz.func54, Tryz.ntmps54
   go_wp2
   go_ret
   exact ⟨rfl, HB.out⟩
 ·have hB : Zn.holds ⟨op, col, ⟨an, ai, sa⟩⟩ ⟨vn, vi, sv⟩ = false := by simp [Zn.holds, n0, n1, n2, n3, n4, n5]
  rw [hB]
  clear hB n0 n1 n2 n3 n4 n5
  cases vn <;> cases an
  all_goals
   go_enter Tryz.func54, Tryz.ntmps54
   go_wp2
   go_ret
   exact ⟨rfl, HB.out⟩
end
section
open Go.RowKit
structure Rn.Rws (w : World) (v : Value) (Q : List (List Kn.V)) : Prop where
 is : ∃ a c, v = .slice a Q.length c ∧ (Q = [] ∨ ∃ b o, a = some ⟨b, o, none⟩ ∧ b < w.heap.size ∧ ∀ i x, Q[i]? = some x → ∃ u, w.cell? ⟨b, o + i, none⟩ = some u ∧ Kn.Vals w u x)
theorem Rn.Rws.later {w w' : World} {v : Value} {Q : List (List Kn.V)} (h : Rn.Rws w v Q) (g : Below w.heap.size w w') : Rn.Rws w' v Q := by
 obtain ⟨a, c, hv, h⟩ := h
 refine ⟨a, c, hv, ?_⟩
 rcases h with h | ⟨b, o, ha, hb, h⟩
 ·exact .inl h
 ·refine .inr ⟨b, o, ha, Nat.lt_of_lt_of_le hb g.size, fun i x hx => ?_⟩
  obtain ⟨u, c0, hu⟩ := h i x hx
  exact ⟨u, (g.cell (p := ⟨b, o + i, none⟩) hb).trans c0, hu.later g⟩
def Rn.fr (R : Nat → Option Addr × Nat × Nat) (k : Nat) (_ : Dd.D) : Option Addr × Nat × Nat := R k
theorem Rn.own_rws {base : Nat} {w : World} {u : Value} {L : List Dd.D} {R : Nat → Option Addr × Nat × Nat} {p : Dd.D → Bool} (h : Dk.Own 39 1 Bk.e1 base w u (Rn.il p (Rn.fr R) 0 L)) (hr : ∀ i x, L[i]? = some x → Kn.Vals w (Bk.sv (R i)) x.row) : Rn.Rws w u ((L.filter p).map Dd.D.row) := by
 have hl := Rn.il_len p (Rn.fr R) 0 L
 rcases h.form with ⟨rfl, h0⟩ | ⟨g, c, rfl, h1, h2, _, h4⟩
 ·rw [h0] at hl
  have : L.filter p = [] := List.eq_nil_of_length_eq_zero hl.symm
  rw [this]
  exact ⟨none, 0, rfl, .inl rfl⟩
 ·refine ⟨_, c, by rw [hl, List.length_map], .inr ⟨g, 0, rfl, h4, fun i x hx => ?_⟩⟩
  rw [List.getElem?_map, Option.map_eq_some_iff] at hx
  obtain ⟨d, hd, rfl⟩ := hx
  obtain ⟨j, hj, hi⟩ := Rn.il_at p (Rn.fr R) 0 L i d hd
  have c0 := h.cell Bk.e1_len rfl hi (j := 0) (by decide)
  rw [Nat.zero_add]
  rw [Nat.zero_add, Nat.mul_one, Nat.add_zero] at c0
  exact ⟨Bk.sv (R j), c0, hr j d hj⟩
set_option maxHeartbeats 4000000 in
set_option maxRecDepth 100000 in
theorem Rn.rsamerows_c (u v : Value) (Q : List (List Kn.V)) (w : World) (hu : Rn.Rws w u Q) (hv : Rn.Rws w v Q) (hl : Q.length ≤ 1048576) :
 Calls Tryz.prog 23 #[u, v] w fun e w' => e = .returned (.bool true) ∧ Below w.heap.size w w' := by
 obtain ⟨a, c, rfl, h⟩ := hu
 obtain ⟨a2, c2, rfl, h2⟩ := hv
 have HH := Lib.hid h
 have HH2 := Lib.hid h2
 have HL := Lib.hid hl
 clear h h2 hl
 go_enter Tryz.func23, Tryz.ntmps23
 go_wp2_with fail
 go_loopw [5] (fun i wr => ∃ k : Nat, k ≤ Q.length ∧ i = .int .i64 k ∧ Below w.heap.size w wr) (fun i _ => Q.length - (intOf i).toNat)
 case atStart => exact ⟨0, Nat.zero_le _, rfl, Below.refl _ _⟩
 case round =>
  obtain ⟨k, hk, rfl, hB⟩ := hrel
  have HB := Lib.hid hB
  by_cases hkl : k < Q.length
  ·rcases HH.out with rfl | ⟨b, o, rfl, hlt, hc⟩
   ·simp at hkl
   rcases HH2.out with rfl | ⟨b2, o2, rfl, hlt2, hc2⟩
   ·simp at hkl
   have hx := List.getElem?_eq_getElem hkl
   generalize Q[k] = x at hx
   obtain ⟨u1, c0, hu1⟩ := hc k x hx
   obtain ⟨u2, d0, hu2⟩ := hc2 k x hx
   have c0 := (hB.cell (p := ⟨b, o + k, none⟩) hlt).trans c0
   have d0 := (hB.cell (p := ⟨b2, o2 + k, none⟩) hlt2).trans d0
   have HU1 := Lib.hid (hu1.later hB)
   have HU2 := Lib.hid (hu2.later hB)
   have CA : Hid (∀ p : Regrown, _) := Lib.hid fun p : Regrown => Calls.regrown_of (d := p.d) (os := p.os) (w := wr) ((Kn.rsame_c u1 u2 x x _ (HU1.out.later (below_regrown wr p.d p.os)) (HU2.out.later (below_regrown wr p.d p.os))).mono fun e w' ⟨he, n, hn⟩ => (⟨he, by rw [hn]; exact Bt.drewN_below _ n⟩ : e = _ ∧ Below _ _ w'))
   rw [Kn.sameR_self] at CA
   obtain ⟨e1, f1, rfl, -⟩ := hu1
   obtain ⟨e2, f2, rfl, -⟩ := hu2
   have C0 := fun d os => cell_regrown c0 d os
   have D0 := fun d os => cell_regrown d0 d os
   have dk : (k : Int) < (Q.length : Int) := by omega
   have dk0 : (0 : Int) ≤ (k : Int) := by omega
   have dk7 : (k : Int) ≤ 1048576 := by have := HL.out; omega
   have HK := Lib.hid hkl
   clear hc hc2 hx c0 d0 hkl hk hB hlt hlt2
   go_upto_region 6 with (fail)
   refine wp_region_quiet_below (by kernel_rfl) (by kernel_rfl) ?_
   repeat (go_big_quiet_step (first | with_reducible exact CA.out _))
   refine wpQuiet_nil ?_
   intro w5 hw'
   have HB5 := Lib.hid (HB.out.trans ((Bk.below_reg hw').mono HB.out.size))
   clear hw'
   go_wp2
   go_roundw
   case rel => exact ⟨k + 1, HK.out, by simp, HB5.out⟩
   case measure => (have := HK.out; simp [intOf]; omega)
  ·obtain rfl : k = Q.length := by omega
   have dk : ¬ (Q.length : Int) < (Q.length : Int) := by omega
   clear hk hkl hB
   go_wp2
   go_ret
   exact ⟨rfl, HB.out⟩
end
section
open Go Go.RowKit Go.Shelf
theorem Rn.hold_lk {s : List Kn.C} {L : List Dd.D} (hg : Rn.Gd s L) (r : Kn.R) (a : Zn.As) : ((Rn.lk s L r a (Rn.nb L.length)).map fun i => Rn.hold (Rn.bk L i) r a).flatten = Rn.hold L r a := by
 rw [Rn.hold_flat]
 unfold Rn.lk Rn.blocks
 rw [List.map_map]
 have : ∀ l : List Nat, (∀ i ∈ l, i < Rn.nb L.length) → ((l.filter (Rn.look s L r a)).map fun i => Rn.hold (Rn.bk L i) r a).flatten = (l.map ((fun b => Rn.hold b r a) ∘ Rn.bk L)).flatten := by
  intro l
  induction l with
  | nil => intro _; rfl
  | cons i l ih =>
    intro h
    have ih := ih fun j hj => h j (List.mem_cons_of_mem _ hj)
    rw [List.filter_cons, List.map_cons, List.flatten_cons, ← ih]
    cases hl : Rn.look s L r a i
    ·rw [if_neg (by decide)]
     have e : ((fun b => Rn.hold b r a) ∘ Rn.bk L) i = [] := Rn.skip hg.ft hg.rt (h i List.mem_cons_self) hl
     rw [e, List.nil_append]
    ·rw [if_pos rfl, List.map_cons, List.flatten_cons]
     rfl
 exact this _ fun i hi => List.mem_range.1 hi
theorem Rn.lk_look {s : List Kn.C} {L : List Dd.D} {r : Kn.R} {a : Zn.As} {k i : Nat} (h : i ∈ Rn.lk s L r a k) : i < k ∧ 0 ≤ a.col ∧ a.col < (s.length : Int) := by
 unfold Rn.lk at h
 obtain ⟨h1, h2⟩ := List.mem_filter.1 h
 unfold Rn.look at h2
 rw [Bool.and_eq_true, Bool.and_eq_true, decide_eq_true_iff] at h2
 exact ⟨List.mem_range.1 h1, h2.1.1⟩
theorem Rn.hold_next {K : List Dd.D} {r : Kn.R} {a : Zn.As} {k : Nat} {x : Dd.D} (hx : K[k]? = some x) : Rn.hold (K.take (k + 1)) r a = Rn.hold (K.take k) r a ++ if Rn.holds r a x = true then [x.row] else [] := by
 obtain ⟨h1, rfl⟩ := List.getElem?_eq_some_iff.1 hx
 unfold Rn.hold
 rw [List.take_succ_eq_append_getElem h1, List.filter_append, List.map_append]
 congr 1
 rw [List.filter_cons]
 split <;> rfl
structure Rn.Gr (D : Nat → Prop) (w3 : World) (bb B n0 : Nat) (Q : List (List Kn.V)) (W : World) : Prop where
 kd : Rn.Kd D w3 W
 acc : ∃ v M, W.heap[bb]? = some (.cells #[v] 58 (0, 0)) ∧ Dk.Own 39 1 Bk.e1 B W v M ∧ M.length = Q.length ∧ ∀ (i : Nat) (x : List Kn.V), Q[i]? = some x → ∃ y : Option Addr × Nat × Nat, M[i]? = some y ∧ Sk.Rw n0 W (Bk.sv y) x
theorem Rn.Gr.own {D : Nat → Prop} {bb B n0 C : Nat} {w3 : World} (hD : ∀ b, D b → b < C) (Q : List (List Kn.V)) : OwnFrom C fun (_ : Unit) W => Rn.Gr D w3 bb B n0 Q W := by
 rintro _ A' B' row ⟨h1, v, M, h2, h3, h4, h5⟩ hg hr
 refine ⟨h1.grew hD hg hr, v, M, Rn.blk_own h2 hg hr, Rn.own_own C _ _ _ () _ _ row h3 hg hr, h4, fun i x hx => ?_⟩
 obtain ⟨y, e1, e2⟩ := h5 i x hx
 exact ⟨y, e1, Rn.own_own C _ _ _ () _ _ row e2 hg hr⟩
theorem Rn.Gr.step {D : Nat → Prop} {bb B n0 C : Nat} {w3 W w6 : World} {Q : List (List Kn.V)} {v v6 : Value} {M : List (Option Addr × Nat × Nat)} {x : List Kn.V} {y : Option Addr × Nat × Nat} (hDB : ∀ b, D b → b < B ∧ b ≠ bb)
 (h1 : Rn.Kd D w3 W) (h2 : W.heap[bb]? = some (.cells #[v] 58 (0, 0))) (h3 : Dk.Own 39 1 Bk.e1 B W v M) (h4 : M.length = Q.length)
 (h5 : ∀ (i : Nat) (x : List Kn.V), Q[i]? = some x → ∃ y : Option Addr × Nat × Nat, M[i]? = some y ∧ Sk.Rw n0 W (Bk.sv y) x)
 (ho : Dk.Own 39 1 Bk.e1 B w6 v6 (M ++ [y])) (hg : Ty.Grew W w6 v v6) (hx : Sk.Rw n0 W (Bk.sv y) x) :
 KeepsFrom C W (w6.setCell ⟨bb, 0, none⟩ v6) ∧ Rn.Kd D W (w6.setCell ⟨bb, 0, none⟩ v6) ∧ Rn.Gr D w3 bb B n0 (Q ++ [x]) (w6.setCell ⟨bb, 0, none⟩ v6) := by
 have off : ∀ (b : Nat) (cs : Array Value) (T : TypeId), W.heap[b]? = some (.cells cs T (0, 0)) → T ≠ 39 → w6.heap[b]? = W.heap[b]? := fun b cs T hb hT => Rn.off h3 hg hb hT
 have rows : ∀ (u : Value) (r : List Kn.V), Sk.Rw n0 W u r → Sk.Rw n0 (w6.setCell ⟨bb, 0, none⟩ v6) u r := fun u r h => h.same fun b hb => by
  obtain ⟨cs, hc⟩ := h.typed b hb
  refine (heap_setCell_other w6 ⟨bb, 0, none⟩ b v6 fun e => ?_).trans (off b cs _ hc (by decide))
  have e9 : b = bb := e
  rw [e9, h2] at hc
  simp only [Option.some.injEq, Obj.cells.injEq] at hc
  exact absurd hc.2.1 (by decide)
 have hb6 := (off bb _ _ h2 (by decide)).trans h2
 have hk : Rn.Kd D W (w6.setCell ⟨bb, 0, none⟩ v6) := (Rn.Kd.grown hg.by_ fun r hr hd => by
  have hB := h3.base_le r (by first | exact hr | exact hr.symm)
  have := (hDB r hd).1
  omega).trans (Rn.Kd.set _ (fun hd => (hDB bb hd).2 rfl) _)
 refine ⟨(Rn.kf_grew h3 hg).trans ((KeepsOthers.setCell _ _ _).from _), hk, h1.trans hk, v6, M ++ [y], heap_setCell_same w6 bb 0 _ _ _ hb6, ?_, by rw [List.length_append, List.length_append, h4]; rfl, fun i z hz => ?_⟩
 ·refine ho.same fun b hb => heap_setCell_other w6 ⟨bb, 0, none⟩ b v6 fun e => ?_
  obtain ⟨cs, hc⟩ := ho.typed b hb
  have e9 : b = bb := e
  rw [e9, hb6] at hc
  simp only [Option.some.injEq, Obj.cells.injEq] at hc
  exact absurd hc.2.1 (by decide)
 ·rw [List.getElem?_append] at hz
  rw [List.getElem?_append, h4]
  split at hz
  ·rename_i hlt
   rw [if_pos hlt]
   obtain ⟨u, e1, e2⟩ := h5 i z hz
   exact ⟨u, e1, rows _ _ e2⟩
  ·rename_i hlt
   rw [if_neg hlt]
   rw [List.getElem?_singleton] at hz ⊢
   split at hz
   ·rename_i h0
    rw [if_pos h0]
    obtain rfl := Option.some.inj hz
    exact ⟨_, rfl, rows _ _ hx⟩
   ·cases hz
theorem Rn.Gr.rws {B n0 : Nat} {W : World} {Q : List (List Kn.V)} {v : Value} {M : List (Option Addr × Nat × Nat)} (h3 : Dk.Own 39 1 Bk.e1 B W v M) (h4 : M.length = Q.length)
 (h5 : ∀ (i : Nat) (x : List Kn.V), Q[i]? = some x → ∃ y : Option Addr × Nat × Nat, M[i]? = some y ∧ Sk.Rw n0 W (Bk.sv y) x) : Rn.Rws W v Q := by
 rcases h3.form with ⟨rfl, e⟩ | ⟨g, c, rfl, hc, hm, _, hgw⟩
 ·rw [e] at h4
  have : Q = [] := List.eq_nil_of_length_eq_zero h4.symm
  subst this
  exact ⟨none, 0, rfl, .inl rfl⟩
 ·refine ⟨_, c, by rw [h4], .inr ⟨g, 0, rfl, hgw, fun i x hx => ?_⟩⟩
  obtain ⟨y, e1, e2⟩ := h5 i x hx
  have c0 := h3.cell Bk.e1_len rfl e1 (j := 0) (by decide)
  rw [Nat.zero_add]
  refine ⟨Bk.sv y, ?_, Rn.rw_vals e2⟩
  rw [show (⟨g, i, none⟩ : Addr) = ⟨g, i * 1 + 0, none⟩ by rw [Nat.mul_one, Nat.add_zero], c0]
  rfl
end
section
open Go Go.RowKit
end
section
open Go Go.RowKit Go.Shelf
attribute [local go_sem] Oper.semAt_some
def Rn.ck (b o n k : Nat) : Option Addr × Nat × Nat := (some ⟨b, o + 8 * k * 2, none⟩, min 8 (n - 8 * k), min 8 (n - 8 * k))
def Rn.cks (b o n j : Nat) : List (Option Addr × Nat × Nat) := (List.range j).map (Rn.ck b o n)
theorem Rn.cks_next (b o n j : Nat) : Rn.cks b o n (j + 1) = Rn.cks b o n j ++ [Rn.ck b o n j] := by
 unfold Rn.cks
 rw [List.range_succ, List.map_append]
 rfl
theorem Rn.cks_len (b o n j : Nat) : (Rn.cks b o n j).length = j := by unfold Rn.cks; simp
theorem Rn.cks_pre {b o n : Nat} {i j : Nat} (h : i ≤ j) : Rn.cks b o n i <+: Rn.cks b o n j := by
 induction j with
 | zero => obtain rfl : i = 0 := by omega
           exact List.prefix_refl _
 | succ j ih =>
   rcases Nat.lt_or_ge i (j + 1) with h1 | h1
   ·rw [Rn.cks_next]
    exact (ih (by omega)).trans (List.prefix_append _ _)
   ·obtain rfl : i = j + 1 := by omega
    exact List.prefix_refl _
theorem Rn.cks_at {b o n j : Nat} {pre : List (Option Addr × Nat × Nat)} {x : Option Addr × Nat × Nat} (h : pre ++ [x] <+: Rn.cks b o n j) : pre.length < j ∧ x = Rn.ck b o n pre.length := by
 obtain ⟨r, h⟩ := h
 have hl := congrArg List.length h
 rw [Rn.cks_len, List.length_append, List.length_append, List.length_singleton] at hl
 have hp : pre.length < j := by omega
 have hx := congrArg (fun l => l[pre.length]?) h
 rw [List.append_assoc, List.getElem?_append_right (Nat.le_refl _), Nat.sub_self] at hx
 unfold Rn.cks at hx
 rw [List.getElem?_map, List.getElem?_range hp] at hx
 exact ⟨hp, by simpa using hx⟩
set_option maxHeartbeats 1000000 in
set_option maxRecDepth 100000 in
theorem Rn.chunk_c {w : World} (a : Option Addr) (n c m : Nat) (hm : m = w.heap.size) :
 Calls Tryz.prog 67 #[.slice a n c, .int .i64 8] w fun e w' => e = .returned (.func (.func 96) #[] #[.pointer (some ⟨m, 0, none⟩), .pointer (some ⟨m + 1, 0, none⟩)]) ∧
  w'.cell? ⟨m, 0, none⟩ = some (.slice a n c) ∧ w'.cell? ⟨m + 1, 0, none⟩ = some (.int .i64 8) ∧ Below w.heap.size w w' ∧ w'.heap.size = m + 2 := by
 subst hm
 have HC : Hid (((w.alloc (.cells #[.slice a n c] 23)).alloc (.cells #[.int .i64 8] 3)).cell? ⟨w.heap.size, 0, none⟩ = some (.slice a n c) ∧
  ((w.alloc (.cells #[.slice a n c] 23)).alloc (.cells #[.int .i64 8] 3)).cell? ⟨w.heap.size + 1, 0, none⟩ = some (.int .i64 8)) := Lib.hid (by
  refine ⟨?_, ?_⟩
  ·exact (((Below.refl _ (w.alloc (.cells #[.slice a n c] 23))).alloc (Nat.le_refl _) _).cell (p := ⟨w.heap.size, 0, none⟩) (by simp)).trans (Kn.cell_new w _ _ 0 _ rfl)
  ·have := Kn.cell_new (w.alloc (.cells #[.slice a n c] 23)) #[.int .i64 8] 3 0 _ rfl
   rwa [World.size_alloc] at this)
 have x1 := HC.out.2
 go_enter Tryz.func67, Tryz.ntmps67
 go_wp2
 go_ret
 exact ⟨rfl, HC.out.1, HC.out.2, ((Below.refl _ w).alloc (Nat.le_refl _) _).alloc (by simp) _, by simp⟩
set_option maxHeartbeats 4000000 in
set_option maxRecDepth 100000 in
theorem Rn.chunk1_seq {w : World} {D : Nat → Prop} {b o n c bs bn : Nat} (c1 : w.cell? ⟨bs, 0, none⟩ = some (.slice (some ⟨b, o, none⟩) n c)) (c2 : w.cell? ⟨bn, 0, none⟩ = some (.int .i64 8)) (h1 : D bs) (h2 : D bn) (hc : n ≤ c) (hn : n ≤ 1048576) :
 Rn.Seq Tryz.prog 96 #[.pointer (some ⟨bs, 0, none⟩), .pointer (some ⟨bn, 0, none⟩)] (fun x args _ => args = #[Bk.sv x]) D (Rn.cks b o n (Rn.nb n)) w := by
 intro l J Jx W hW hJ hJx hY h0
 have l1 := World.block_lt_of_cell? w _ c1
 have l2 := World.block_lt_of_cell? w _ c2
 have d1 := (hW.cell (p := ⟨bs, 0, none⟩) l1).trans c1
 have d2 := (hW.cell (p := ⟨bn, 0, none⟩) l2).trans c2
 have HC : Hid (∀ W', Rn.Kd D W W' → W'.cell? ⟨bs, 0, none⟩ = some (.slice (some ⟨b, o, none⟩) n c) ∧ W'.cell? ⟨bn, 0, none⟩ = some (.int .i64 8)) := Lib.hid fun W' g =>
  ⟨(World.cell?_of_block (g.same bs h1 (World.block_lt_of_cell? W _ d1))).trans d1, (World.cell?_of_block (g.same bn h2 (World.block_lt_of_cell? W _ d2))).trans d2⟩
 have HY := Lib.hid hY
 have HJ0 := Lib.hid h0
 have HJA := Lib.hid hJ
 have HN := Lib.hid (And.intro hc hn)
 clear c1 c2 h1 h2 hW hJ hJx hY h0 l1 l2 d1 d2 hc hn
 refine callsIn_of_wp Tryz.func96 rfl trivial ?_ rfl
 simp only [Tryz.ntmps96, List.size_toArray, List.length_cons, List.length_nil, Nat.reduceAdd, Nat.reduceSub, Array.replicate_succ, Array.replicate_zero, List.push_toArray, List.append_toArray, List.nil_append, List.cons_append]
 gi_wp2
 gi_loopw [4] (fun at_ wr => ∃ k p : Nat, p = 8 * k ∧ k ≤ Rn.nb n ∧ at_ = .int .i64 p ∧ J (Rn.cks b o n k) wr ∧ Rn.Kd D W wr)
  (fun at_ _ => n - (intOf at_).toNat)
 case atStart => exact ⟨0, 0, rfl, Nat.zero_le _, rfl, HJ0.out, Rn.Kd.below (Below.refl _ _)⟩
 case round =>
  obtain ⟨k, p, hp, hk, rfl, hj, hkd⟩ := hrel
  have HP := Lib.hid (And.intro hp hk)
  have HJ := Lib.hid hj
  have HKD := Lib.hid hkd
  obtain ⟨e1, e2⟩ := HC.out wr hkd
  clear HJ0 hj hkd hp hk
  by_cases hl : p < n
  ·have hpl : (p : Int) < (n : Int) := by omega
   have hp0 : (0 : Int) ≤ (p : Int) := by omega
   have hp7 : (n : Int) ≤ 1048576 := by have := HN.out.2; omega
   have hnc : (n : Int) ≤ (c : Int) := by have := HN.out.1; omega
   have HK : Hid (k < Rn.nb n) := Lib.hid (by have := HP.out.1; unfold Rn.nb; omega)
   have HKL := Lib.hid hl
   have HX : Hid (Rn.cks b o n (k + 1) = Rn.cks b o n k ++ [Rn.ck b o n k] ∧ Rn.cks b o n k ++ [Rn.ck b o n k] <+: Rn.cks b o n (Rn.nb n)) := Lib.hid ⟨Rn.cks_next .., by rw [← Rn.cks_next]; exact Rn.cks_pre HK.out⟩
   have HM : Hid (∃ e : Nat, (e : Int) = min 8 ((n : Int) - p) ∧ Rn.ck b o n k = (some ⟨b, o + p * 2, none⟩, e, e) ∧ 1 ≤ e ∧ p + e ≤ n ∧ e ≤ 8 ∧ (p + 8 ≤ n → e = 8) ∧ (n < p + 8 → e = n - p)) := Lib.hid (by
    have := HP.out.1
    refine ⟨min 8 (n - p), by omega, by unfold Rn.ck; rw [this], by omega, by omega, by omega, by omega, by omega⟩)
   obtain ⟨e, he, hek, he1, hen, he8, heA, heB⟩ := HM.out
   have HEK := Lib.hid hek
   clear hl
   have hY9 : ∀ W3, Below wr.heap.size wr W3 → ∃ fn tmps assign body, (Instr.yield l #[.slice (some ⟨b, o + p * 2, none⟩) e e]).run Tryz.prog W3 = .ok (.round l fn tmps assign body) W3 ∧ RoundIn Fence.wide 7 Tryz.prog l fn tmps assign body W3 fun x W' => (x = .returned (.bool true) ∧ J (Rn.cks b o n (k + 1)) W' ∧ Rn.Kd D W W') ∨ (x = .returned (.bool false) ∧ Jx (Rn.cks b o n (k + 1)) W') := fun W3 g => by
    have hk3 : Rn.Kd D W W3 := HKD.out.trans (Rn.Kd.below g)
    obtain ⟨fn, tmps, assign, body, hy, hR⟩ := HY.out (Rn.cks b o n k) (Rn.ck b o n k) _ W3 (Rn.own_below HJA.out HJ.out g) rfl hk3 HX.out.2
    rw [HEK.out] at hy
    rw [← HX.out.1] at hR
    refine ⟨fn, tmps, assign, body, hy, hR.mono ?_⟩
    rintro x W' (⟨rfl, j3, k3⟩ | ⟨rfl, j3⟩)
    ·exact .inl ⟨rfl, j3, hk3.trans k3⟩
    ·exact .inr ⟨rfl, j3⟩
   have HY9 := Lib.hid hY9
   clear hY9 hek
   by_cases h8 : p + 8 ≤ n
   ·obtain rfl : e = 8 := heA h8
    have hm8 : (8 : Int) ≤ (n : Int) - (p : Int) := by omega
    have hmA : min (8 : Int) ((n - p : Nat) : Int) = 8 := by omega
    have h9 : (p : Int) + 8 ≤ (n : Int) := by omega
    have h10 : (p : Int) + 8 ≤ (c : Int) := by omega
    clear heA heB he h8 he1 hen he8
    gi_wp2
    refine wpIn_wide.2 ?_
    go_quiet (fail)
    have g3 : Below wr.heap.size wr (wr.drewN nq) := Bt.drewN_below _ _
    obtain ⟨f1, f2⟩ := HC.out (wr.drewN nq) (HKD.out.trans (Rn.Kd.below g3))
    obtain ⟨fn, tmps, assign, body, hy, hR⟩ := HY9.out _ g3
    generalize wr.drewN nq = w3 at f1 f2 hy hR ⊢
    clear g3 e1 e2
    gi_wp2
    refine hR.mono ?_
    rintro x W3 (⟨rfl, j3, k3⟩ | ⟨rfl, j3⟩)
    ·have HJ3 := Lib.hid j3
     have HK3 := Lib.hid k3
     obtain ⟨e1, e2⟩ := HC.out W3 k3
     clear j3 k3 hy hR f1 f2
     gi_wp2
     go_roundw
     case rel => exact ⟨k + 1, p + 8, by have := HP.out.1; omega, HK.out, by simp, HJ3.out, HK3.out⟩
     case measure => have := HKL.out; simp [intOf]; omega
    ·have HJ3 := Lib.hid j3
     clear j3 hy hR f1 f2
     gi_wp2
     refine bodyPost_ret (results_none rfl _ _ _) rfl ?_
     exact ⟨⟨_, rfl⟩, .inr ⟨Rn.cks b o n (k + 1), Rn.cks_pre HK.out, by rw [HX.out.1]; simp, HJ3.out⟩⟩
   ·obtain rfl : e = n - p := heB (by omega)
    have hm8 : ¬ (8 : Int) ≤ (n : Int) - (p : Int) := by omega
    have hmA : min (8 : Int) ((n - p : Nat) : Int) = ((n - p : Nat) : Int) := by omega
    have hmC : (p : Int) + ((n - p : Nat) : Int) = (n : Int) := by omega
    have hm9 : (n : Int) - (p : Int) < 8 := by omega
    clear heA heB he h8 he1 hen he8
    gi_wp2
    refine wpIn_wide.2 ?_
    go_quiet (fail)
    have g3 : Below wr.heap.size wr (wr.drewN nq) := Bt.drewN_below _ _
    obtain ⟨f1, f2⟩ := HC.out (wr.drewN nq) (HKD.out.trans (Rn.Kd.below g3))
    obtain ⟨fn, tmps, assign, body, hy, hR⟩ := HY9.out _ g3
    generalize wr.drewN nq = w3 at f1 f2 hy hR ⊢
    clear g3 e1 e2
    gi_wp2
    refine hR.mono ?_
    rintro x W3 (⟨rfl, j3, k3⟩ | ⟨rfl, j3⟩)
    ·have HJ3 := Lib.hid j3
     have HK3 := Lib.hid k3
     obtain ⟨e1, e2⟩ := HC.out W3 k3
     clear j3 k3 hy hR f1 f2
     gi_wp2
     go_roundw
     case rel => exact ⟨k + 1, p + 8, by have := HP.out.1; omega, HK.out, by simp, HJ3.out, HK3.out⟩
     case measure => have := HKL.out; simp [intOf]; omega
    ·have HJ3 := Lib.hid j3
     clear j3 hy hR f1 f2
     gi_wp2
     refine bodyPost_ret (results_none rfl _ _ _) rfl ?_
     exact ⟨⟨_, rfl⟩, .inr ⟨Rn.cks b o n (k + 1), Rn.cks_pre HK.out, by rw [HX.out.1]; simp, HJ3.out⟩⟩
  ·obtain rfl : k = Rn.nb n := by have := HP.out; unfold Rn.nb at this ⊢; omega
   have hpl : ¬ (p : Int) < (n : Int) := by omega
   clear hl
   gi_wp2
   go_end0
   exact ⟨⟨_, rfl⟩, .inl HJ.out⟩
end
section
open Go Go.RowKit Go.Shelf
theorem Rn.bSize : (Tryz.prog.info? 124).map (·.size) = some 2 := by kernel_rfl
theorem Rn.bLies : liesAt Tryz.prog Tryz.prog.depth 124 (2 / Tryz.prog.cellsOf 124) 0 124 1 = true := by kernel_rfl
theorem Rn.bInfo : (Tryz.prog.info? 5).map (fun i => (i.zero, i.size, i.bytes)) = some (some (.int .u8 0), 1, 1) := by kernel_rfl
set_option maxRecDepth 100000 in
theorem Rn.bExtra : Builder.Extra Tryz.prog Tryz.bstringL_ren where
 sizeBuilder := Rn.bSize
 liesBuilder := Rn.bLies
 t5 := Tryz.underlying5
 a5 := Tryz.isAgg5
 z5 := Tryz.sizeOf5
 v5 := Tryz.zeroValue5
 infoByte := Rn.bInfo
 cellsByte := by kernel_rfl
 sizeByte := by kernel_rfl
 neB5 := by decide
abbrev Rn.Bd (B b : Nat) (l : List UInt8) (w : World) : Prop := Lib.IsBuilder 124 5 B b (Lib.byteCells l) w
set_option maxHeartbeats 1000000 in
set_option maxRecDepth 100000 in
theorem Rn.bused_c (b : Nat) (w : World) (h0 : w.cell? ⟨b, 0, none⟩ = some (.pointer (some ⟨b, 0, none⟩))) :
 Calls Tryz.prog 101 #[.pointer (some ⟨b, 0, none⟩)] w fun e w' => e = .returned (.tuple #[]) ∧ w' = w := by
 obtain ⟨j, hj, _⟩ := Option.map_eq_some_iff.1 Rn.bSize
 go_enter Tryz.func101, Tryz.ntmps101
 go_wp2
 rw [Lib.run_neq_ptr_same w _ Tryz.underlying122 hj]
 go_wp2
 go_end0
 exact ⟨rfl, rfl⟩
set_option maxHeartbeats 1000000 in
set_option maxRecDepth 100000 in
theorem Rn.bfresh_c (b : Nat) (w : World) (h0 : w.cell? ⟨b, 0, none⟩ = some (.pointer none)) (hsh : w.shape? b = some (124, 2)) (hfz : w.frozen? ⟨b, 0, none⟩ = false) :
 Calls Tryz.prog 101 #[.pointer (some ⟨b, 0, none⟩)] w fun e w' => e = .returned (.tuple #[]) ∧ w' = w.setCell ⟨b, 0, none⟩ (.pointer (some ⟨b, 0, none⟩)) := by
 obtain ⟨j, hj, hjs⟩ := Option.map_eq_some_iff.1 Rn.bSize
 go_enter Tryz.func101, Tryz.ntmps101
 go_wp2
 rw [Lib.run_to_unsafe w ⟨b, 0, none⟩ Tryz.underlying122 Tryz.underlying184 hj (by rw [hjs]; decide) hsh (Nat.zero_lt_succ 1)]
 simp only [Result.andThen]
 rw [Oper.upon_value]
 go_wp2
 rw [run_callFunc_extern Tryz.func130 (by kernel_rfl) (by kernel_rfl) (by kernel_rfl) (e := Extern.AbiNoEscape.same) (by kernel_rfl), Lib.run_noEscape]
 simp only [Result.andThen]
 rw [Oper.upon_value]
 go_wp2
 rw [Lib.run_from_unsafe w ⟨b, 0, none⟩ Tryz.underlying184 Tryz.underlying122 hj hsh Rn.bLies]
 simp only [Result.andThen]
 rw [Oper.upon_value]
 go_wp2
 go_end0
 exact ⟨rfl, rfl⟩
theorem Rn.bcheck_c (B b : Nat) (bs : List Value) (w : World) (h : Lib.IsBuilder 124 5 B b bs w) :
 Calls Tryz.prog 101 #[.pointer (some ⟨b, 0, none⟩)] w fun e w' => e = .returned (.tuple #[]) ∧ Lib.BuilderAt 124 5 B b (.pointer (some ⟨b, 0, none⟩)) bs w' ∧ Below B w w' := by
 rcases h with h | h
 ·refine (Rn.bfresh_c b w h.cell0 h.shape h.frozen0).mono ?_
  rintro e w' ⟨rfl, rfl⟩
  exact ⟨rfl, h.used _, (Below.refl B w).setCell (p := ⟨b, 0, none⟩) h.1 _⟩
 ·refine (Rn.bused_c b w h.cell0).mono ?_
  rintro e w' ⟨rfl, rfl⟩
  exact ⟨rfl, h, Below.refl B _⟩
set_option maxHeartbeats 2000000 in
set_option maxRecDepth 100000 in
theorem Rn.bwrite_c (B b : Nat) (l k : List UInt8) (w : World) (h : Rn.Bd B b l w) (hlen : l.length + k.length ≤ 140737488355328) (hBw : B ≤ w.heap.size) :
 Calls Tryz.prog 69 #[.pointer (some ⟨b, 0, none⟩), .string (Ty.S k)] w fun e w' => e = .returned (.tuple #[.int .i64 (k.length : Int), .nilIface]) ∧ Rn.Bd B b (l ++ k) w' ∧ Below B w w' := by
 obtain ⟨i0, hi, hz0, hz1, hz2⟩ := info_parts Rn.bInfo
 have CC := Lib.hid (Rn.bcheck_c B b _ w h)
 have HL : Hid ((Lib.byteCells l).length + (Ty.S k).size ≤ 140737488355328 ∧ B ≤ w.heap.size) := Lib.hid (by
  refine ⟨?_, hBw⟩
  rw [Ty.size_S]
  simpa [Lib.byteCells] using hlen)
 have HK : Hid ((Ty.S k).size = k.length ∧ Lib.byteCells l ++ Lib.strCells (Ty.S k) = Lib.byteCells (l ++ k)) := Lib.hid (by
  refine ⟨Ty.size_S _, ?_⟩
  simp [Lib.byteCells, Lib.strCells, Ty.S])
 have hks := HK.out.1
 generalize Lib.byteCells l = bs at CC HL HK
 generalize Ty.S k = s at HL HK hks ⊢
 clear h hlen hBw
 go_enter Tryz.func69, Tryz.ntmps69
 go_wp2_with (go_at_call 101; refine CC.out.mono ?_)
 rintro e w1 ⟨rfl, h1, hb1⟩
 have H1 := Lib.hid h1
 have HB1 := Lib.hid hb1
 obtain ⟨hB, v, hbk, hown, hne⟩ := h1
 have c1 : w1.cell? ⟨b, 1, none⟩ = some v := by rw [Lib.cell_of_heap hbk]; rfl
 have HBK := Lib.hid hbk
 have HO := Lib.hid hown
 have HNE := Lib.hid (And.intro hB hne)
 clear hbk hown hne hB hb1
 go_wp2_with (at_builtin; refine Lib.wpList_append_own_string _ rfl _ _ 118 9 rfl B 5 i0 Tryz.underlying118 Tryz.underlying9 hi hz0 hz1 hz2 _ _ _ rfl HO.out s rfl (by have := HL.out.1; unfold maxLen; omega) (by have := HL.out.1; omega) (by have := HL.out.2; have := HB1.out.size; omega) ?_)
 intro v' w2 hown' hgrow _
 have hlt : b < w1.heap.size := H1.out.lt
 have hb2 : w2.heap[b]? = some (.cells #[.pointer (some ⟨b, 0, none⟩), v] 124 (0, 0)) := by
  rw [hgrow.block b hlt (fun e => HNE.out.2 e.symm)]
  exact HBK.out
 have d1 : w2.cell? ⟨b, 1, none⟩ = some v := by rw [Lib.cell_of_heap hb2]; rfl
 have f1 : w2.frozen? ⟨b, 1, none⟩ = false := Lib.frozen_of_heap hb2 1
 obtain ⟨ao, n', cap, rfl⟩ : ∃ ao n' cap, v' = .slice ao n' cap := by
  rcases hown'.2 with ⟨hv, _⟩ | ⟨g, cap, cur, hv, _⟩
  ·exact ⟨_, _, _, hv⟩
  ·exact ⟨_, _, _, hv⟩
 have HE : Hid (Rn.Bd B b (l ++ k) (w2.setCell ⟨b, 1, none⟩ (.slice ao n' cap)) ∧ Below B w (w2.setCell ⟨b, 1, none⟩ (.slice ao n' cap))) := Lib.hid (by
  refine ⟨.inr ?_, ?_⟩
  ·rw [← HK.out.2]
   exact Lib.BuilderAt.put HNE.out.1 hb2 (by simpa [Lib.strCells_length, hks] using hown') (by decide)
  ·exact (HB1.out.grown hgrow (by have := HB1.out.size; have := HL.out.2; omega) (fun k hk => (HO.out.lt k hk).1)).setCell (p := ⟨b, 1, none⟩) HNE.out.1 _)
 clear hb2 hown' hgrow
 go_wp2
 go_ret2
 exact ⟨rfl, HE.out⟩
theorem Rn.bstring_c (B b : Nat) (l : List UInt8) (w : World) (h : Rn.Bd B b l w) (hB : B ≤ w.heap.size) :
 Calls Tryz.prog 71 #[.pointer (some ⟨b, 0, none⟩)] w fun e w' => e = .returned (.string (Ty.S l)) ∧ Below B w w' :=
 Any.Builder_String_any Tryz.bstringL Rn.bExtra B b l w h hB
theorem Rn.bd_new (w : World) : Rn.Bd w.heap.size w.heap.size [] (w.alloc (.cells #[.pointer none, .slice none 0 0] 124)) :=
 .inl ⟨Nat.le_refl _, _, heap_alloc_new w _, World.ownsRow_nil _ _ _ _, by simp [Value.ownBlock]⟩
theorem Rn.Bd.kept {B b : Nat} {l : List UInt8} {w w' : World} (h : Rn.Bd B b l w) (g : Below w.heap.size w w') : Rn.Bd B b l w' := by
 have one : ∀ p, Lib.BuilderAt 124 5 B b p (Lib.byteCells l) w → Lib.BuilderAt 124 5 B b p (Lib.byteCells l) w' := fun p hp => by
  obtain ⟨h1, v, h2, h3, h4⟩ := hp
  exact ⟨h1, v, (g.block b (Array.getElem?_eq_some_iff.1 h2).1).trans h2, by
   refine ⟨h3.1, ?_⟩
   rcases h3.2 with hn | ⟨b', cap, cur, rfl, hbb, hgg, rest⟩
   ·exact .inl hn
   ·exact .inr ⟨b', cap, cur, rfl, hbb, by rw [g.block b' (h3.lt b' rfl).2]; exact hgg, rest⟩, h4⟩
 exact h.imp (one _) (one _)
end
section
open Go.RowKit
open Ty (I64)
def Dd.Cap (v : Value) : Prop := ∀ a n c, v = .slice a n c → n ≤ c
theorem Dd.Cap.of {a : Option Addr} {n c : Nat} (h : n ≤ c) : Dd.Cap (.slice a n c) := fun a' n' c' e => by
 simp only [Value.slice.injEq] at e
 omega
def Dd.Cols (w : World) (v : Value) (l : List Kn.C) : Prop := Kn.Cols w v l ∧ Dd.Cap v
theorem Dd.Cols.later {w w' : World} {v : Value} {l : List Kn.C} (h : Dd.Cols w v l) (g : Below w.heap.size w w') : Dd.Cols w' v l := ⟨h.1.later g, h.2⟩
theorem Dd.Cols.first {w : World} {a : Option Addr} {n c : Nat} {l : List Kn.C} (h : Dd.Cols w (.slice a n c) l) (hl : 1 ≤ l.length) : Dd.Cols w (.slice a 1 c) (l.take 1) := by
 obtain ⟨⟨a', c', e, h⟩, hc⟩ := h
 simp only [Value.slice.injEq] at e
 obtain ⟨rfl, rfl, rfl⟩ := e
 have hc := hc _ _ _ rfl
 refine ⟨⟨a, c, by rw [List.length_take, Nat.min_eq_left hl], ?_⟩, Dd.Cap.of (by omega)⟩
 rcases h with rfl | ⟨b, o, rfl, hb, hm, h⟩
 ·simp at hl
 ·refine .inr ⟨b, o, rfl, hb, by rw [List.length_take]; omega, fun i x hx => h i x ?_⟩
  rw [List.getElem?_take] at hx
  split at hx
  ·exact hx
  ·cases hx
theorem Dd.cols_right {s : List Kn.C} (h : Kn.right s = true) (g : Bool) : Kn.right (Dd.cols s g) = true := by
 unfold Dd.cols
 cases g
 ·exact h
 ·rw [if_pos rfl]
  obtain ⟨x, t, rfl, hx, hg⟩ := Kn.right_head h
  simp [Kn.right, Kn.headOk, hx, hg]
theorem Dd.cols_good {s : List Kn.C} (h : Kn.right s = true) {g : Bool} {k : Nat} {c : Kn.C} (hc : (Dd.cols s g)[k]? = some c) : c.good = true := by
 have ha := Kn.right_all (Dd.cols_right h g)
 exact (List.all_eq_true.1 ha) c (List.mem_of_getElem? hc)
theorem Dd.cols_len {s : List Kn.C} (h : Kn.right s = true) (g : Bool) : 1 ≤ (Dd.cols s g).length ∧ (Dd.cols s g).length ≤ 6 := Kn.right_len (Dd.cols_right h g)
theorem Dd.fitE_cols {s : List Kn.C} (h : Kn.right s = true) (d : Dd.D) : Kn.fitsE (Dd.cols s d.gone) d.row = Dd.fitE s d := by
 have hr := Dd.cols_right h d.gone
 obtain ⟨g, row⟩ := d
 unfold Dd.fitE
 cases g
 ·rfl
 ·simp only [if_true] at hr ⊢
  rw [if_pos h]
  obtain ⟨x, t, rfl, hx, hg⟩ := Kn.right_head h
  have e : Dd.cols (x :: t) true = [x] := rfl
  simp only [e] at hr ⊢
  match row with
  | [] => exact Kn.fitsE_len hr (by simp)
  | [k] =>
    simp only
    unfold Kn.fitsE Kn.keyE
    rw [if_pos hr, if_pos h, if_pos (by simp)]
    simp only [Kn.fitsAll, Bool.and_true]
  | _ :: _ :: _ => exact Kn.fitsE_len hr (by simp)
theorem Dd.fitE_not {s : List Kn.C} (h : Kn.right s = false) (d : Dd.D) : Dd.fitE s d = 4 := by
 unfold Dd.fitE
 split
 ·rw [h, if_neg (by decide)]
 ·exact Kn.fitsE_bad h
set_option maxRecDepth 100000 in
set_option maxHeartbeats 400000 in
theorem Dd.columnsOf_c (v : Value) (s : List Kn.C) (g : Bool) (w : World) (hs : Dd.Cols w v s) (hl : 1 ≤ s.length) :
 Calls Tryz.prog 62 #[v, .bool g] w fun e w' => (∃ u, e = .returned u ∧ ∀ W, Dd.Cols W v s → Dd.Cols W u (Dd.cols s g)) ∧ w' = w := by
 obtain ⟨a, c, rfl, _⟩ := hs.1.is
 have hc := hs.2 _ _ _ rfl
 have hc1 : (1 : Int) ≤ (c : Int) := by omega
 cases g
 ·go_enter Tryz.func62, Tryz.ntmps62
  go_wp2
  go_ret
  exact ⟨⟨_, rfl, fun W h => h⟩, rfl⟩
 ·have hl2 := Lib.hid hl
  go_enter Tryz.func62, Tryz.ntmps62
  go_wp2
  go_ret
  exact ⟨⟨_, rfl, fun W h => h.first hl2.out⟩, rfl⟩
set_option maxRecDepth 100000 in
set_option maxHeartbeats 400000 in
theorem Dd.appendFlag_c (base : Nat) (v : Value) (bs : List UInt8) (b : Bool) (w : World) (hown : Ty.Buf base w v bs) (hb : base ≤ w.heap.size) (hl : bs.length + 1 ≤ 140737488355328) :
 Calls Tryz.prog 64 #[v, .bool b] w (Ty.Written base w v (bs ++ [Dd.flag b])) := by
 cases b
 ·go_enter Tryz.func64, Tryz.ntmps64
  go_wp2_with (at_builtin; refine Ty.wpList_append_byte hown hb hl (.tmp 9) (.tmp 10) _ rfl rfl rfl rfl ?_; intro v1 w1 h1 g1)
  go_ret
  exact ⟨v1, rfl, h1 _ rfl, g1⟩
 ·go_enter Tryz.func64, Tryz.ntmps64
  go_wp2_with (at_builtin; refine Ty.wpList_append_byte hown hb hl (.tmp 6) (.tmp 7) _ rfl rfl rfl rfl ?_; intro v1 w1 h1 g1)
  go_ret
  exact ⟨v1, rfl, h1 _ rfl, g1⟩
end
section
open Go.RowKit
open Ty (I64)
open Ig (encI)
open Tx (encT)
theorem Dd.encV_there {c : Kn.C} {v : Kn.V} (hc : c.null = false) (hv : v.null = false) : Dd.encV c v = Dd.encP c v := by
 unfold Dd.encV
 rw [hc, hv, if_neg (by decide), if_neg (by decide), List.nil_append]
theorem Dd.encV_flag {c : Kn.C} {v : Kn.V} (hc : c.null = true) (hv : v.null = false) : Dd.encV c v = Dd.flag false :: Dd.encP c v := by
 unfold Dd.encV
 rw [hc, hv, if_pos rfl, if_neg (by decide)]
 rfl
theorem Dd.encV_null {c : Kn.C} {v : Kn.V} (hc : c.null = true) (hv : v.null = true) : Dd.encV c v = [Dd.flag true] := by
 unfold Dd.encV
 rw [hc, hv, if_pos rfl, if_pos rfl]
 rfl
theorem Dd.encP_int {c : Kn.C} {v : Kn.V} (hk : c.k = 1) : Dd.encP c v = Ig.encI v.n := by unfold Dd.encP; rw [if_pos hk]
theorem Dd.encP_txt {c : Kn.C} {v : Kn.V} (hk : c.k = 2) : Dd.encP c v = encT v.s.data.toList := by unfold Dd.encP; rw [if_neg (by omega)]
theorem Dd.fits_live {c : Kn.C} {v : Kn.V} (h : Kn.fits c v = true) (hc : c.null = false) : v.null = false := by
 cases hv : v.null
 ·rfl
 ·have := (Dd.fits_null h hv).2
  rw [hc] at this; cases this
theorem Dd.fits_size {c : Kn.C} {v : Kn.V} (hk : c.k = 2) (h : Kn.fits c v = true) (hv : v.null = false) : v.s.size ≤ 64 := by
 have := (Dd.fits_str (by omega) h hv).2
 rwa [Ty.length_data] at this
theorem Dd.tabs_grew {w w' : World} {v v' : Value} {base : Nat} {bs : List UInt8} (h : Ty.Tabs w) (hg : Ty.Grew w w' v v') (hb : Ty.Buf base w v bs) (hG : Ty.G ≤ base) : Ty.Tabs w' :=
 Ty.Tabs.by h hg.by_ fun k hk => Nat.le_trans hG (World.ownsRow.lt hb k hk).1
set_option maxHeartbeats 2000000 in
set_option maxRecDepth 100000 in
theorem Dd.appendValue_c (base : Nat) (v : Value) (bs : List UInt8) (c : Kn.C) (x : Kn.V) (w : World) (hT : Ty.Tabs w) (hG : Ty.G ≤ base) (hown : Ty.Buf base w v bs) (hb : base ≤ w.heap.size) (hl : bs.length ≤ 1000) (hf : Kn.fits c x = true) (hg : c.good = true) (hi : I64 x.n) :
 Calls Tryz.prog 65 #[v, c.val, x.val] w (Ty.Written base w v (bs ++ Dd.encV c x)) := by
 obtain ⟨ck, cn⟩ := c
 obtain ⟨xn, xi, xs⟩ := x
 have hgr : Below w.heap.size w ((w.alloc (.cells #[.int .i64 ck, .bool cn] 76)).alloc (.cells #[.bool xn, .int .i64 xi, .string xs] 33)) := ((Below.refl _ w).alloc (Nat.le_refl _) _).alloc (by simp) _
 have hown2 : Ty.Buf base ((w.alloc (.cells #[.int .i64 ck, .bool cn] 76)).alloc (.cells #[.bool xn, .int .i64 xi, .string xs] 33)) v bs := World.ownsRow.alloc (World.ownsRow.alloc hown _) _
 have hown3 : Hid (∀ k, v.ownBlock = some k → k < w.heap.size) := Lib.hid fun k hk => (World.ownsRow.lt hown k hk).2
 have hT2 := Lib.hid (Ty.Tabs.below hT hgr (Ty.Tabs.two hT))
 have hBH : Hid (∀ (w' : World) (v' : Value), Ty.Grew ((w.alloc (.cells #[.int .i64 ck, .bool cn] 76)).alloc (.cells #[.bool xn, .int .i64 xi, .string xs] 33)) w' v v' → Ty.Grew w w' v v') := Lib.hid fun w' v' h => (h.behind _).behind _
 have hsz : ((w.alloc (.cells #[.int .i64 ck, .bool cn] 76)).alloc (.cells #[.bool xn, .int .i64 xi, .string xs] 33)).heap.size = w.heap.size + 2 := by simp
 have hb2 := (Below.refl _ (w.alloc (.cells #[.int .i64 ck, .bool cn] 76))).alloc (Nat.le_refl _) (.cells #[.bool xn, .int .i64 xi, .string xs] 33)
 have x0 := (hb2.cell (p := ⟨w.heap.size, 0, none⟩) (by simp)).trans (Kn.cell_new w #[.int .i64 ck, .bool cn] 76 0 _ rfl)
 have x1 := (hb2.cell (p := ⟨w.heap.size, 1, none⟩) (by simp)).trans (Kn.cell_new w #[.int .i64 ck, .bool cn] 76 1 _ rfl)
 have y0 := Kn.cell_new (w.alloc (.cells #[.int .i64 ck, .bool cn] 76)) #[.bool xn, .int .i64 xi, .string xs] 33 0 _ rfl
 have y1 := Kn.cell_new (w.alloc (.cells #[.int .i64 ck, .bool cn] 76)) #[.bool xn, .int .i64 xi, .string xs] 33 1 _ rfl
 have y2 := Kn.cell_new (w.alloc (.cells #[.int .i64 ck, .bool cn] 76)) #[.bool xn, .int .i64 xi, .string xs] 33 2 _ rfl
 rw [World.size_alloc] at y0 y1 y2
 simp only [List.getElem_toArray, List.getElem_cons_zero, List.getElem_cons_succ] at x0 x1 y0 y1 y2
 have HT := hT2
 have HOW := Lib.hid hown2
 have HI := Lib.hid hi
 have HF := Lib.hid hf
 have HGB := Lib.hid hG
 have HBB := Lib.hid hb
 have HL := Lib.hid hl
 clear hgr hown2 hT2 hb2 hi hf hG hT hown
 have HK := Lib.hid ((Dd.good_iff _).1 hg)
 simp only at HI HK
 clear hg
 unfold Kn.C.val Kn.V.val
 cases cn
 ·obtain rfl : xn = false := Dd.fits_live HF.out rfl
  rcases HK.out with rfl | rfl
  ·have HE := Lib.hid ((Dd.encV_there (c := ⟨1, false⟩) (v := ⟨false, xi, xs⟩) rfl rfl).trans (Dd.encP_int rfl))
   go_enter Tryz.func65, Tryz.ntmps65
   go_wp2_with fail
   generalize hwo : World.alloc _ _ = wo at HOW HT hBH hsz x0 x1 y0 y1 y2 ⊢
   clear hwo
   with_reducible refine (Ty.int_c base v _ xi HI.out wo HT.out HOW.out (by have := HBB.out; omega) (by have := HL.out; omega)).mono ?_
   rintro e w4 ⟨v4, rfl, hB4, hG4⟩
   have HB4 := Lib.hid hB4
   have HG4 := Lib.hid hG4
   clear hB4 hG4
   go_wp2
   go_ret
   refine ⟨v4, rfl, ?_, hBH.out _ _ HG4.out⟩
   rw [HE.out]
   have h := HB4.out
   simpa only [Ig.encI, List.append_assoc, List.singleton_append, List.cons_append, List.nil_append] using h
  ·have HE := Lib.hid ((Dd.encV_there (c := ⟨2, false⟩) (v := ⟨false, xi, xs⟩) rfl rfl).trans (Dd.encP_txt rfl))
   have h64 := Dd.fits_size rfl HF.out rfl
   simp only at h64
   go_enter Tryz.func65, Tryz.ntmps65
   go_wp2_with fail
   generalize hwo : World.alloc _ _ = wo at HOW HT hBH hsz x0 x1 y0 y1 y2 ⊢
   clear hwo
   with_reducible refine (Ty.text_c base v _ xs wo HT.out HOW.out (by have := HBB.out; omega) (by have := HL.out; omega)).mono ?_
   rintro e w4 ⟨v4, rfl, hB4, hG4⟩
   have HB4 := Lib.hid hB4
   have HG4 := Lib.hid hG4
   clear hB4 hG4
   go_wp2
   go_ret
   refine ⟨v4, rfl, ?_, hBH.out _ _ HG4.out⟩
   rw [HE.out]
   have h := HB4.out
   simpa only [encT, Ty.length_data, List.append_assoc, List.singleton_append, List.cons_append, List.nil_append] using h
 ·cases xn
  ·rcases HK.out with rfl | rfl
   ·have HE := Lib.hid ((Dd.encV_flag (c := ⟨1, true⟩) (v := ⟨false, xi, xs⟩) rfl rfl).trans (congrArg _ (Dd.encP_int rfl)))
    go_enter Tryz.func65, Tryz.ntmps65
    go_wp2_with fail
    generalize hwo : World.alloc _ _ = wo at HOW HT hBH hsz x0 x1 y0 y1 y2 ⊢
    clear hwo
    with_reducible refine (Dd.appendFlag_c base v bs false wo HOW.out (by have := HBB.out; omega) (by have := HL.out; omega)).mono ?_
    rintro e w3 ⟨v3, rfl, hB3, hG3⟩
    have hs3 := hG3.by_.size
    have hn0 : some w.heap.size ≠ v.ownBlock := fun e => by have := hown3.out _ e.symm; omega
    have hn1 : some (w.heap.size + 1) ≠ v.ownBlock := fun e => by have := hown3.out _ e.symm; omega
    replace x0 := hG3.by_.cell x0 hn0
    replace y0 := hG3.by_.cell y0 hn1
    replace y1 := hG3.by_.cell y1 hn1
    replace y2 := hG3.by_.cell y2 hn1
    have HB3 := Lib.hid hB3
    have HG3 := Lib.hid hG3
    have HT3 := Lib.hid (Dd.tabs_grew HT.out hG3 HOW.out HGB.out)
    clear x1 hn0 hn1 hB3 hG3
    go_wp2_with fail
    with_reducible refine (Ty.int_c base v3 _ xi HI.out w3 HT3.out HB3.out (by have := HBB.out; omega) (by rw [List.length_append]; have := HL.out; simp only [List.length_singleton]; omega)).mono ?_
    rintro e w4 ⟨v4, rfl, hB4, hG4⟩
    have HB4 := Lib.hid hB4
    have HG4 := Lib.hid hG4
    clear hB4 hG4
    go_wp2
    go_ret
    refine ⟨v4, rfl, ?_, hBH.out _ _ (HG3.out.trans HG4.out)⟩
    rw [HE.out]
    have h := HB4.out
    simpa only [Ig.encI, List.append_assoc, List.singleton_append, List.cons_append, List.nil_append] using h
   ·have HE := Lib.hid ((Dd.encV_flag (c := ⟨2, true⟩) (v := ⟨false, xi, xs⟩) rfl rfl).trans (congrArg _ (Dd.encP_txt rfl)))
    have h64 := Dd.fits_size rfl HF.out rfl
    simp only at h64
    go_enter Tryz.func65, Tryz.ntmps65
    go_wp2_with fail
    generalize hwo : World.alloc _ _ = wo at HOW HT hBH hsz x0 x1 y0 y1 y2 ⊢
    clear hwo
    with_reducible refine (Dd.appendFlag_c base v bs false wo HOW.out (by have := HBB.out; omega) (by have := HL.out; omega)).mono ?_
    rintro e w3 ⟨v3, rfl, hB3, hG3⟩
    have hs3 := hG3.by_.size
    have hn0 : some w.heap.size ≠ v.ownBlock := fun e => by have := hown3.out _ e.symm; omega
    have hn1 : some (w.heap.size + 1) ≠ v.ownBlock := fun e => by have := hown3.out _ e.symm; omega
    replace x0 := hG3.by_.cell x0 hn0
    replace y0 := hG3.by_.cell y0 hn1
    replace y1 := hG3.by_.cell y1 hn1
    replace y2 := hG3.by_.cell y2 hn1
    have HB3 := Lib.hid hB3
    have HG3 := Lib.hid hG3
    have HT3 := Lib.hid (Dd.tabs_grew HT.out hG3 HOW.out HGB.out)
    clear x1 hn0 hn1 hB3 hG3
    go_wp2_with fail
    with_reducible refine (Ty.text_c base v3 _ xs w3 HT3.out HB3.out (by have := HBB.out; omega) (by rw [List.length_append]; have := HL.out; simp only [List.length_singleton]; omega)).mono ?_
    rintro e w4 ⟨v4, rfl, hB4, hG4⟩
    have HB4 := Lib.hid hB4
    have HG4 := Lib.hid hG4
    clear hB4 hG4
    go_wp2
    go_ret
    refine ⟨v4, rfl, ?_, hBH.out _ _ (HG3.out.trans HG4.out)⟩
    rw [HE.out]
    have h := HB4.out
    simpa only [encT, Ty.length_data, List.append_assoc, List.singleton_append, List.cons_append, List.nil_append] using h
  ·have HE := Lib.hid (Dd.encV_null (c := ⟨ck, true⟩) (v := ⟨true, xi, xs⟩) rfl rfl)
   go_enter Tryz.func65, Tryz.ntmps65
   go_wp2_with fail
   generalize hwo : World.alloc _ _ = wo at HOW HT hBH hsz x0 x1 y0 y1 y2 ⊢
   clear hwo
   with_reducible refine (Dd.appendFlag_c base v bs true wo HOW.out (by have := HBB.out; omega) (by have := HL.out; omega)).mono ?_
   rintro e w3 ⟨v3, rfl, hB3, hG3⟩
   have hs3 := hG3.by_.size
   have hn0 : some w.heap.size ≠ v.ownBlock := fun e => by have := hown3.out _ e.symm; omega
   have hn1 : some (w.heap.size + 1) ≠ v.ownBlock := fun e => by have := hown3.out _ e.symm; omega
   replace x0 := hG3.by_.cell x0 hn0
   replace y0 := hG3.by_.cell y0 hn1
   replace y1 := hG3.by_.cell y1 hn1
   replace y2 := hG3.by_.cell y2 hn1
   have HB3 := Lib.hid hB3
   have HG3 := Lib.hid hG3
   have HT3 := Lib.hid (Dd.tabs_grew HT.out hG3 HOW.out HGB.out)
   clear x1 hn0 hn1 hB3 hG3
   go_wp2
   go_ret
   exact ⟨v3, rfl, by rw [HE.out]; exact HB3.out, hBH.out _ _ HG3.out⟩
end
section
open Go.RowKit
def Dd.T (w : World) : Prop := Ty.Tabs w
theorem Dd.T.below {w w' : World} (h : Dd.T w) (g : Below w.heap.size w w') : Dd.T w' := Ty.Tabs.below h g (Ty.Tabs.two h)
end
section
open Go.RowKit
structure Dd.By2 (r b : Nat) (w w' : World) : Prop where
 os : w'.os = w.os
 tape : w'.tape = w.tape
 output : w'.output = w.output
 size : w.heap.size ≤ w'.heap.size
 block : ∀ k, k < w.heap.size → k ≠ r → k ≠ b → w'.heap[k]? = w.heap[k]?
theorem Dd.By2.refl (r b : Nat) (w : World) : Dd.By2 r b w w := ⟨rfl, rfl, rfl, Nat.le_refl _, fun _ _ _ _ => rfl⟩
theorem Dd.By2.trans {r b : Nat} {u v w : World} (h : Dd.By2 r b u v) (k : Dd.By2 r b v w) : Dd.By2 r b u w :=
 ⟨k.os.trans h.os, k.tape.trans h.tape, k.output.trans h.output, Nat.le_trans h.size k.size, fun i hi h1 h2 => (k.block i (Nat.lt_of_lt_of_le hi h.size) h1 h2).trans (h.block i hi h1 h2)⟩
theorem Dd.By2.set {r b : Nat} (w : World) (i : Nat) (u : Value) : Dd.By2 r b w (w.setCell ⟨r, i, none⟩ u) :=
 ⟨rfl, rfl, rfl, by simp [World.setCell], fun k _ h1 _ => Below.heap_setCell _ _ _ _ (by show k ≠ r; exact h1)⟩
theorem Dd.By2.cell {r b : Nat} {w w' : World} (h : Dd.By2 r b w w') {a : Addr} {v : Value} (hv : w.cell? a = some v) (h1 : a.block ≠ r) (h2 : a.block ≠ b) : w'.cell? a = some v :=
 (World.cell?_of_block (h.block a.block (World.block_lt_of_cell? w a hv) h1 h2)).trans hv
theorem Dd.By2.below {r b B : Nat} {w w' : World} (h : Dd.By2 r b w w') (hr : B ≤ r) (hb : B ≤ b) (hB : B ≤ w.heap.size) : Below B w w' :=
 ⟨h.os, h.tape, h.output, h.size, fun k hk => h.block k (by omega) (by omega) (by omega)⟩
end
section
open Go.RowKit
end
section
open Go.RowKit
theorem Dd.By2.new {r b q i : Nat} {w w1 : World} (g : Dd.By2 r b w w1) (hq : w.heap.size ≤ q) (u : Value) : Dd.By2 r b w (w1.setCell ⟨q, i, none⟩ u) :=
 ⟨g.os, g.tape, g.output, by have := g.size; simpa [World.setCell] using this, fun k hk h1 h2 => (Below.heap_setCell _ _ _ _ (by show k ≠ q; omega)).trans (g.block k hk h1 h2)⟩
end
end Go.Proofs.YtbelkhkllneifaaGreatDoor
