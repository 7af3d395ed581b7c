import Derived.Test.YtbelkhkllneifaaGreatDoorWEBB
import Derived.Test.YtbelkhkllneifaaGreatDoorWEAS
import Derived.Test.YtbelkhkllneifaaGreatDoorWEAP
import Derived.Test.YtbelkhkllneifaaGreatDoorWEAJ
import Derived.Test.YtbelkhkllneifaaGreatDoorWEBE
import Derived.BigQuiet
import Derived.Test.YtbelkhkllneifaaGreatDoorWEBD
import Derived.Test.YtbelkhkllneifaaGreatDoorWEAR
import Derived.Deep.RegionHeld3
namespace Go.Proofs.YtbelkhkllneifaaGreatDoor
section
open Go Go.RowKit Go.Shelf
attribute [local go_sem] Oper.semAt_some
set_option linter.unusedSimpArgs false
section
variable {P : Program} {ops : Array Oper} {Q : Exit → Act → World → Prop} {md : Region.Mode}
theorem Rn.any_one {i : Nat} {o : Oper} {fuel : Nat} {listed : Array Bool} {a : Act} {w : World} (hr : Region.ready md ops listed = [i]) (ho : ops[i]? = some o)
 (h : ∀ K' : Act → World → Prop, Shut (∀ a w, wpAny P md ops Q fuel (listed.setIfInBounds i true) a w → K' a w) → if Region.wanted o (yielded ops a.tmps) = true then Oper.wp P o a w K' Q else K' (a.put o.dst undef) w) : wpAny P md ops Q (fuel + 1) listed a w := by
 refine wpAny_all hr (by simp) fun j hj => ?_
 rw [List.mem_singleton] at hj
 subst hj
 exact wpOp_step ho (fun K' hK => h K' hK)
theorem Rn.any_two {i k : Nat} {o o2 : Oper} {fuel : Nat} {listed : Array Bool} {a : Act} {w : World} (hr : Region.ready md ops listed = [i, k]) (ho : ops[i]? = some o) (ho2 : ops[k]? = some o2)
 (h : ∀ K' : Act → World → Prop, Shut (∀ a w, wpAny P md ops Q fuel (listed.setIfInBounds i true) a w → K' a w) → if Region.wanted o (yielded ops a.tmps) = true then Oper.wp P o a w K' Q else K' (a.put o.dst undef) w)
 (h2 : ∀ K' : Act → World → Prop, Shut (∀ a w, wpAny P md ops Q fuel (listed.setIfInBounds k true) a w → K' a w) → if Region.wanted o2 (yielded ops a.tmps) = true then Oper.wp P o2 a w K' Q else K' (a.put o2.dst undef) w) : wpAny P md ops Q (fuel + 1) listed a w := by
 refine wpAny_all hr (by simp) fun j hj => ?_
 simp only [List.mem_cons, List.not_mem_nil, or_false] at hj
 rcases hj with rfl | rfl
 ·exact wpOp_step ho (fun K' hK => h K' hK)
 ·exact wpOp_step ho2 (fun K' hK => h2 K' hK)
theorem Rn.any_region {id l n : Nat} {a : Act} {w : World} (hm : P.follows .mixedOrders = true) (hd : Sk.noDefer ops = true)
 (h : wpAny P .any ops (Sk.Calm Q) ops.size (Array.replicate ops.size false) a w.drew) : (Code.region id ops true).wpIn (Fence.wide.inRound l) n P Q a w :=
 Code.wpIn_mono Sk.Calm.imp (wpIn_region_any hm (Rn.any_round Sk.Calm.shut hd _ _ _ _ h))
end
theorem Rn.infoRow : (Tryz.prog.info? 39).map (fun i => (i.zero, i.size, i.bytes)) = some (some (.slice none 0 0), 1, 24) := by kernel_rfl
theorem Rn.flat_le (f : Nat → List (List Kn.V)) (hf : ∀ i, (f i).length ≤ 8) : ∀ l : List Nat, ((l.map f).flatten).length ≤ 8 * l.length
 | [] => by simp
 | i :: l => by
   rw [List.map_cons, List.flatten_cons, List.length_append, List.length_cons]
   have := hf i
   have := Rn.flat_le f hf l
   omega
theorem Rn.hold_len (L : List Dd.D) (r : Kn.R) (a : Zn.As) (i : Nat) : (Rn.hold (Rn.bk L i) r a).length ≤ 8 := by
 unfold Rn.hold
 rw [List.length_map]
 refine Nat.le_trans (List.length_filter_le ..) ?_
 rw [Rn.bk_len]
 omega
theorem Rn.Gr.setN {D : Nat → Prop} {w3 W : World} {bb B n0 x : Nat} {Q : List (List Kn.V)} (h : Rn.Gr D w3 bb B n0 Q W) (hx : ¬ D x) (hb : x ≠ bb) (hB : x < B) (hn : x < n0) (v : Value) : Rn.Gr D w3 bb B n0 Q (W.setCell ⟨x, 0, none⟩ v) := by
 obtain ⟨h1, v', M, h2, h3, h4, h5⟩ := h
 have hs : ∀ b, b ≠ x → (W.setCell ⟨x, 0, none⟩ v).heap[b]? = W.heap[b]? := fun b hb => heap_setCell_other W ⟨x, 0, none⟩ b v hb
 refine ⟨h1.trans (Rn.Kd.set _ hx _), v', M, (hs bb (by first | exact hb | exact hb.symm)).trans h2, h3.same fun b hbb => hs b (by have := h3.base_le b hbb; omega), h4, fun i y hy => ?_⟩
 obtain ⟨z, e1, e2⟩ := h5 i y hy
 exact ⟨z, e1, e2.same fun b hbb => hs b (by have := Dk.Own.base_le e2 b hbb; omega)⟩
theorem Rn.Gr.rws_put {B n0 C N m : Nat} {W : World} {Q : List (List Kn.V)} {v : Value} {M : List (Option Addr × Nat × Nat)} (h3 : Dk.Own 39 1 Bk.e1 B W v M) (h4 : M.length = Q.length)
 (h5 : ∀ (i : Nat) (x : List Kn.V), Q[i]? = some x → ∃ y : Option Addr × Nat × Nat, M[i]? = some y ∧ Sk.Rw n0 W (Bk.sv y) x) (hN : C ≤ N) (hK : W.heap[N]? = some (.deferred (some []))) : Rn.Rws ((W.drewN m).putObj N (.deferred none)) v Q :=
 Rn.Gr.rws (Rn.own_put (B := C) (I := fun W => Dk.Own 39 1 Bk.e1 B W v M) (Rn.own_own C _ _ _) (.deferred none) (h3.same fun b _ => rfl) hN hK rfl) h4 fun i x hx => by
  obtain ⟨y, e1, e2⟩ := h5 i x hx
  exact ⟨y, e1, Rn.own_put (B := C) (I := fun W => Sk.Rw n0 W (Bk.sv y) x) (Rn.own_own C _ _ _) (.deferred none) (e2.same fun b _ => rfl) hN hK rfl⟩
def Rn.MatD (w : World) (s : List Kn.C) (L : List Dd.D) (r : Kn.R) (a : Zn.As) (e : Ending) (w' : World) : Prop :=
 ∃ v, e = .returned (.tuple #[v, .int .i64 (Rn.looked s L r a : Nat)]) ∧ Rn.Rws w' v (Rn.hold L r a) ∧ Below w.heap.size w w'
set_option maxHeartbeats 32000000 in
set_option maxRecDepth 100000 in
theorem Rn.matches_c {w : World} {p : Nat} {s : List Kn.C} {L : List Dd.D} (hP : Rn.P w p s L) (hg : Rn.Gd s L) (r : Kn.R) (a : Zn.As) :
 Calls Tryz.prog 22 #[.pointer (some ⟨p, 0, none⟩), r.val, a.val] w (Rn.MatD w s L r a) := by
 have HG := Lib.hid hg
 have HP := Lib.hid hP
 obtain ⟨q, hq⟩ : ∃ q, q = w.heap.size := ⟨_, rfl⟩
 obtain ⟨wa, hwa⟩ : ∃ wa, wa = w.alloc (.cells #[.bool r.from_, .bool r.til, .bool r.lo.null, .int .i64 r.lo.n, .string r.lo.s, .bool r.hi.null, .int .i64 r.hi.n, .string r.hi.s] 43) := ⟨_, rfl⟩
 obtain ⟨wb, hwb⟩ : ∃ wb, wb = wa.alloc (.cells #[.int .i64 a.op, .int .i64 a.col, .bool a.v.null, .int .i64 a.v.n, .string a.v.s] 54) := ⟨_, rfl⟩
 obtain ⟨wc, hwc⟩ : ∃ wc, wc = wb.alloc (.cells #[.slice none 0 0] 58) := ⟨_, rfl⟩
 obtain ⟨wd, hwd⟩ : ∃ wd, wd = wc.alloc (.cells #[.int .i64 0] 3) := ⟨_, rfl⟩
 have sa : wa.heap.size = q + 1 := by rw [hwa, hq]; simp
 have sb : wb.heap.size = q + 2 := by rw [hwb, World.size_alloc, sa]
 have sc : wc.heap.size = q + 3 := by rw [hwc, World.size_alloc, sb]
 have sd : wd.heap.size = q + 4 := by rw [hwd, World.size_alloc, sc]
 have gab : Below wa.heap.size wa wb := by rw [hwb]; exact (Below.refl _ wa).alloc (Nat.le_refl _) _
 have gbc : Below wb.heap.size wb wc := by rw [hwc]; exact (Below.refl _ wb).alloc (Nat.le_refl _) _
 have gcd : Below wc.heap.size wc wd := by rw [hwd]; exact (Below.refl _ wc).alloc (Nat.le_refl _) _
 have g0a : Below w.heap.size w wa := by rw [hwa]; exact (Below.refl _ w).alloc (Nat.le_refl _) _
 have gr : ∀ {x y z : World}, Below x.heap.size x y → Below y.heap.size y z → Below x.heap.size x z := fun h g => h.trans (g.mono h.size)
 have HB : Hid (Below w.heap.size w wd ∧ Kn.RAt wd q r ∧ Zn.ABlk wd (q + 1) a ∧ wd.heap[q + 2]? = some (.cells #[.slice none 0 0] 58 (0, 0)) ∧ wd.heap[q + 3]? = some (.cells #[.int .i64 0] 3 (0, 0)) ∧ wd.heap.size = q + 4 ∧ q = w.heap.size) := Lib.hid (by
  refine ⟨gr (gr (gr g0a gab) gbc) gcd, ?_, ?_, ?_, ?_, sd, hq⟩
  ·have : Kn.RAt wa q r := by rw [hwa, hq]; exact Kn.RAt.new w r _
   exact this.later (gr (gr gab gbc) gcd)
  ·have : Zn.ABlk wb (q + 1) a := by rw [hwb, ← sa]; exact Zn.ABlk.new wa a _
   exact this.kept (gr gbc gcd)
  ·have : wc.heap[q + 2]? = some (.cells #[.slice none 0 0] 58 (0, 0)) := by rw [hwc, ← sb]; exact heap_alloc_new wb _
   exact (gcd.block _ (by omega)).trans this
  ·rw [hwd, ← sc]; exact heap_alloc_new wc _)
 have HX := Lib.hid (Rn.examined_c (w := wd) p r a)
 have HSEQ0 := Lib.hid fun (D : Nat → Prop) (W : World) (m : Nat) (hw : Below w.heap.size w W) (hD : ∀ b, b < w.heap.size → D b) (h0 : D m) (h1 : D (m + 1)) (h2 : D (m + 2)) (c0 : W.cell? ⟨m, 0, none⟩ = some (.pointer (some ⟨p, 0, none⟩))) (cR : Kn.RAt W (m + 1) r) (cA : Zn.ABlk W (m + 2) a) => Rn.examined1_seq (D := D) r a hP hg hw hD h0 h1 h2 c0 cR cA
 have HLK := Lib.hid (Rn.hold_lk hg r a)
 have HLL := Lib.hid fun i (h : i ∈ Rn.lk s L r a (Rn.nb L.length)) => Rn.lk_look h
 have hra := HB.out.2.1
 have haa := HB.out.2.2.1
 have HPO : Hid (∀ W v, Rn.Rws W v (Rn.hold L r a) → Below w.heap.size w W → Rn.MatD w s L r a (.returned (.tuple #[v, .int .i64 (Rn.looked s L r a : Nat)])) W) := Lib.hid fun W v h g => ⟨v, rfl, h, g⟩
 have HLN : Hid ((Rn.lk s L r a (Rn.nb L.length)).length = Rn.looked s L r a) := Lib.hid rfl
 have HXL : Hid ((Rn.lk s L r a (Rn.nb L.length)).length ≤ 25) := Lib.hid (by
  have h1 : (Rn.lk s L r a (Rn.nb L.length)).length ≤ Rn.nb L.length := by unfold Rn.lk; exact Nat.le_trans (List.length_filter_le ..) (by rw [List.length_range]; exact Nat.le_refl _)
  have := hg.few
  unfold Rn.nb at h1 ⊢
  omega)
 generalize Rn.MatD w s L r a = post at HPO ⊢
 generalize Rn.looked s L r a = lkd at HPO HLN
 generalize Rn.lk s L r a (Rn.nb L.length) = lk at HLK HLL HLN HXL HSEQ0
 obtain ⟨y0, y1, ⟨y2, y3, y4⟩, ⟨y5, y6, y7⟩⟩ := hra
 obtain ⟨z0, z1, z2, z3, z4⟩ := haa
 unfold Rn.ExD at HX
 obtain ⟨R, hR⟩ : ∃ R : Kn.R, R = r := ⟨_, rfl⟩
 obtain ⟨A, hA⟩ : ∃ A : Zn.As, A = a := ⟨_, rfl⟩
 rw [← hR, ← hA] at HB HX HSEQ0 HLK HPO
 rw [← hA] at HLL
 have HRA := Lib.hid (And.intro hR hA)
 have HXV := HX
 rw [hR, hA] at HX
 obtain ⟨rf, rt, ⟨r1, r2, r3⟩, ⟨r4, r5, r6⟩⟩ := r
 obtain ⟨op, col, ⟨an, ai, as9⟩⟩ := a
 simp only [Nat.reduceAdd] at y0 y1 y2 y3 y4 y5 y6 y7 z0 z1 z2 z3 z4 hwa hwb
 unfold Kn.R.val Zn.As.val at HX ⊢
 simp only at HX ⊢
 clear hP hg sa sb sc sd gab gbc gcd g0a gr hR hA HXV
 rw [← callsIn_wide (n := 9)]
 refine callsIn_of_wp_marks Tryz.func22 rfl trivial ?_ rfl
 simp only [Tryz.ntmps22, List.size_toArray, List.length_cons, List.length_nil, Nat.reduceAdd, Nat.reduceSub, Array.replicate_succ, Array.replicate_zero, List.push_toArray, List.append_toArray, List.nil_append, List.cons_append]
 gi_upto_region 3 with (fail)
 rw [← hwa, ← hwb, ← hwc, ← hwd, ← hq, show q + 1 + 1 = q + 2 from rfl, show q + 2 + 1 = q + 3 from rfl]
 clear hwa hwb hwc hwd hq
 gi_wp2_with (refine ⟨trivial, ?_⟩; gi_at_call 50; refine (callsIn_wide.2 HX.out).mono ?_; rintro e w3 ⟨m, hm, rfl, c0, cR, cA, g3, hs3⟩)
 rw [HB.out.2.2.2.2.2.1] at hm ⊢
 subst hm
 have HS3 : Hid (w3.heap.size = q + 7 ∧ q = w.heap.size) := Lib.hid ⟨by have := HB.out.2.2.2.2.2.1; omega, HB.out.2.2.2.2.2.2⟩
 have HG3 : Hid (Below w.heap.size w w3) := Lib.hid (HB.out.1.trans (g3.mono HB.out.1.size))
 have HGD : Hid (Below wd.heap.size wd w3) := Lib.hid g3
 obtain ⟨D, hD⟩ : ∃ D : Nat → Prop, D = fun b => b < q + 2 ∨ (q + 4 ≤ b ∧ b < q + 7) := ⟨_, rfl⟩
 have HD := Lib.hid hD
 have HDB : Hid (∀ b, D b → b < w3.heap.size ∧ b ≠ q + 2) := Lib.hid fun b hb => by rw [hD] at hb; have := HS3.out.1; omega
 have HDQ : Hid (∀ b, b < w.heap.size → D b) := Lib.hid fun b hb => by rw [hD]; have := HS3.out.2; exact .inl (by omega)
 have hseq := HSEQ0.out D w3 (q + 4) HG3.out HDQ.out (by rw [hD]; exact .inr (by omega)) (by rw [hD]; exact .inr (by omega)) (by rw [hD]; exact .inr (by omega)) c0 (by rw [HRA.out.1]; exact cR) (by rw [HRA.out.2]; exact cA)
 have HSEQ := Lib.hid hseq
 have h32 : w3.heap[q + 2]? = some (.cells #[.slice none 0 0] 58 (0, 0)) := (g3.block _ (Array.getElem?_eq_some_iff.1 HB.out.2.2.2.1).1).trans HB.out.2.2.2.1
 have h33 : w3.heap[q + 3]? = some (.cells #[.int .i64 0] 3 (0, 0)) := (g3.block _ (Array.getElem?_eq_some_iff.1 HB.out.2.2.2.2.1).1).trans HB.out.2.2.2.2.1
 have HOWN : Hid (OwnFrom w3.heap.size fun (pre : List Nat) W => Rn.Gr D w3 (q + 2) w3.heap.size w3.heap.size ((pre.map fun i => Rn.hold (Rn.bk L i) R A).flatten) W ∧ W.heap[q + 3]? = some (.cells #[.int .i64 (pre.length : Int)] 3 (0, 0))) := Lib.hid (by
  rintro pre A' B' row ⟨h1, h2⟩ hg hr
  exact ⟨Rn.Gr.own (fun b hb => (HDB.out b hb).1) _ () _ _ row h1 hg hr, Rn.blk_own h2 hg hr⟩)
 have HI0 : Hid (Rn.Gr D w3 (q + 2) w3.heap.size w3.heap.size (((([] : List Nat)).map fun i => Rn.hold (Rn.bk L i) R A).flatten) w3 ∧ w3.heap[q + 3]? = some (.cells #[.int .i64 ((([] : List Nat)).length : Int)] 3 (0, 0))) := Lib.hid ⟨⟨Rn.Kd.below (Below.refl _ _), .slice none 0 0, [], h32, Dk.Own.nil _ _, rfl, fun i x hx => by cases hx⟩, h33⟩
 have HBX : Hid (∀ W, Rn.Kd D w3 W → Kn.RAt W q R ∧ Zn.ABlk W (q + 1) A) := Lib.hid fun W hk => by
  have hlow : Below (q + 2) w3 W := hk.low (fun b hb => by rw [HD.out]; exact .inl hb) (by have := HS3.out.1; omega)
  have e0 : W.heap[q]? = w3.heap[q]? := hlow.block q (by omega)
  have e1 : W.heap[q + 1]? = w3.heap[q + 1]? := hlow.block (q + 1) (by omega)
  have hr := HB.out.2.1.later HGD.out
  have ha := HB.out.2.2.1.kept HGD.out
  exact ⟨⟨(World.cell?_of_block e0).trans hr.c0, (World.cell?_of_block e0).trans hr.c1, ⟨(World.cell?_of_block e0).trans hr.lo.c0, (World.cell?_of_block e0).trans hr.lo.c1, (World.cell?_of_block e0).trans hr.lo.c2⟩, ⟨(World.cell?_of_block e0).trans hr.hi.c0, (World.cell?_of_block e0).trans hr.hi.c1, (World.cell?_of_block e0).trans hr.hi.c2⟩⟩,
   ⟨(World.cell?_of_block e1).trans ha.c0, (World.cell?_of_block e1).trans ha.c1, (World.cell?_of_block e1).trans ha.c2, (World.cell?_of_block e1).trans ha.c3, (World.cell?_of_block e1).trans ha.c4⟩⟩
 have HLOW : Hid (∀ W, Rn.Kd D w3 W → Below w.heap.size w W) := Lib.hid fun W hk => HG3.out.trans (hk.low HDQ.out HG3.out.size)
 clear c0 cR cA g3 hs3 hD hseq h32 h33 y0 y1 y2 y3 y4 y5 y6 y7 z0 z1 z2 z3 z4 HX HSEQ0
 refine Rn.range_wa (gf := 82) rfl (enters_of Tryz.func82 (by kernel_rfl) rfl)
  HSEQ.out (Below.refl _ _) (fun b hb => (HDB.out b hb).1) (fun x args W he => by obtain ⟨u, rfl, _⟩ := he; rfl)
  (fun pre W => Rn.Gr D w3 (q + 2) w3.heap.size w3.heap.size ((pre.map fun i => Rn.hold (Rn.bk L i) R A).flatten) W ∧ W.heap[q + 3]? = some (.cells #[.int .i64 (pre.length : Int)] 3 (0, 0))) (fun _ _ _ => False) HOWN.out (fun c s A' B' row h => h.elim) HI0.out
  (fun T pre i a' W => ∃ (xa : Option Addr) (xn xc : Nat), a' = { tmps := (T.setIfInBounds 17 (.slice xa xn xc)).setIfInBounds 10 (.slice xa xn xc), defers := [] } ∧ Bk.Ds w (.slice xa xn xc) (Rn.bk L i) ∧ Rn.Gr D w3 (q + 2) w3.heap.size w3.heap.size ((pre.map fun i => Rn.hold (Rn.bk L i) R A).flatten) W ∧ W.heap[q + 3]? = some (.cells #[.int .i64 (pre.length : Int)] 3 (0, 0))) ?ownA ?assign ?body ?done ?stop
 case ownA =>
  rintro T pre x a' u A' B' row ⟨xa, xn, xc, h0, h1, h2⟩ hg hr
  exact ⟨xa, xn, xc, h0, h1, HOWN.out pre _ _ row h2 hg hr⟩
 case assign =>
  rintro l pre i args W hI ⟨⟨xa, xn, xc⟩, rfl, hds⟩ hpx hbW
  have HI := Lib.hid hI
  have HDS := Lib.hid hds
  clear hI hds hpx hbW
  unfold Bk.sv
  gi_wp2
  exact ⟨Below.refl _ _, xa, xn, xc, by first | rfl | trivial | exact ⟨rfl, rfl, rfl⟩, HDS.out, HI.out⟩
 case body =>
  rintro l pre i a' W hl hlr ⟨xa, xn, xc, rfl, hds, hgr, hn⟩ hpx hkw
  simp only [List.setIfInBounds_toArray, List.set_cons_succ, List.set_cons_zero]
  have hil := HLL.out i (by
   obtain ⟨t, ht⟩ := hpx
   rw [← ht]
   simp)
  have HKM : Hid (∀ x ∈ Rn.bk L i, (∀ v ∈ x.row, Kn.Z v) ∧ x.row ≠ [] ∧ Dd.fitE s x = 0) := Lib.hid fun x hx => by
   have hxL := Rn.bk_mem hx
   exact ⟨(Rn.fit_s HG.out.rt (HG.out.ft x hxL)).1, HG.out.ne x hxL, HG.out.ft x hxL⟩
  have HK8 : Hid ((Rn.bk L i).length ≤ 8) := Lib.hid (by rw [Rn.bk_len]; omega)
  have HPR : Hid (((pre ++ [i]).map fun i => Rn.hold (Rn.bk L i) R A).flatten = ((pre.map fun i => Rn.hold (Rn.bk L i) R A).flatten) ++ Rn.hold (Rn.bk L i) R A ∧ (pre ++ [i]).length = pre.length + 1) := Lib.hid (by simp)
  have HPL : Hid (pre.length < 25) := Lib.hid (by
   obtain ⟨t, ht⟩ := hpx
   have h9 : (pre ++ [i] ++ t).length = lk.length := by rw [ht]
   have := HXL.out
   simp only [List.length_append, List.length_singleton] at h9
   omega)
  have HQL : Hid (((pre.map fun i => Rn.hold (Rn.bk L i) R A).flatten).length ≤ 200) := Lib.hid (Nat.le_trans (Rn.flat_le _ (Rn.hold_len L R A) pre) (by have := HPL.out; omega))
  generalize Rn.bk L i = J at hds HKM HK8 HPR
  generalize (pre.map fun i => Rn.hold (Rn.bk L i) R A).flatten = Q0 at hgr HPR HQL
  obtain ⟨xa', xc', e9, _, _, hb⟩ := id hds
  simp only [Value.slice.injEq] at e9
  obtain ⟨rfl, rfl, rfl⟩ := e9
  have HHB := Lib.hid hb
  have HGR := Lib.hid hgr
  have HNB := Lib.hid hn
  have b0 : W.cell? ⟨q + 3, 0, none⟩ = some (.int .i64 (pre.length : Int)) := by rw [cell_of_row _ _ _ _ _ _ hn]; rfl
  have f0 := frozen_of_row W _ 0 _ _ hn
  have hp0 : (0 : Int) ≤ (pre.length : Int) := by omega
  have hp7 : (pre.length : Int) ≤ 25 := by have := HPL.out; omega
  have HD3 : Hid (¬ D (q + 3) ∧ q + 3 < w3.heap.size) := Lib.hid ⟨by rw [HD.out]; omega, by have := HS3.out.1; omega⟩
  have H5 : Hid (Rn.Gr D w3 (q + 2) w3.heap.size w3.heap.size Q0 (W.setCell ⟨q + 3, 0, none⟩ (.int .i64 ((pre.length : Int) + 1))) ∧ (W.setCell ⟨q + 3, 0, none⟩ (.int .i64 ((pre.length : Int) + 1))).heap[q + 3]? = some (.cells #[.int .i64 ((pre.length : Int) + 1)] 3 (0, 0)) ∧ Rn.Kd D W (W.setCell ⟨q + 3, 0, none⟩ (.int .i64 ((pre.length : Int) + 1))) ∧ KeepsFrom w3.heap.size W (W.setCell ⟨q + 3, 0, none⟩ (.int .i64 ((pre.length : Int) + 1)))) := Lib.hid
   ⟨HGR.out.setN HD3.out.1 (by omega) HD3.out.2 HD3.out.2 _, heap_setCell_same W (q + 3) 0 _ _ _ HNB.out, Rn.Kd.set _ HD3.out.1 _, (KeepsOthers.setCell _ _ _).from _⟩
  generalize pre.length = n at HPR HPL b0 hp0 hp7 H5 HNB
  have HIL := Lib.hid hil
  clear hl hlr hds hgr hn hpx hkw hil hb
  gi_upto_region 6 with (fail)
  generalize W.setCell _ _ = w5 at H5 ⊢
  clear b0 f0 hp0 hp7
  gi_wp2
  gi_loopw [22] (fun iv wr => ∃ k : Nat, k ≤ J.length ∧ iv = .int .i64 k ∧ Rn.Gr D w3 (q + 2) w3.heap.size w3.heap.size (Q0 ++ Rn.hold (J.take k) R A) wr ∧ wr.heap[q + 3]? = some (.cells #[.int .i64 ((n : Int) + 1)] 3 (0, 0)) ∧ Rn.Kd D W wr ∧ KeepsFrom w3.heap.size W wr) (fun iv _ => J.length - (intOf iv).toNat)
  case atStart => exact ⟨0, Nat.zero_le _, rfl, by rw [List.take_zero, show Rn.hold [] R A = [] from rfl, List.append_nil]; exact H5.out.1, H5.out.2.1, H5.out.2.2.1, H5.out.2.2.2⟩
  case round =>
   obtain ⟨k, hk, rfl, hgr, hn, hkd, hkf⟩ := hrel
   by_cases hl : k < J.length
   ·have hx := List.getElem?_eq_getElem hl
    generalize J[k] = x at hx
    have HOB : Hid (Rn.Gr D w3 (q + 2) w3.heap.size w3.heap.size (Q0 ++ Rn.hold (J.take k) R A) wr ∧ wr.heap[q + 3]? = some (.cells #[.int .i64 ((n : Int) + 1)] 3 (0, 0)) ∧ Rn.Kd D W wr ∧ KeepsFrom w3.heap.size W wr) := Lib.hid ⟨hgr, hn, hkd, hkf⟩
    rcases HHB.out with h9 | ⟨b, o, rfl, hbl, hc⟩
    ·rw [h9] at hl; simp at hl
    obtain ⟨u, e0, e1, hu⟩ := hc k x hx
    obtain ⟨hzx, nx, hfx⟩ := HKM.out x (List.mem_of_getElem? hx)
    obtain ⟨ua, uc, rfl, -⟩ := id hu
    obtain ⟨_, xb, xo, rfl, hxb, hxa⟩ := Rn.row_at hu (Rn.key_at nx)
    have hlow : Below w.heap.size w wr := HLOW.out wr hgr.kd
    have HLW := Lib.hid hlow
    have e0 := (hlow.cell (p := ⟨b, o + k * 2, none⟩) hbl).trans e0
    have e1 := (hlow.cell (p := ⟨b, o + k * 2 + 1, none⟩) hbl).trans e1
    have HUV := Lib.hid (hu.later hlow)
    have HXX := Lib.hid (And.intro hzx (And.intro nx hfx))
    have HNX := Lib.hid (Rn.hold_next (r := R) (a := A) hx)
    have HKL := Lib.hid hl
    have hkl : (k : Int) < (J.length : Int) := by omega
    have hk0 : (0 : Int) ≤ (k : Int) := by omega
    have hk8 : (k : Int) ≤ 8 := by have := HK8.out; omega
    have hrl : (0 : Int) < (x.row.length : Int) := by have := List.length_pos_iff.2 nx; omega
    have HAL : Hid (Below wr.heap.size wr (wr.alloc (.cells #[.bool x.gone, .slice (some ⟨xb, xo, none⟩) x.row.length uc] 41))) := Lib.hid ((Below.refl _ _).alloc (Nat.le_refl _) _)
    have t0 := Kn.cell_new wr #[.bool x.gone, .slice (some ⟨xb, xo, none⟩) x.row.length uc] 41 0 _ rfl
    have t1 := Kn.cell_new wr #[.bool x.gone, .slice (some ⟨xb, xo, none⟩) x.row.length uc] 41 1 _ rfl
    simp only [List.getElem_toArray, List.getElem_cons_zero, List.getElem_cons_succ] at t0 t1
    clear hx hl hk hgr hn hkd hkf hc hu hxb hxa hlow hbl hzx nx hfx
    gi_upto_region 9 with (fail)
    obtain ⟨db, hdb⟩ : ∃ db, db = wr.heap.size := ⟨_, rfl⟩
    rw [← hdb] at t0 t1 ⊢
    generalize wr.alloc _ = w9 at HAL t0 t1 ⊢
    clear e0 e1 hdb
    have H9 : Hid (Rn.Gr D w3 (q + 2) w3.heap.size w3.heap.size (Q0 ++ Rn.hold (J.take k) R A) w9 ∧ w9.heap[q + 3]? = some (.cells #[.int .i64 ((n : Int) + 1)] 3 (0, 0)) ∧ Rn.Kd D W w9 ∧ KeepsFrom w3.heap.size W w9) := Lib.hid ⟨Rn.own_below (Rn.Gr.own (fun b hb => (HDB.out b hb).1) _) (s := ()) HOB.out.1 HAL.out, (HAL.out.block _ (Array.getElem?_eq_some_iff.1 HOB.out.2.1).1).trans HOB.out.2.1, HOB.out.2.2.1.trans (Rn.Kd.below HAL.out), HOB.out.2.2.2.trans (Rn.kf_below HAL.out)⟩
    have HMISS : Hid (Rn.holds R A x = false → ∀ W', Below w9.heap.size w9 W' → Rn.Gr D w3 (q + 2) w3.heap.size w3.heap.size (Q0 ++ Rn.hold (J.take (k + 1)) R A) W' ∧ W'.heap[q + 3]? = some (.cells #[.int .i64 ((n : Int) + 1)] 3 (0, 0)) ∧ Rn.Kd D W W' ∧ KeepsFrom w3.heap.size W W') := Lib.hid fun h W' g => by
     rw [HNX.out, h, if_neg (by decide), List.append_nil]
     exact ⟨Rn.own_below (Rn.Gr.own (fun b hb => (HDB.out b hb).1) _) (s := ()) H9.out.1 g, (g.block _ (Array.getElem?_eq_some_iff.1 H9.out.2.1).1).trans H9.out.2.1, H9.out.2.2.1.trans (Rn.Kd.below g), H9.out.2.2.2.trans (Rn.kf_below g)⟩
    have HSTEP : Hid (Rn.holds R A x = true → ∀ w30, Below w9.heap.size w9 w30 → ∀ va vn vc M, w30.heap[q + 2]? = some (.cells #[.slice va vn vc] 58 (0, 0)) → Dk.Own 39 1 Bk.e1 w3.heap.size w30 (.slice va vn vc) M → M.length = (Q0 ++ Rn.hold (J.take k) R A).length → (∀ (i : Nat) (x : List Kn.V), (Q0 ++ Rn.hold (J.take k) R A)[i]? = some x → ∃ y : Option Addr × Nat × Nat, M[i]? = some y ∧ Sk.Rw w3.heap.size w30 (Bk.sv y) x) → ∀ w31 ua9 un9 uc9 wz vz, Below w30.heap.size w30 w31 → Sk.Rw w30.heap.size w31 (.slice ua9 un9 uc9) x.row → Dk.Own 39 1 Bk.e1 w3.heap.size wz vz (M ++ [(ua9, un9, uc9)]) → Ty.Grew (w31.alloc (.cells #[.slice ua9 un9 uc9] 39)) wz (.slice va vn vc) vz →
     Rn.Gr D w3 (q + 2) w3.heap.size w3.heap.size (Q0 ++ Rn.hold (J.take (k + 1)) R A) (wz.setCell ⟨q + 2, 0, none⟩ vz) ∧ (wz.setCell ⟨q + 2, 0, none⟩ vz).heap[q + 3]? = some (.cells #[.int .i64 ((n : Int) + 1)] 3 (0, 0)) ∧ Rn.Kd D W (wz.setCell ⟨q + 2, 0, none⟩ vz) ∧ KeepsFrom w3.heap.size W (wz.setCell ⟨q + 2, 0, none⟩ vz)) := Lib.hid fun h w30 g30 va vn vc M h2 h3 h4 h5 w31 ua9 un9 uc9 wz vz g31 hu9 ho hg => by
     rw [HNX.out, h, if_pos rfl, ← List.append_assoc]
     have ga : Below w30.heap.size w30 (w31.alloc (.cells #[.slice ua9 un9 uc9] 39)) := g31.alloc g31.size _
     have g9a : Below w9.heap.size w9 (w31.alloc (.cells #[.slice ua9 un9 uc9] 39)) := g30.trans (ga.mono g30.size)
     have hsz : w3.heap.size ≤ w30.heap.size := Nat.le_trans H9.out.1.kd.size g30.size
     have hst := Rn.Gr.step (C := w3.heap.size) (w3 := w3) (D := D) HDB.out (H9.out.1.kd.trans (Rn.Kd.below g9a)) ((ga.block _ (Array.getElem?_eq_some_iff.1 h2).1).trans h2) (h3.kept ga) h4 (fun i z hz => by
      obtain ⟨y, e1, e2⟩ := h5 i z hz
      exact ⟨y, e1, e2.kept ga⟩) ho hg (x := x.row) (((hu9.mono hsz).kept ((Below.refl _ w31).alloc (Nat.le_refl _) _)))
     have hn9 := (g9a.block _ (Array.getElem?_eq_some_iff.1 H9.out.2.1).1).trans H9.out.2.1
     refine ⟨hst.2.2, ?_, H9.out.2.2.1.trans ((Rn.Kd.below g9a).trans hst.2.1), H9.out.2.2.2.trans ((Rn.kf_below g9a).trans hst.1)⟩
     exact (heap_setCell_other wz ⟨q + 2, 0, none⟩ (q + 3) vz (show q + 3 ≠ q + 2 by omega)).trans ((Rn.off (h3.kept ga) hg hn9 (by decide)).trans hn9)
    obtain ⟨hra, haa⟩ := HBX.out w9 H9.out.1.kd
    have hu9 := HUV.out.later HAL.out
    obtain ⟨_, xb', xo', e9, _, hxa⟩ := Rn.row_at hu9 (Rn.key_at HXX.out.2.1)
    simp only [Option.some.injEq, Addr.mk.injEq, and_true] at e9
    obtain ⟨rfl, rfl⟩ := e9
    obtain ⟨k0, k1, k2⟩ := hxa
    simp only [Nat.zero_mul, Nat.add_zero] at k0 k1 k2
    have cin := fun wz => Kn.in_c R (Bk.key x) wz
    have HH : Hid (Rn.holds R A x = (!x.gone && Kn.inR R (Bk.key x) && decide (0 ≤ A.col ∧ A.col < (x.row.length : Int)) && Zn.holds A (x.row.getD A.col.toNat Cl.nul))) := Lib.hid rfl
    have HLEN : Hid (x.gone = false → x.row.length = s.length) := Lib.hid fun h => by
     have := (Dd.fitE_0 HXX.out.2.2).2.1
     rw [h] at this
     exact this
    generalize Kn.inR R (Bk.key x) = b1 at cin HH
    obtain ⟨cN, hcN⟩ : ∃ cN : Nat, A.col = (cN : Int) := ⟨A.col.toNat, by have := HIL.out.2.1; omega⟩
    have HCN := Lib.hid hcN
    have hval : x.gone = false → ∃ v, x.row[cN]? = some v ∧ x.row.getD A.col.toNat Cl.nul = v := fun h => by
     have h1 := HLEN.out h
     have h2 := HIL.out.2.2
     have h3 : cN < x.row.length := by omega
     refine ⟨_, List.getElem?_eq_getElem h3, ?_⟩
     rw [hcN, Int.toNat_natCast, List.getD_eq_getElem?_getD, List.getElem?_eq_getElem h3]
     rfl
    have HVAL := Lib.hid hval
    rw [HRA.out.1] at hra cin
    have haa9 := haa
    rw [HRA.out.2] at haa
    obtain ⟨y0, y1, ⟨y2, y3, y4⟩, ⟨y5, y6, y7⟩⟩ := hra
    obtain ⟨z0, z1, z2, z3, z4⟩ := haa
    simp only [Nat.reduceAdd] at y0 y1 y2 y3 y4 y5 y6 y7 z0 z1 z2 z3 z4
    have hcol : col = (cN : Int) := by rw [← hcN, HRA.out.2]
    subst hcol
    generalize Bk.key x = X at k0 k1 k2 cin
    obtain ⟨Xn, Xi, Xs⟩ := X
    unfold Kn.R.val Kn.V.val at cin
    simp only at k0 k1 k2 cin
    have T0 := fun d os => cell_regrown t0 d os
    have T1 := fun d os => cell_regrown t1 d os
    have K0 := fun d os => cell_regrown k0 d os
    have K1 := fun d os => cell_regrown k1 d os
    have K2 := fun d os => cell_regrown k2 d os
    have Y0 := fun d os => cell_regrown y0 d os
    have Y1 := fun d os => cell_regrown y1 d os
    have Y2 := fun d os => cell_regrown y2 d os
    have Y3 := fun d os => cell_regrown y3 d os
    have Y4 := fun d os => cell_regrown y4 d os
    have Y5 := fun d os => cell_regrown y5 d os
    have Y6 := fun d os => cell_regrown y6 d os
    have Y7 := fun d os => cell_regrown y7 d os
    have Z0 := fun d os => cell_regrown z0 d os
    have Z1 := fun d os => cell_regrown z1 d os
    have Z2 := fun d os => cell_regrown z2 d os
    have Z3 := fun d os => cell_regrown z3 d os
    have Z4 := fun d os => cell_regrown z4 d os
    have CA0 : Hid (∀ p : Regrown, _) := Lib.hid fun p : Regrown => Calls.regrown_of (d := p.d) (os := p.os) (w := w9) (cin _)
    have CA1 : Hid True := Lib.hid trivial
    have HT1 := Lib.hid t1
    have hrl2 : 0 < x.row.length := List.length_pos_iff.2 HXX.out.2.1
    clear y0 y1 y2 y3 y4 y5 y6 y7 z0 z1 z2 z3 z4 k0 k1 k2 cin hval haa9 hcN
    cases hg9 : x.gone
    ·rw [hg9] at T0 t0
     cases b1
     ·have HF : Hid (Rn.holds R A x = false) := Lib.hid (by rw [HH.out, Bool.and_false, Bool.false_and, Bool.false_and])
      clear hu9 t0 t1
      refine Rn.quiet_round (by kernel_rfl) (by kernel_rfl) (by kernel_rfl) ?_
      repeat (go_big_quiet_step (first | with_reducible exact CA0.out _ | with_reducible exact CA1.out _))
      refine wpQuiet_nil ?_
      intro w30 hw30
      have HFIN := Lib.hid (HMISS.out HF.out w30 (Bk.below_reg hw30))
      clear hw30
      gi_wp2
      go_roundw
      case rel => exact ⟨k + 1, HKL.out, by simp, HFIN.out⟩
      case measure => (have := HKL.out; simp [intOf]; omega)
     ·obtain ⟨v, hv, hvd⟩ := HVAL.out hg9
      have hvl := (List.getElem?_eq_some_iff.1 hv).1
      have hci : (cN : Int) < (x.row.length : Int) := by omega
      have hc0 : (0 : Int) ≤ (cN : Int) := by omega
      have hc6 : (cN : Int) ≤ 9223372036854775807 := by have := (Rn.fit_s HG.out.rt HXX.out.2.2).2.1; omega
      obtain ⟨_, xb', xo', e9, _, hva⟩ := Rn.row_at hu9 hv
      simp only [Option.some.injEq, Addr.mk.injEq, and_true] at e9
      obtain ⟨rfl, rfl⟩ := e9
      obtain ⟨v0, v1, v2⟩ := hva
      have cho := fun wz => Zn.holds_c A v wz
      have HB2 : Hid (Rn.holds R A x = Zn.holds A v) := Lib.hid (by
       rw [HH.out, hg9, hvd, decide_eq_true ⟨by rw [HCN.out]; exact hc0, by rw [HCN.out]; exact hci⟩]
       rfl)
      generalize Zn.holds A v = b2 at cho HB2
      rw [HRA.out.2] at cho
      obtain ⟨vn9, vi9, vs9⟩ := v
      unfold Zn.As.val Kn.V.val at cho
      simp only at v0 v1 v2 cho
      have V0 := fun d os => cell_regrown v0 d os
      have V1 := fun d os => cell_regrown v1 d os
      have V2 := fun d os => cell_regrown v2 d os
      clear CA1
      have CA1 : Hid (∀ p : Regrown, _) := Lib.hid fun p : Regrown => Calls.regrown_of (d := p.d) (os := p.os) (w := w9) (cho _)
      clear v0 v1 v2 cho t0 t1 hv hvd
      cases b2
      ·have HF := HB2
       refine Rn.quiet_round (by kernel_rfl) (by kernel_rfl) (by kernel_rfl) ?_
       repeat (go_big_quiet_step (first | with_reducible exact CA0.out _ | with_reducible exact CA1.out _))
       refine wpQuiet_nil ?_
       intro w30 hw30
       have HFIN := Lib.hid (HMISS.out HF.out w30 (Bk.below_reg hw30))
       clear hw30
       gi_wp2
       go_roundw
       case rel => exact ⟨k + 1, HKL.out, by simp, HFIN.out⟩
       case measure => (have := HKL.out; simp [intOf]; omega)
      ·have HF := HB2
       refine Rn.quiet_round (by kernel_rfl) (by kernel_rfl) (by kernel_rfl) ?_
       repeat (go_big_quiet_step (first | with_reducible exact CA0.out _ | with_reducible exact CA1.out _))
       refine wpQuiet_nil ?_
       intro w30 hw30
       have g30 : Below w9.heap.size w9 w30 := Bk.below_reg hw30
       obtain ⟨va, M, h2, h3, h4, h5⟩ := (Rn.own_below (Rn.Gr.own (fun b hb => (HDB.out b hb).1) _) (s := ()) H9.out.1 g30).acc
       obtain ⟨va, vn, vc, rfl⟩ := Rn.own_form3 h3
       have HSTEP := Lib.hid (HSTEP.out HF.out w30 g30 va vn vc M h2 h3 h4 h5)
       have HO30 := Lib.hid h3
       have HBB := Lib.hid h2
       have HML : Hid (M.length ≤ 300) := Lib.hid (by
        rw [h4, List.length_append]
        have h1 := HQL.out
        have h9 : (Rn.hold (J.take k) R A).length ≤ 8 := by
         unfold Rn.hold
         rw [List.length_map]
         exact Nat.le_trans (List.length_filter_le ..) (Nat.le_trans (List.length_take_le' _ _) HK8.out)
        omega)
       have HSZ : Hid (w3.heap.size ≤ w30.heap.size) := Lib.hid (Nat.le_trans H9.out.1.kd.size g30.size)
       have HU30 := Lib.hid (hu9.later g30)
       have HDW : Hid (Below w30.heap.size w30 w30.drew) := Lib.hid (Below.refl _ w30).drew
       have CC := Lib.hid (Sk.clone_c (Rn.vals_in (HU30.out.later HDW.out) HXX.out.2.1 HXX.out.1 (by have := (Rn.fit_s HG.out.rt HXX.out.2.2).2.1; omega)))
       have c0 : w30.cell? ⟨q + 2, 0, none⟩ = some (.slice va vn vc) := by rw [cell_of_row _ _ _ _ _ _ h2]; rfl
       have c1 := (g30.cell (World.block_lt_of_cell? w9 _ HT1.out)).trans HT1.out
       have HCB : Hid (∀ W, Below w30.heap.size w30 W → W.cell? ⟨q + 2, 0, none⟩ = some (.slice va vn vc) ∧ W.cell? ⟨db, 1, none⟩ = some (.slice (some ⟨xb, xo, none⟩) x.row.length uc)) := Lib.hid fun W g => ⟨(g.cell (World.block_lt_of_cell? w30 _ c0)).trans c0, (g.cell (World.block_lt_of_cell? w30 _ c1)).trans c1⟩
       generalize x.row.length = xl at CC HCB hci hvl hrl hrl2
       clear hw30 g30 h2 h3 h4 h5 c0 c1 hu9 T0 T1 K0 K1 K2 Y0 Y1 Y2 Y3 Y4 Y5 Y6 Y7 Z0 Z1 Z2 Z3 Z4 V0 V1 V2
       gi_upto_region 10 with (fail)
       refine Rn.any_region (by kernel_rfl) (by kernel_rfl) ?_
       refine Rn.any_two (i := 0) (k := 1) (by kernel_rfl) rfl rfl (fun K hK => ?a1) (fun K hK => ?b1)
       case' a1 =>
        have c8 := (HCB.out w30.drew HDW.out).1
        go_simp
        refine hK.out _ _ ?_
        clear hK K
        clear c8
       case' b1 =>
        go_simp
        refine hK.out _ _ ?_
        clear hK K
       refine Rn.any_two (i := 0) (k := 2) (by kernel_rfl) rfl rfl (fun K hK => ?a2) (fun K hK => ?b2)
       case' a2 =>
        have c8 := (HCB.out w30.drew HDW.out).1
        go_simp
        refine hK.out _ _ ?_
        clear hK K
        clear c8
       case' b2 =>
        have c9 := (HCB.out w30.drew HDW.out).2
        go_simp
        refine hK.out _ _ ?_
        clear hK K
        clear c9
       refine Rn.any_two (i := 0) (k := 3) (by kernel_rfl) rfl rfl (fun K hK => ?a3) (fun K hK => ?b3)
       case' a3 =>
        have c8 := (HCB.out w30.drew HDW.out).1
        go_simp
        refine hK.out _ _ ?_
        clear hK K
        clear c8
       case' b3 =>
        go_simp
        go_at_call 53
        (with_reducible refine (CC.out).mono ?_); rintro e w31 ⟨u9, rfl, hu9, g31⟩
        have HB31 : Hid (Below w30.heap.size w30 w31) := Lib.hid (HDW.out.trans (g31.mono HDW.out.size))
        have HU31 := Lib.hid hu9
        obtain ⟨ua9, un9, uc9, rfl⟩ := Rn.own_form3 hu9
        clear hu9 g31
        go_wp2_with fail
        refine hK.out _ _ ?_
        clear hK K
       refine Rn.any_two (i := 0) (k := 4) (by kernel_rfl) rfl rfl (fun K hK => ?a4) (fun K hK => ?b4)
       case' a4 =>
        have c8 := (HCB.out w31 HB31.out).1
        go_simp
        refine hK.out _ _ ?_
        clear hK K
        clear c8
       case' b4 =>
        go_simp
        refine hK.out _ _ ?_
        clear hK K
       refine Rn.any_one (i := 0) (by kernel_rfl) rfl (fun K hK => ?_)
       have c8 := (HCB.out (w31.alloc (.cells #[.slice ua9 un9 uc9] 39)) (HB31.out.alloc HB31.out.size _)).1
       go_simp
       refine hK.out _ _ ?_
       clear hK K
       clear c8
       case' a1 =>
        refine Rn.any_one (i := 1) (by kernel_rfl) rfl (fun K hK => ?_)
        go_simp
        refine hK.out _ _ ?_
        clear hK K
       case' a1 | a2 =>
        refine Rn.any_one (i := 2) (by kernel_rfl) rfl (fun K hK => ?_)
        have c9 := (HCB.out w30.drew HDW.out).2
        go_simp
        refine hK.out _ _ ?_
        clear hK K
        clear c9
       case' a1 | a2 | a3 =>
        refine Rn.any_one (i := 3) (by kernel_rfl) rfl (fun K hK => ?_)
        go_simp
        go_at_call 53
        (with_reducible refine (CC.out).mono ?_); rintro e w31 ⟨u9, rfl, hu9, g31⟩
        have HB31 : Hid (Below w30.heap.size w30 w31) := Lib.hid (HDW.out.trans (g31.mono HDW.out.size))
        have HU31 := Lib.hid hu9
        obtain ⟨ua9, un9, uc9, rfl⟩ := Rn.own_form3 hu9
        clear hu9 g31
        go_wp2_with fail
        refine hK.out _ _ ?_
        clear hK K
       case' a1 | a2 | a3 | a4 =>
        refine Rn.any_one (i := 4) (by kernel_rfl) rfl (fun K hK => ?_)
        go_simp
        refine hK.out _ _ ?_
        clear hK K
       all_goals (
        refine Rn.any_one (i := 5) (by kernel_rfl) rfl (fun K hK => ?_)
        have hO9 := (HO30.out.kept HB31.out).kept ((Below.refl _ w31).alloc (Nat.le_refl _) (.cells #[.slice ua9 un9 uc9] 39))
        have hk9 : (w31.alloc (.cells #[.slice ua9 un9 uc9] 39)).heap[q + 2]? = some (.cells #[.slice va vn vc] 58 (0, 0)) := ((HB31.out.alloc HB31.out.size _).block _ (Array.getElem?_eq_some_iff.1 HBB.out).1).trans HBB.out
        have HO9 := Lib.hid (And.intro hO9 hk9)
        clear hO9 hk9
        refine Dk.step_appendB (enc := Bk.e1) 58 _ 24 Tryz.underlying58 Rn.infoRow rfl (by decide) Bk.e1_len Bk.e1_one [(ua9, un9, uc9)] (base := w3.heap.size) (Nat.le_trans HSZ.out (HB31.out.alloc HB31.out.size _).size) HO9.out.1 (by have := HML.out; simp only [List.length_singleton]; omega) (by have := HML.out; simp only [List.length_singleton]; omega) _ _ _ (by rfl) (by rfl) (by rfl) (by rfl) (Dk.src_cell (Dk.cell_new rfl)) ?_; intro v9 w9 o9 g9
        obtain ⟨v9a, v9n, v9c, hv9⟩ := Rn.own_form3 o9
        subst hv9
        have hp9 := (Rn.off HO9.out.1 g9 HO9.out.2 (by decide)).trans HO9.out.2
        have d9 := cell_of_row _ _ 0 _ _ _ hp9
        have k9 := frozen_of_row _ _ 0 _ _ hp9
        simp only [List.getElem?_toArray, List.getElem?_cons_zero] at d9
        have HFIN := Lib.hid (HSTEP.out w31 ua9 un9 uc9 w9 (.slice v9a v9n v9c) HB31.out HU31.out o9 g9)
        clear o9 g9 hp9
        refine hK.out _ _ ?_
        clear hK K
        refine Rn.any_one (i := 6) (by kernel_rfl) rfl (fun K hK => ?_)
        go_simp
        refine hK.out _ _ ?_
        clear hK K
        refine wpAny_done (by kernel_rfl) ?_ _
        refine Sk.Calm.normal ?_
        clear d9 k9
        gi_wp2
        go_roundw
        case rel => exact ⟨k + 1, HKL.out, by simp, HFIN.out⟩
        case measure => (have := HKL.out; simp [intOf]; omega))
    ·rw [hg9] at T0 t0
     have HF : Hid (Rn.holds R A x = false) := Lib.hid (by rw [HH.out, hg9]; rfl)
     clear hu9 t0 t1
     refine Rn.quiet_round (by kernel_rfl) (by kernel_rfl) (by kernel_rfl) ?_
     repeat (go_big_quiet_step (first | with_reducible exact CA0.out _ | with_reducible exact CA1.out _))
     refine wpQuiet_nil ?_
     intro w30 hw30
     have HFIN := Lib.hid (HMISS.out HF.out w30 (Bk.below_reg hw30))
     clear hw30
     gi_wp2
     go_roundw
     case rel => exact ⟨k + 1, HKL.out, by simp, HFIN.out⟩
     case measure => (have := HKL.out; simp [intOf]; omega)
   ·obtain rfl : k = J.length := by omega
    have hkl : ¬ (J.length : Int) < (J.length : Int) := by omega
    rw [List.take_length, ← HPR.out.1] at hgr
    have HE : Hid (KeepsFrom w3.heap.size W wr ∧ Rn.Kd D W wr ∧ Rn.Gr D w3 (q + 2) w3.heap.size w3.heap.size ((pre ++ [i]).map fun i => Rn.hold (Rn.bk L i) R A).flatten wr ∧ wr.heap[q + 3]? = some (.cells #[.int .i64 ((pre ++ [i]).length : Int)] 3 (0, 0))) := Lib.hid ⟨hkf, hkd, hgr, by rw [HPR.out.2]; exact hn⟩
    clear hk hl hgr hn hkd hkf
    gi_wp2
    exact HE.out
 case stop =>
  rintro N c pre W hN hpre hne h hK
  exact h.elim
 case done =>
  rintro N W hN ⟨⟨hkd, v, M, h2, h3, h4, h5⟩, hn⟩ hK
  rw [HLK.out] at h4 h5
  have HRW := Lib.hid fun m => Rn.Gr.rws_put (m := m) h3 h4 h5 hN hK
  have b2 : W.cell? ⟨q + 2, 0, none⟩ = some v := by rw [cell_of_row _ _ _ _ _ _ h2]; rfl
  have b3 : W.cell? ⟨q + 3, 0, none⟩ = some (.int .i64 (lkd : Int)) := by rw [cell_of_row _ _ _ _ _ _ hn, HLN.out]; rfl
  have HBW := Lib.hid (HLOW.out W hkd)
  have HK := Lib.hid (And.intro hN hK)
  obtain ⟨va, vn, vc, rfl⟩ := Rn.own_form3 h3
  clear hkd h2 h3 h4 h5 hN hK hn
  gi_wp2
  refine wpIn_wide.2 ?_
  go_quiet (fail)
  have HB9 : Hid (Below w.heap.size w (W.drewN nq)) := Lib.hid (HBW.out.trans ((Bt.drewN_below _ _).mono HBW.out.size))
  have hK9 : (W.drewN nq).heap[N]? = some (.deferred (some [])) := HK.out.2
  have HP9 := Lib.hid (HPO.out _ _ (HRW.out nq) (HB9.out.trans (belowK_b (Nat.le_refl _) (W.drewN nq) N _ _ (by have := HG3.out.size; have := HK.out.1; omega) hK9 rfl rfl)))
  gi_wp2
  refine ⟨by simp, .inl ⟨_, _, rfl, run_takeDeferred hK9, ?_⟩⟩
  refine ⟨_, results_tmp2 rfl _ _ _, ?_⟩
  exact HP9.out
end
section
open Go.RowKit
theorem Rn.hold_ways (r : Kn.R) (a : Zn.As) (d : Dd.D) : (d.gone = true ∧ Rn.holds r a d = false) ∨ (d.gone = false ∧ Kn.inR r (Bk.key d) = false ∧ Rn.holds r a d = false) ∨ (d.gone = false ∧ Kn.inR r (Bk.key d) = true ∧ a.col < 0 ∧ Rn.holds r a d = false) ∨
 (d.gone = false ∧ Kn.inR r (Bk.key d) = true ∧ ¬ a.col < 0 ∧ (d.row.length : Int) ≤ a.col ∧ Rn.holds r a d = false) ∨ (d.gone = false ∧ Kn.inR r (Bk.key d) = true ∧ ∃ j : Nat, a.col = (j : Int) ∧ j < d.row.length ∧ Rn.holds r a d = Zn.holds a (d.row.getD j Cl.nul)) := by
 unfold Rn.holds
 cases hg : d.gone
 ·cases hi : Kn.inR r (Bk.key d)
  ·exact .inr (.inl ⟨rfl, rfl, by simp⟩)
  ·by_cases h0 : a.col < 0
   ·exact .inr (.inr (.inl ⟨rfl, rfl, h0, by simp; omega⟩))
   ·by_cases h1 : (d.row.length : Int) ≤ a.col
    ·exact .inr (.inr (.inr (.inl ⟨rfl, rfl, h0, h1, by simp; omega⟩)))
    ·obtain ⟨j, hj⟩ := Int.eq_ofNat_of_zero_le (show 0 ≤ a.col by omega)
     refine .inr (.inr (.inr (.inr ⟨rfl, rfl, j, hj, by omega, ?_⟩)))
     rw [hj]
     have e1 : decide (0 ≤ ((j : Nat) : Int) ∧ ((j : Nat) : Int) < (d.row.length : Int)) = true := decide_eq_true (by omega)
     rw [e1]
     simp
 ·exact .inl ⟨rfl, by simp⟩
set_option maxHeartbeats 8000000 in
set_option maxRecDepth 100000 in
theorem Rn.rhold_c (v : Value) (L : List Dd.D) (r : Kn.R) (a : Zn.As) (w : World) (hv : Bk.Ds w v L) (hz : Bk.Zs L) (hk : ∀ d ∈ L, d.row ≠ []) (hl : Kn.Z r.lo) (hh : Kn.Z r.hi) (ha : Kn.Z a.v) (h200 : L.length ≤ 1048576) :
 Calls Tryz.prog 24 #[v, r.val, a.val] w fun e w' => ∃ u, e = .returned u ∧ Rn.Rws w' u (Rn.hold L r a) ∧ Below w.heap.size w w' := by
 obtain ⟨R, hr, hrv⟩ := hv.dr
 have HRV := Lib.hid hrv
 have HZ := Lib.hid hz
 have HKE := Lib.hid hk
 have H2 := Lib.hid h200
 obtain ⟨va, vc, rfl, h⟩ := hr
 have HH := Lib.hid h
 have CI := Lib.hid fun (k : Kn.V) (hk : Kn.Z k) (wz : World) => Kn.rin_c r k hk hl hh wz
 have CO := Lib.hid fun (x : Kn.V) (hk : Kn.Z x) (wz : World) => Zn.rholds_c a x ha hk wz
 have HWY := Lib.hid (Rn.hold_ways r a)
 unfold Rn.hold
 obtain ⟨hR, hA⟩ := Rn.boxedL w r a 43 54
 have HR0 := Lib.hid hR
 have HA0 := Lib.hid hA
 have HB0 := Lib.hid (Kn.box2 w (.cells #[.bool r.from_, .bool r.til, .bool r.lo.null, .int .i64 r.lo.n, .string r.lo.s, .bool r.hi.null, .int .i64 r.hi.n, .string r.hi.s] 43) (.cells #[.int .i64 a.op, .int .i64 a.col, .bool a.v.null, .int .i64 a.v.n, .string a.v.s] 54))
 generalize Rn.holds r a = P at HWY ⊢
 clear hv hrv hz hk h200 h hl hh ha hR hA
 go_enter Tryz.func24, Tryz.ntmps24
 go_wp2_with fail
 generalize (World.alloc _ _).alloc _ = w1 at HR0 HA0 HB0 ⊢
 go_loopw [7, 8] (fun out i wr => ∃ k : Nat, k ≤ L.length ∧ i = .int .i64 k ∧ Dk.Own 39 1 Bk.e1 w1.heap.size wr out (Rn.il P (Rn.fr R) 0 (L.take k)) ∧ Below w1.heap.size w1 wr) (fun _ i _ => L.length - (intOf i).toNat)
 case atStart => exact ⟨0, Nat.zero_le _, rfl, Dk.Own.nil _ _, Below.refl _ _⟩
 case round =>
  obtain ⟨k, hk, rfl, hO, hB⟩ := hrel
  have HO := Lib.hid hO
  have HB := Lib.hid hB
  clear hO hB
  by_cases hkl : k < L.length
  ·rcases HH.out with rfl | ⟨b, o, rfl, hlt, hc⟩
   ·simp at hkl
   ·have hx := List.getElem?_eq_getElem hkl
    generalize L[k] = d at hx
    obtain ⟨c0, c1⟩ := hc k d hx
    have HBW := Lib.hid (HB0.out.trans (HB.out.mono HB0.out.size))
    have c0 := (HBW.out.cell (p := ⟨b, o + k * 2, none⟩) hlt).trans c0
    have c1 := (HBW.out.cell (p := ⟨b, o + k * 2 + 1, none⟩) hlt).trans c1
    have hv9 := (HRV.out k d hx).later HBW.out
    have hne := HKE.out d (List.mem_of_getElem? hx)
    have hkey := Rn.key_at hne
    have hzk := HZ.out d (List.mem_of_getElem? hx) _ (List.mem_of_getElem? hkey)
    have HZD := Lib.hid fun (j : Nat) (x : Kn.V) (h : d.row[j]? = some x) => HZ.out d (List.mem_of_getElem? hx) x (List.mem_of_getElem? h)
    have cI := CI.out (Bk.key d) hzk
    have hway := HWY.out d
    have HT := Lib.hid (Rn.il_take (p := P) (f := Rn.fr R) hx)
    have HML : Hid ((Rn.il P (Rn.fr R) 0 (L.take k)).length ≤ 1048576) := Lib.hid (by
     rw [Rn.il_len]
     refine Nat.le_trans (List.length_filter_le ..) ?_
     rw [List.length_take]
     have := H2.out
     omega)
    generalize Rn.il P (Rn.fr R) 0 (L.take k) = M at HO HT HML
    rw [show Rn.fr R k d = R k from rfl] at HT
    generalize R k = rk at c1 hv9 HT
    obtain ⟨ra, rn, rc⟩ := rk
    simp only [Bk.sv] at c1 hv9
    generalize Bk.key d = x at hkey hzk cI hway
    obtain ⟨rfl, b2, o2, rfl, hb2, hat⟩ := Rn.row_at hv9 hkey
    have HROW := Lib.hid hv9
    have e0 := hat.c0
    have e1 := hat.c1
    have e2 := hat.c2
    simp only [Nat.zero_mul, Nat.add_zero] at e0 e1 e2
    have hRt := HR0.out.later HB.out
    have hAt := HA0.out.kept HB.out
    have x0 := hRt.c0
    have x1 := hRt.c1
    have x2 := hRt.lo.c0
    have x3 := hRt.lo.c1
    have x4 := hRt.lo.c2
    have x5 := hRt.hi.c0
    have x6 := hRt.hi.c1
    have x7 := hRt.hi.c2
    simp only [Nat.reduceAdd] at x3 x4 x6 x7
    have y1 := hAt.c1
    have dk : (k : Int) < (L.length : Int) := by omega
    have dk0 : (0 : Int) ≤ (k : Int) := by omega
    have dk7 : (k : Int) ≤ 1048576 := by have := H2.out; omega
    have hrl : (0 : Int) < (d.row.length : Int) := by have := List.length_pos_iff.2 hne; omega
    have HK := Lib.hid hkl
    have HX2 := Lib.hid c1
    have HLT : Hid (b < wr.heap.size) := Lib.hid (Nat.lt_of_lt_of_le hlt HBW.out.size)
    have HAT := Lib.hid hAt
    obtain ⟨rf, rt, ⟨r1, r2, r3⟩, ⟨r4, r5, r6⟩⟩ := r
    unfold Kn.R.val Kn.V.val at cI
    simp only at x0 x1 x2 x3 x4 x5 x6 x7 cI
    have X0 := fun d os => cell_regrown x0 d os
    have X1 := fun d os => cell_regrown x1 d os
    have X2 := fun d os => cell_regrown x2 d os
    have X3 := fun d os => cell_regrown x3 d os
    have X4 := fun d os => cell_regrown x4 d os
    have X5 := fun d os => cell_regrown x5 d os
    have X6 := fun d os => cell_regrown x6 d os
    have X7 := fun d os => cell_regrown x7 d os
    have Y1 := fun d os => cell_regrown y1 d os
    have C0 := fun d os => cell_regrown c0 d os
    have C1 := fun d os => cell_regrown c1 d os
    have E0 := fun d os => cell_regrown e0 d os
    have E1 := fun d os => cell_regrown e1 d os
    have E2 := fun d os => cell_regrown e2 d os
    have CA : Hid (∀ p : Regrown, _) := Lib.hid fun p : Regrown => Calls.regrown_of (d := p.d) (os := p.os) (w := wr) (cI _)
    clear hc hx hv9 hne hkey hzk cI hat hRt hAt x0 x1 x2 x3 x4 x5 x6 x7 y1 c0 c1 e0 e1 e2 hkl hk hlt hb2
    have HWY2 := Lib.hid hway
    clear hway
    go_upto_region 5 with (fail)
    rcases HWY2.out with ⟨h1, h9⟩ | ⟨h1, h2, h9⟩ | ⟨h1, h2, h3, h9⟩ | ⟨h1, h2, h3, h4, h9⟩ | ⟨h1, h2, j, h3, h4, h9⟩
    ·rw [h1] at C0
     have HT2 := Lib.hid (HT.out.trans (by rw [h9, if_neg (by decide), List.append_nil]))
     clear h1 h9 HWY2
     refine wp_region_quiet_below (by kernel_rfl) (by kernel_rfl) ?_
     repeat (go_big_quiet_step (first | with_reducible exact CA.out _))
     refine wpQuiet_nil ?_
     intro w5 hw'
     have hg := Bk.below_reg hw'
     have HB5 := Lib.hid (HB.out.trans (hg.mono HB.out.size))
     have HO5 := Lib.hid (HO.out.kept hg)
     clear hw' hg
     go_wp2
     go_roundw
     case rel => exact ⟨k + 1, HK.out, by simp, by rw [HT2.out]; exact HO5.out, HB5.out⟩
     case measure => (have := HK.out; simp [intOf]; omega)
    ·rw [h1] at C0
     rw [h2] at CA
     have HT2 := Lib.hid (HT.out.trans (by rw [h9, if_neg (by decide), List.append_nil]))
     clear h1 h2 h9 HWY2
     refine wp_region_quiet_below (by kernel_rfl) (by kernel_rfl) ?_
     repeat (go_big_quiet_step (first | with_reducible exact CA.out _))
     refine wpQuiet_nil ?_
     intro w5 hw'
     have hg := Bk.below_reg hw'
     have HB5 := Lib.hid (HB.out.trans (hg.mono HB.out.size))
     have HO5 := Lib.hid (HO.out.kept hg)
     clear hw' hg
     go_wp2
     go_roundw
     case rel => exact ⟨k + 1, HK.out, by simp, by rw [HT2.out]; exact HO5.out, HB5.out⟩
     case measure => (have := HK.out; simp [intOf]; omega)
    ·rw [h1] at C0
     rw [h2] at CA
     have hd : decide (a.col < 0) = true := decide_eq_true h3
     have HT2 := Lib.hid (HT.out.trans (by rw [h9, if_neg (by decide), List.append_nil]))
     clear h1 h2 h9 HWY2
     refine wp_region_quiet_below (by kernel_rfl) (by kernel_rfl) ?_
     repeat (go_big_quiet_step (first | with_reducible exact CA.out _))
     refine wpQuiet_nil ?_
     intro w5 hw'
     have hg := Bk.below_reg hw'
     have HB5 := Lib.hid (HB.out.trans (hg.mono HB.out.size))
     have HO5 := Lib.hid (HO.out.kept hg)
     clear hw' hg
     go_wp2
     go_roundw
     case rel => exact ⟨k + 1, HK.out, by simp, by rw [HT2.out]; exact HO5.out, HB5.out⟩
     case measure => (have := HK.out; simp [intOf]; omega)
    ·rw [h1] at C0
     rw [h2] at CA
     have hd : decide (a.col < 0) = false := decide_eq_false (by omega)
     have hd2 : decide ((d.row.length : Int) ≤ a.col) = true := decide_eq_true h4
     have HT2 := Lib.hid (HT.out.trans (by rw [h9, if_neg (by decide), List.append_nil]))
     clear h1 h2 h9 HWY2
     refine wp_region_quiet_below (by kernel_rfl) (by kernel_rfl) ?_
     repeat (go_big_quiet_step (first | with_reducible exact CA.out _))
     refine wpQuiet_nil ?_
     intro w5 hw'
     have hg := Bk.below_reg hw'
     have HB5 := Lib.hid (HB.out.trans (hg.mono HB.out.size))
     have HO5 := Lib.hid (HO.out.kept hg)
     clear hw' hg
     go_wp2
     go_roundw
     case rel => exact ⟨k + 1, HK.out, by simp, by rw [HT2.out]; exact HO5.out, HB5.out⟩
     case measure => (have := HK.out; simp [intOf]; omega)
    ·rw [h1] at C0
     rw [h2] at CA
     have hd : decide (a.col < 0) = false := decide_eq_false (by omega)
     have hd2 : decide ((d.row.length : Int) ≤ a.col) = false := decide_eq_false (by omega)
     obtain ⟨y, hy⟩ : ∃ y, d.row[j]? = some y := ⟨_, List.getElem?_eq_getElem h4⟩
     have e9 : d.row.getD j Cl.nul = y := by rw [List.getD_eq_getElem?_getD, hy]; rfl
     rw [e9] at h9
     have cO := CO.out y (HZD.out j y hy)
     obtain ⟨-, b3, o3, hb3, hb3l, hat⟩ := Rn.row_at HROW.out hy
     cases hb3
     have hjl : (j : Int) < (d.row.length : Int) := by omega
     have hj0 : (0 : Int) ≤ (j : Int) := by omega
     have HAY := Lib.hid hat
     have HBL := Lib.hid hb3l
     have HH3 := Lib.hid h3
     have HP9 := Lib.hid h9
     clear h1 h2 h3 h4 h9 hy e9 HWY2 hat hb3l HZD
     refine wp_region_quiet_below (by kernel_rfl) (by kernel_rfl) ?_
     repeat (go_big_quiet_step (first | with_reducible exact CA.out _))
     refine wpQuiet_nil ?_
     intro w5 hw'
     have hg := Bk.below_reg hw'
     have HB5 := Lib.hid (HB.out.trans (hg.mono HB.out.size))
     have HO5 := Lib.hid (HO.out.kept hg)
     have hAt := HAT.out.kept hg
     have y0 := hAt.c0
     have y1 := hAt.c1
     have y2 := hAt.c2
     have y3 := hAt.c3
     have y4 := hAt.c4
     have c1 := (hg.cell (p := ⟨b, o + k * 2 + 1, none⟩) HLT.out).trans HX2.out
     have hat := HAY.out.later hg
     have e0 := hat.c0
     have e1 := hat.c1
     have e2 := hat.c2
     have HLT5 : Hid (b < w5.heap.size) := Lib.hid (Nat.lt_of_lt_of_le HLT.out hg.size)
     have hh3 := HH3.out
     clear hw' hg hAt hat X0 X1 X2 X3 X4 X5 X6 X7 Y1 C0 C1 E0 E1 E2 CA hd hd2
     obtain ⟨op, col, ⟨an, ai, sa⟩⟩ := a
     simp only at y0 y1 y2 y3 y4 hh3 HP9
     subst hh3
     unfold Zn.As.val Kn.V.val at cO
     simp only at cO
     have HX5 := Lib.hid c1
     have Y0 := fun d os => cell_regrown y0 d os
     have Y1 := fun d os => cell_regrown y1 d os
     have Y2 := fun d os => cell_regrown y2 d os
     have Y3 := fun d os => cell_regrown y3 d os
     have Y4 := fun d os => cell_regrown y4 d os
     have C1 := fun d os => cell_regrown c1 d os
     have E0 := fun d os => cell_regrown e0 d os
     have E1 := fun d os => cell_regrown e1 d os
     have E2 := fun d os => cell_regrown e2 d os
     generalize Zn.holds _ y = hb at cO HP9
     have CA : Hid (∀ p : Regrown, _) := Lib.hid fun p : Regrown => Calls.regrown_of (d := p.d) (os := p.os) (w := w5) (cO _)
     clear y0 y1 y2 y3 y4 c1 e0 e1 e2 cO
     go_upto_region 6 with (fail)
     refine wp_region_quiet_below (by kernel_rfl) (by kernel_rfl) ?_
     repeat (go_big_quiet_step (first | with_reducible exact CA.out _))
     refine wpQuiet_nil ?_
     intro w6 hw'
     have hg := Bk.below_reg hw'
     have HB6 := Lib.hid (HB5.out.trans (hg.mono HB5.out.size))
     have hO6 := HO5.out.kept hg
     have c1 := (hg.cell (p := ⟨b, o + k * 2 + 1, none⟩) HLT5.out).trans HX5.out
     have hbs : w1.heap.size ≤ w6.heap.size := HB6.out.size
     have hml := HML.out
     clear hw' hg
     cases hb
     ·have HT2 := Lib.hid (HT.out.trans (by rw [HP9.out, if_neg (by decide), List.append_nil]))
      have HO7 := Lib.hid hO6
      clear hO6 hbs hml c1
      go_wp2
      go_roundw
      case rel => exact ⟨k + 1, HK.out, by simp, by rw [HT2.out]; exact HO7.out, HB6.out⟩
      case measure => (have := HK.out; simp [intOf]; omega)
     ·have HT2 := Lib.hid (HT.out.trans (by rw [HP9.out, if_pos rfl]))
      go_wp2_with (at_builtin; refine Dk.wpList_append1 58 _ 24 Tryz.underlying58 Bk.infoR rfl (by decide) Bk.e1_len Bk.e1_one (some ⟨b2, o2, none⟩, d.row.length, rc) hO6 hbs (by omega) (by omega) _ rfl _ rfl (.tmp 59) (.tmp 65) (by rfl) (by rfl) (by rfl) (by rfl) ?_; intro v7 w7 h7 g7)
      have H7 := Lib.hid h7
      have HB7 := Lib.hid (Dk.own_below HB6.out hO6 g7)
      clear h7 g7 hO6 hbs hml
      go_roundw
      case rel => exact ⟨k + 1, HK.out, by simp, by rw [HT2.out]; exact H7.out, HB7.out⟩
      case measure => (have := HK.out; simp [intOf]; omega)
  ·obtain rfl : k = L.length := by omega
   have dk : ¬ (L.length : Int) < (L.length : Int) := by omega
   rw [List.take_length] at HO
   clear hk hkl
   go_wp2
   go_ret
   exact ⟨_, rfl, Rn.own_rws HO.out (fun i x hx => (HRV.out i x hx).later (HB0.out.trans (HB.out.mono HB0.out.size))), HB0.out.trans (HB.out.mono HB0.out.size)⟩
end
section
open Go Go.RowKit
def Rn.qs (c0 c1 : Value) (r : Kn.R) (a : Zn.As) (c15 c16 c17 : Value) : Array Value := #[c0, c1, .bool r.from_, .bool r.til, .bool r.lo.null, .int .i64 r.lo.n, .string r.lo.s, .bool r.hi.null, .int .i64 r.hi.n, .string r.hi.s, .int .i64 a.op, .int .i64 a.col, .bool a.v.null, .int .i64 a.v.n, .string a.v.s, c15, c16, c17]
theorem Rn.nb_look (s : List Kn.C) (L : List Dd.D) (r : Kn.R) (a : Zn.As) : Rn.looked s L r a ≤ Rn.nb L.length := by
 unfold Rn.looked
 exact Nat.le_trans (List.length_filter_le ..) (by rw [List.length_range]; exact Nat.le_refl _)
theorem Rn.hold_all (L : List Dd.D) (r : Kn.R) (a : Zn.As) : (Rn.hold L r a).length ≤ L.length := by
 unfold Rn.hold
 rw [List.length_map]
 exact List.length_filter_le ..
set_option maxHeartbeats 8000000 in
set_option maxRecDepth 100000 in
theorem Rn.lawMatches_w (vs v : Value) (s : List Kn.C) (L : List Dd.D) (c0 c1 : Value) (r : Kn.R) (a : Zn.As) (c15 c16 c17 : Value) (w : World) (hT : Ty.Tabs w) (hs : Dd.Cols w vs s) (hv : Bk.Ds w v L) (hz : Bk.Zs L) (hi : ∀ d ∈ L, ∀ x ∈ d.row, Ty.I64 x.n) (hlo : Kn.Z r.lo) (hhi : Kn.Z r.hi) (hav : Kn.Z a.v) :
 Calls Tryz.prog 6 #[vs, v, .agg (Rn.qs c0 c1 r a c15 c16 c17)] w fun e w' => e = .returned (.bool true) ∧ Below w.heap.size w w' := by
 have HT := Lib.hid hT
 have HS := Lib.hid hs
 have HV := Lib.hid hv
 have HZ := Lib.hid (Rn.zs_take hz 200)
 have HI := Lib.hid (Rn.i64_take hi 200)
 have HK2 : Hid ((L.take 200).length ≤ 200) := Lib.hid Rn.take_le
 obtain ⟨ka, kc, rfl, -⟩ := hv
 obtain ⟨⟨sa, sc, rfl, -⟩, -⟩ := hs
 obtain ⟨w1, hw1⟩ : ∃ w1, w1 = w.alloc (.cells (Rn.qs c0 c1 r a c15 c16 c17) 57) := ⟨_, rfl⟩
 have HB1 : Hid (Below w.heap.size w w1) := Lib.hid (by rw [hw1]; exact (Below.refl _ w).alloc (Nat.le_refl _) _)
 obtain ⟨kb, hkb⟩ : ∃ kb, kb = w.heap.size := ⟨_, rfl⟩
 have hq : ∀ (i : Nat) (x : Value), (Rn.qs c0 c1 r a c15 c16 c17)[i]? = some x → w1.cell? ⟨kb, i, none⟩ = some x := fun i x h => by rw [hw1, hkb]; exact Kn.cell_new w _ _ i x h
 have HQ : Hid (∀ W, Below w1.heap.size w1 W → W.cell? ⟨kb, 2, none⟩ = some (.bool r.from_) ∧ W.cell? ⟨kb, 3, none⟩ = some (.bool r.til) ∧ W.cell? ⟨kb, 4, none⟩ = some (.bool r.lo.null) ∧ W.cell? ⟨kb, 5, none⟩ = some (.int .i64 r.lo.n) ∧ W.cell? ⟨kb, 6, none⟩ = some (.string r.lo.s) ∧ W.cell? ⟨kb, 7, none⟩ = some (.bool r.hi.null) ∧ W.cell? ⟨kb, 8, none⟩ = some (.int .i64 r.hi.n) ∧ W.cell? ⟨kb, 9, none⟩ = some (.string r.hi.s) ∧ W.cell? ⟨kb, 10, none⟩ = some (.int .i64 a.op) ∧ W.cell? ⟨kb, 11, none⟩ = some (.int .i64 a.col) ∧ W.cell? ⟨kb, 12, none⟩ = some (.bool a.v.null) ∧ W.cell? ⟨kb, 13, none⟩ = some (.int .i64 a.v.n) ∧ W.cell? ⟨kb, 14, none⟩ = some (.string a.v.s)) := Lib.hid fun W g => by
  have hk : ∀ (i : Nat) (x : Value), (Rn.qs c0 c1 r a c15 c16 c17)[i]? = some x → W.cell? ⟨kb, i, none⟩ = some x := fun i x h => (g.cell (World.block_lt_of_cell? w1 _ (hq i x h))).trans (hq i x h)
  exact ⟨hk 2 _ rfl, hk 3 _ rfl, hk 4 _ rfl, hk 5 _ rfl, hk 6 _ rfl, hk 7 _ rfl, hk 8 _ rfl, hk 9 _ rfl, hk 10 _ rfl, hk 11 _ rfl, hk 12 _ rfl, hk 13 _ rfl, hk 14 _ rfl⟩
 have HLV := Lib.hid fun (wz : World) (g : Below w.heap.size w wz) => Rn.lives_c wz (Rn.tb2 HT.out g)
 have HEA := Lib.hid fun (wz : World) (g : Below w.heap.size w wz) => Rn.early_c (HV.out.later g)
 unfold Rn.qs at hw1 ⊢
 by_cases h0 : Rn.wE s (L.take 200) = 0
 ·have HLD := Lib.hid fun (v : Value) (wz : World) (g : Below w.heap.size w wz) (hd : Bk.Ds wz v (L.take 200)) => Rn.loaded_p _ v s (L.take 200) wz (Rn.tb2 HT.out g) (HS.out.later g) hd HZ.out HI.out HK2.out h0
  have HG : Hid (Rn.Gd s (L.take 200)) := Lib.hid ⟨h0, HK2.out⟩
  have HN : Hid (0 < (L.take 200).length) := Lib.hid (Rn.wE_0 h0).2.1
  unfold Rn.EarlyD at HEA
  generalize L.take 200 = K at HEA HLD HG HZ HI HK2 HN
  clear hT hz hi h0 hq
  go_enter Tryz.func6, Tryz.ntmps6
  go_upto_region 1 with (fail)
  rw [← hw1, ← hkb]
  clear hw1 hkb
  go_wp2_with fail
  with_reducible refine (HLV.out _ HB1.out).mono ?_
  rintro e w2 ⟨rfl, g2⟩
  have HG2 := Lib.hid (Rn.grow HB1.out g2)
  have HX2 := Lib.hid g2
  clear g2
  go_wp2_with fail
  with_reducible refine (HEA.out _ HG2.out).mono ?_
  rintro e w3 ⟨a2, n2, c2, rfl, hd3, g3⟩
  have HG3 := Lib.hid (Rn.grow HG2.out g3)
  have HX3 := Lib.hid (Rn.grow HX2.out g3)
  have HD3 := Lib.hid hd3
  clear g3 hd3
  go_wp2_with fail
  with_reducible refine (HLD.out _ _ HG3.out HD3.out).mono ?_
  rintro e w4 ⟨p, rfl, hp, g4⟩
  have HG4 := Lib.hid (Rn.grow HG3.out g4)
  have HX4 := Lib.hid (Rn.grow HX3.out g4)
  have HD4 := Lib.hid (HD3.out.later g4)
  have HP := Lib.hid hp
  clear g4 hp
  have cm := Rn.matches_c HP.out HG.out r a
  unfold Rn.MatD at cm
  have CH := Lib.hid fun (wz : World) (g : Below w4.heap.size w4 wz) => Rn.rhold_c _ K r a wz (HD4.out.later g) HZ.out HG.out.ne hlo hhi hav (by have := HK2.out; omega)
  have CK := Lib.hid fun (wz : World) (g : Below w4.heap.size w4 wz) => Rn.rlooked_c _ _ s K r a wz (HS.out.later (Rn.grow HG4.out g)).kn (HD4.out.later g) HZ.out HG.out.rt HG.out.ft HN.out (by have := HK2.out; omega) hlo hhi hav
  have CS := Lib.hid fun (u v : Value) (wz : World) (hu : Rn.Rws wz u (Rn.hold K r a)) (hv : Rn.Rws wz v (Rn.hold K r a)) => Rn.rsamerows_c u v _ wz hu hv (by have := HK2.out; have := Rn.hold_all K r a; omega)
  have CB := Lib.hid fun (wz : World) (g : Below w4.heap.size w4 wz) => Rn.blocks_c (HP.out.later g)
  have HLE := Lib.hid (Rn.nb_look s K r a)
  have HQ4 := Lib.hid fun (W : World) (g : Below w4.heap.size w4 W) => HQ.out W (Rn.grow HX4.out g)
  have q4 := HQ4.out w4 (Below.refl _ _)
  generalize Rn.hold K r a = Q at cm CH CS
  generalize Rn.looked s K r a = n at cm CK HLE
  generalize Rn.nb K.length = nb at CB HLE
  obtain ⟨rf, rt, ⟨r1, r2, r3⟩, ⟨r4, r5, r6⟩⟩ := r
  obtain ⟨op, col, ⟨an, ai, as9⟩⟩ := a
  unfold Kn.R.val Zn.As.val at cm CH CK
  simp only at cm CH CK q4 HQ4
  obtain ⟨x0, x1, x2, x3, x4, x5, x6, x7, x8, x9, x10, x11, x12⟩ := q4
  clear hlo hhi hav HQ
  go_wp2_with fail
  with_reducible refine cm.mono ?_
  rintro e w5 ⟨u5, rfl, hu5, g5⟩
  have HG5 := Lib.hid (Rn.grow HG4.out g5)
  have HX5 := Lib.hid g5
  have HU5 := Lib.hid hu5
  have ch := CH.out w5 g5
  obtain ⟨x0, x1, x2, x3, x4, x5, x6, x7, x8, x9, x10, x11, x12⟩ := HQ4.out w5 g5
  have hnn : (n : Int) ≤ (nb : Int) := by have := HLE.out; omega
  have hn2 : n ≤ nb := HLE.out
  obtain ⟨ua, uc, hu9, -⟩ := id hu5.is
  subst hu9
  clear cm g5 hu5
  go_wp2_with (first
   | (go_at_call 24; (with_reducible refine ch.mono ?_); rintro e w6 ⟨u6, rfl, hu6, g6⟩
      have HX6 := Lib.hid (Rn.grow HX5.out g6)
      have HU6 := Lib.hid (HU5.out.later g6)
      have HV6 := Lib.hid hu6
      obtain ⟨va9, vc9, hv9, -⟩ := id hu6.is
      subst hv9
      clear ch g6 hu6)
   | (go_at_call 23; (with_reducible refine (CS.out _ _ w6 HU6.out HV6.out).mono ?_); rintro e w7 ⟨rfl, g7⟩
      have HX7 := Lib.hid (Rn.grow HX6.out g7)
      clear x0 x1 x2 x3 x4 x5 x6 x7 x8 x9 x10 x11 x12
      obtain ⟨x0, x1, x2, x3, x4, x5, x6, x7, x8, x9, x10, x11, x12⟩ := HQ4.out w7 HX7.out
      clear g7)
   | (go_at_call 25; (with_reducible refine (CK.out w7 HX7.out).mono ?_); rintro e w8 ⟨rfl, g8⟩
      have HX8 := Lib.hid (Rn.grow HX7.out g8)
      clear g8)
   | (go_at_call 26; (with_reducible refine (CB.out w8 HX8.out).mono ?_); rintro e w9 ⟨rfl, hw9⟩; subst hw9))
  go_ret
  exact ⟨rfl, Rn.grow HG4.out HX8.out⟩
 ·have HLD := Lib.hid fun (v : Value) (wz : World) (g : Below w.heap.size w wz) (hd : Bk.Ds wz v (L.take 200)) => Rn.loaded_n _ v s (L.take 200) wz (Rn.tb2 HT.out g) (HS.out.later g) hd HZ.out HI.out HK2.out h0
  unfold Rn.EarlyD at HEA
  generalize L.take 200 = K at HEA HLD HZ HI HK2
  clear hT hz hi h0 hq
  go_enter Tryz.func6, Tryz.ntmps6
  go_upto_region 1 with (fail)
  rw [← hw1, ← hkb]
  clear hw1 hkb
  go_wp2_with fail
  with_reducible refine (HLV.out _ HB1.out).mono ?_
  rintro e w2 ⟨rfl, g2⟩
  have HG2 := Lib.hid (Rn.grow HB1.out g2)
  clear g2
  go_wp2_with fail
  with_reducible refine (HEA.out _ HG2.out).mono ?_
  rintro e w3 ⟨a2, n2, c2, rfl, hd3, g3⟩
  have HG3 := Lib.hid (Rn.grow HG2.out g3)
  have HD3 := Lib.hid hd3
  clear g3 hd3
  go_wp2_with fail
  with_reducible refine (HLD.out _ _ HG3.out HD3.out).mono ?_
  rintro e w4 ⟨rfl, g4⟩
  have HG4 := Lib.hid (Rn.grow HG3.out g4)
  clear g4
  go_wp2
  go_ret
  exact ⟨rfl, HG4.out⟩
end
end Go.Proofs.YtbelkhkllneifaaGreatDoor
