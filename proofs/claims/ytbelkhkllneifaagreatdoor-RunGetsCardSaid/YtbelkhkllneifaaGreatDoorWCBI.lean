/-
  
  
-/
import Derived.Test.YtbelkhkllneifaaGreatDoorWCBG
import Derived.Test.YtbelkhkllneifaaGreatDoorWCAL
import Derived.Test.YtbelkhkllneifaaGreatDoorWCBE
import Derived.Test.YtbelkhkllneifaaGreatDoorWCAK
import Derived.Deep.RegionHeld3
namespace Go.Proofs.YtbelkhkllneifaaGreatDoor
open Go Go.RowKit
def Rn.Fnd (K : List Dd.D) (q : Kn.V) (D : Dd.D) : Prop := (Rn.th K q = false ∧ D = ⟨false, []⟩) ∨ (Rn.th K q = true ∧ K[Rn.at_ K q]? = some D)
def Rn.Wn (K : List Dd.D) (q : Kn.V) (j : Nat) (b : Bool) (D : Dd.D) : Prop := b = (Rn.th K q && decide (Rn.at_ K q < j)) ∧ ((b = false ∧ D = ⟨false, []⟩) ∨ (b = true ∧ K[Rn.at_ K q]? = some D))
theorem Rn.wn_0 (K : List Dd.D) (q : Kn.V) : Rn.Wn K q 0 false ⟨false, []⟩ := ⟨by simp, .inl ⟨rfl, rfl⟩⟩
theorem Rn.wn_hit {K : List Dd.D} (hs : Bk.sorted K = true) {q : Kn.V} {j : Nat} {x : Dd.D} (hx : K[j]? = some x) (h : (Kn.cmp (Bk.key x) q == 0) = true) : Rn.Wn K q (j + 1) true x := by
 rw [Rn.eq_at hs hx, Bool.and_eq_true, decide_eq_true_iff] at h
 refine ⟨?_, .inr ⟨rfl, by rw [← h.1]; exact hx⟩⟩
 rw [h.2, ← h.1, decide_eq_true (by omega)]
 rfl
theorem Rn.wn_miss {K : List Dd.D} (hs : Bk.sorted K = true) {q : Kn.V} {j : Nat} {x : Dd.D} (hx : K[j]? = some x) (h : (Kn.cmp (Bk.key x) q == 0) = false) {b : Bool} {D : Dd.D} (hw : Rn.Wn K q j b D) : Rn.Wn K q (j + 1) b D := by
 rw [Rn.eq_at hs hx] at h
 refine ⟨?_, hw.2⟩
 rw [hw.1]
 cases ht : Rn.th K q
 ·rfl
 ·rw [ht, Bool.and_true, decide_eq_false_iff_not] at h
  rw [Bool.true_and, Bool.true_and]
  congr 1
  exact propext ⟨fun h1 => by omega, fun h1 => by omega⟩
theorem Rn.wn_end {K : List Dd.D} {q : Kn.V} {b : Bool} {D E : Dd.D} (hw : Rn.Wn K q K.length b D) (hf : Rn.Fnd K q E) : b = Rn.th K q ∧ E = D := by
 have hb : b = Rn.th K q := by
  rw [hw.1]
  cases ht : Rn.th K q
  ·rfl
  ·obtain ⟨x, hx, _⟩ := Rn.th_some ht
   rw [decide_eq_true (List.getElem?_eq_some_iff.1 hx).1]
   rfl
 refine ⟨hb, ?_⟩
 rcases hw.2 with ⟨h1, h2⟩ | ⟨h1, h2⟩ <;> rcases hf with ⟨h3, h4⟩ | ⟨h3, h4⟩
 ·rw [h2, h4]
 ·rw [← hb, h1] at h3; cases h3
 ·rw [← hb, h1] at h3; cases h3
 ·rw [h2] at h4; exact (Option.some.inj h4).symm
theorem Rn.get_u {w : World} {p : Nat} {s : List Kn.C} {K : List Dd.D} (h : Rn.P w p s K) (hg : Rn.Gd s K) (q : Kn.V) :
 Calls Tryz.prog 17 #[.pointer (some ⟨p, 0, none⟩), q.val] w fun e w' => ∃ (D : Dd.D) (a : Option Addr) (n c : Nat), e = .returned (.tuple #[.agg #[.bool D.gone, .slice a n c], .bool (Rn.th K q)]) ∧ Kn.Vals w' (.slice a n c) D.row ∧ Rn.Fnd K q D ∧ Below w.heap.size w w' := by
 refine (Rn.get_c h hg q).mono ?_
 rintro e w' ⟨h1, g⟩
 rcases h1 with ⟨h1, rfl⟩ | ⟨d, a, n, c, h1, h2, rfl, h3⟩
 ·exact ⟨⟨false, []⟩, none, 0, 0, by rw [h1], ⟨none, 0, rfl, .inl rfl⟩, .inl ⟨h1, rfl⟩, g⟩
 ·exact ⟨d, a, n, c, by rw [h1], h3, .inr ⟨h1, h2⟩, g⟩
def Rn.KS (r : Kn.R) (K : List Dd.D) (k : Nat) : List Kn.V := [r.lo, r.hi] ++ (K.take k).map Bk.key
theorem Rn.ks_next {r : Kn.R} {K : List Dd.D} {k : Nat} {x : Dd.D} (hx : K[k]? = some x) : Rn.KS r K (k + 1) = Rn.KS r K k ++ [Bk.key x] := by
 obtain ⟨h1, rfl⟩ := List.getElem?_eq_some_iff.1 hx
 unfold Rn.KS
 rw [List.take_succ_eq_append_getElem h1, List.map_append, List.append_assoc]
 rfl
theorem Rn.ks_len {r : Kn.R} {K : List Dd.D} {k : Nat} (h : k ≤ K.length) : (Rn.KS r K k).length = k + 2 := by
 unfold Rn.KS
 simp only [List.length_append, List.length_map, List.length_take, List.length_cons, List.length_nil]
 omega
theorem Rn.ks_z {r : Kn.R} {K : List Dd.D} (hl : Kn.Z r.lo) (hh : Kn.Z r.hi) (hz : Bk.Zs K) (hn : ∀ d ∈ K, d.row ≠ []) (k : Nat) : ∀ q ∈ Rn.KS r K k, Kn.Z q := by
 intro q hq
 unfold Rn.KS at hq
 rcases List.mem_append.1 hq with hq | hq
 ·simp only [List.mem_cons, List.not_mem_nil, or_false] at hq
  rcases hq with rfl | rfl
  ·exact hl
  ·exact hh
 ·obtain ⟨d, hd, rfl⟩ := List.mem_map.1 hq
  have hd := List.mem_of_mem_take hd
  exact hz d hd _ (List.mem_of_getElem? (Rn.key_at (hn d hd)))
end Go.Proofs.YtbelkhkllneifaaGreatDoor

namespace Go.Proofs.YtbelkhkllneifaaGreatDoor
open Go Go.RowKit Go.Shelf
attribute [local go_sem] Oper.semAt_some
section
variable {P : Program}
theorem Rn.range_wa {α : Type} {g : Operand} {ps : Array Tmp} {assign body : Code} {Q : Exit → Act → World → Prop} {a : Act} {w : World} {gf : Nat} {lb : Array Value}
 (hg : a.eval g = .func (.func gf) #[] lb) (eg : ∀ args w, (callFunc gf args).run P w = .ok (.enter gf args) w)
 {En : α → Array Value → World → Prop} {D : Nat → Prop} {xs : List α} {w0 : World} (hseq : Rn.Seq P gf lb En D xs w0) (hb0 : Below w0.heap.size w0 w) (hD : ∀ b, D b → b < w.heap.size)
 (hps : ∀ x args W, En x args W → args.size = ps.size)
 (I : List α → World → Prop) (Ix : Code → List α → World → Prop) (hI : OwnFrom w.heap.size I) (hIx : ∀ c, OwnFrom w.heap.size (Ix c)) (h0 : I [] w)
 (Ax : Array Value → List α → α → Act → World → Prop) (hAx : ∀ T pre x a', OwnFrom w.heap.size fun (_ : Unit) W => Ax T pre x a' W)
 (hassign : ∀ l pre x args W, I pre W → En x args W → pre ++ [x] <+: xs → Rn.Kd D w W →
  assign.wpIn (Fence.wide.inRound l) 7 P (Exit.then (fun a' W' => Below W.heap.size W W' ∧ Ax a.tmps pre x a' W') (fun _ _ _ => False)) { tmps := (ps.zip args).foldl (fun t (p, v) => t.setIfInBounds p v) a.tmps, defers := [] } W)
 (hbody : ∀ l pre x a' W, w.heap.size ≤ l → (∃ r, W.heap[l]? = some (.loop r)) → Ax a.tmps pre x a' W → pre ++ [x] <+: xs → Rn.Kd D w W → body.wpIn (Fence.wide.inRound l) 7 P (Rn.left w.heap.size D I Ix (pre ++ [x]) W) a' W)
 (hdone : ∀ N W, w.heap.size ≤ N → I xs W → W.heap[N]? = some (.deferred (some [])) → Q .normal { a with defers := { target := .collected N, args := #[] } :: a.defers } W)
 (hstop : ∀ N c pre W, w.heap.size ≤ N → pre <+: xs → pre ≠ [] → Ix c pre W → W.heap[N]? = some (.deferred (some [])) → c.wpIn Fence.wide 9 P Q { a with defers := { target := .collected N, args := #[] } :: a.defers } W) :
 (Code.rangeFunc g ps assign body).wpIn Fence.wide 9 P Q a w :=
 Rn.range_w hg eg hseq hb0 hD hps I Ix hI hIx h0 (Ax a.tmps) (hAx a.tmps) hassign hbody hdone hstop
end
theorem Rn.done0 {n : Nat} {fn : Func} {p : Tmp} (h : fn.results = #[.cell p 4]) {tmps : Array Value} {W : World} {b : Nat} {x : Bool} {R : Ending → World → Prop} (hp : tmps.getD p undef = .pointer (some ⟨b, 0, none⟩)) (hc : W.heap[b]? = some (.cells #[.bool x] 4 (0, 0))) (hR : R (.returned (.bool x)) W) :
 bodyPostM Fence.wide n Tryz.prog fn R .ret { tmps := tmps, defers := [] } W := by
 have c1 : W.cell? ⟨b, 0, none⟩ = some (.bool x) := by rw [cell_of_row _ _ _ _ _ _ hc]; rfl
 refine ⟨.bool x, ?_, hR⟩
 rw [Sk.results_cell h, hp]
 go_simp
theorem Rn.done1 {n : Nat} {fn : Func} {p : Tmp} (h : fn.results = #[.cell p 4]) {tmps : Array Value} {W : World} {D b : Nat} {x : Bool} {R : Ending → World → Prop} (hp : tmps.getD p undef = .pointer (some ⟨b, 0, none⟩)) (hK : W.heap[D]? = some (.deferred (some []))) (hc : W.heap[b]? = some (.cells #[.bool x] 4 (0, 0))) (hR : R (.returned (.bool x)) (W.putObj D (.deferred none))) :
 bodyPostM Fence.wide n Tryz.prog fn R .ret { tmps := tmps, defers := [{ target := .collected D, args := #[] }] } W := by
 have hne : b ≠ D := fun e => by rw [e, hK] at hc; cases hc
 have c1 : (W.putObj D (.deferred none)).cell? ⟨b, 0, none⟩ = some (.bool x) := by rw [cell_of_row _ _ _ _ _ _ ((World.putObj_heap_other hne).trans hc)]; rfl
 refine ⟨by simp, .inl ⟨_, _, rfl, run_takeDeferred hK, ?_⟩⟩
 refine ⟨.bool x, ?_, hR⟩
 rw [Sk.results_cell h, hp]
 go_simp
set_option maxHeartbeats 32000000 in
set_option maxRecDepth 100000 in
theorem Rn.lawGets_w (vs v : Value) (s : List Kn.C) (L : List Dd.D) (r : Kn.R) (w : World) (hT : Ty.Tabs w) (hs : Dd.Cols w vs s) (hv : Bk.Ds w v L) (hz : Bk.Zs L) (hi : ∀ d ∈ L, ∀ x ∈ d.row, Ty.I64 x.n) (hlo : Kn.Z r.lo) (hhi : Kn.Z r.hi) :
 Calls Tryz.prog 5 #[vs, v, r.val] w fun e w' => e = .returned (.bool true) ∧ Below w.heap.size w w' := by
 have HT := Lib.hid hT
 have HS := Lib.hid hs
 have HV := Lib.hid hv
 have HZ := Lib.hid (Rn.zs_take hz 200)
 have HI := Lib.hid (Rn.i64_take hi 200)
 have HK2 : Hid ((L.take 200).length ≤ 200) := Lib.hid Rn.take_le
 have HRZ := Lib.hid (And.intro hlo hhi)
 obtain ⟨a, c, rfl, -⟩ := hv
 obtain ⟨⟨sa, sc, rfl, -⟩, -⟩ := hs
 obtain ⟨w0, hw0⟩ : ∃ w0, w0 = w.alloc (.cells #[.bool r.from_, .bool r.til, .bool r.lo.null, .int .i64 r.lo.n, .string r.lo.s, .bool r.hi.null, .int .i64 r.hi.n, .string r.hi.s] 43) := ⟨_, rfl⟩
 obtain ⟨w1, hw1⟩ : ∃ w1, w1 = w0.alloc (.cells #[.bool false] 4) := ⟨_, rfl⟩
 obtain ⟨kb, hkb⟩ : ∃ kb, kb = w.heap.size := ⟨_, rfl⟩
 have HB1 : Hid (Below w.heap.size w w1 ∧ Kn.RAt w1 kb r ∧ w1.heap[kb + 1]? = some (.cells #[.bool false] 4 (0, 0)) ∧ w.heap.size ≤ kb ∧ w1.heap.size = kb + 2) := Lib.hid (by
  have h0 : Below w.heap.size w w0 := by rw [hw0]; exact (Below.refl _ w).alloc (Nat.le_refl _) _
  have hs0 : w0.heap.size = kb + 1 := by rw [hw0, hkb]; simp
  refine ⟨?_, ?_, ?_, by omega, ?_⟩
  ·rw [hw1]; exact h0.alloc h0.size _
  ·rw [hw1, hkb]
   have : Kn.RAt w0 w.heap.size r := by rw [hw0]; exact Kn.RAt.new w r _
   exact this.later ((Below.refl _ w0).alloc (Nat.le_refl _) _)
  ·rw [hw1, ← hs0]; exact heap_alloc_new w0 _
  ·rw [hw1, World.size_alloc, hs0])
 have HLV := Lib.hid fun (wz : World) (g : Below w.heap.size w wz) => Rn.lives_c wz (Rn.tb2 HT.out g)
 have HEA := Lib.hid fun (wz : World) (g : Below w.heap.size w wz) => Rn.early_c (HV.out.later g)
 have HGR : Hid (∀ {x y : World}, Below w.heap.size w x → Below x.heap.size x y → Below w.heap.size w y) := Lib.hid Rn.grow
 have HE0 : Hid (∀ W, w1.heap.size ≤ W.heap.size → Below w1.heap.size w1 W → W.cell? ⟨kb + 1, 0, none⟩ = some (.bool false) ∧ W.frozen? ⟨kb + 1, 0, none⟩ = false ∧ W.heap[kb + 1]? = some (.cells #[.bool false] 4 (0, 0))) := Lib.hid fun W _ g => by
  have h := (g.block _ (Array.getElem?_eq_some_iff.1 HB1.out.2.2.1).1).trans HB1.out.2.2.1
  exact ⟨by rw [cell_of_row _ _ _ _ _ _ h]; rfl, frozen_of_row W _ 0 _ _ h, h⟩
 obtain ⟨rf, rt, ⟨r1, r2, r3⟩, ⟨r4, r5, r6⟩⟩ := r
 simp only at hw0 HRZ
 unfold Kn.R.val
 simp only
 by_cases h0 : Rn.wE s (L.take 200) = 0
 ·have HLD := Lib.hid fun (v : Value) (wz : World) (g : Below w.heap.size w wz) (hd : Bk.Ds wz v (L.take 200)) => Rn.loaded_p _ v s (L.take 200) wz (Rn.tb2 HT.out g) (HS.out.later g) hd HZ.out HI.out HK2.out h0
  have HG : Hid (Rn.Gd s (L.take 200)) := Lib.hid ⟨h0, HK2.out⟩
  unfold Rn.EarlyD at HEA
  generalize L.take 200 = K at HEA HLD HG HZ HI HK2
  clear hT hz hi h0 hlo hhi
  rw [← callsIn_wide (n := 9)]
  refine callsIn_of_wp_marks Tryz.func5 rfl trivial ?_ rfl
  simp only [Tryz.ntmps5, List.size_toArray, List.length_cons, List.length_nil, Nat.reduceAdd, Nat.reduceSub, Array.replicate_succ, Array.replicate_zero, List.push_toArray, List.append_toArray, List.nil_append, List.cons_append]
  gi_upto_region 1 with (fail)
  rw [← hw0]
  have hsz : w0.heap.size = kb + 1 := by rw [hw0, hkb]; simp
  rw [← hw1, ← hkb]
  clear hw1 hw0 hkb hsz
  gi_upto_region 7 with (first
   | (refine ⟨trivial, ?_⟩; gi_at_call 9; refine (callsIn_wide.2 (HLV.out _ HB1.out.1)).mono ?_; rintro e w2 ⟨rfl, g2⟩
      have HG2 := Lib.hid (HGR.out HB1.out.1 g2)
      have HX2 := Lib.hid g2
      clear g2)
   | (refine ⟨trivial, ?_⟩; gi_at_call 10; refine (callsIn_wide.2 (HEA.out _ HG2.out)).mono ?_; rintro e w3 ⟨a2, n2, c2, rfl, hd3, g3⟩
      have HG3 := Lib.hid (HGR.out HG2.out g3)
      have HX3 := Lib.hid (Rn.grow HX2.out g3)
      have HD3 := Lib.hid hd3
      clear g3 hd3)
   | (refine ⟨trivial, ?_⟩; gi_at_call 13; refine (callsIn_wide.2 (HLD.out _ _ HG3.out HD3.out)).mono ?_; rintro e w4 ⟨p, rfl, hp, g4⟩
      have HG4 := Lib.hid (HGR.out HG3.out g4)
      have HX4 := Lib.hid (Rn.grow HX3.out g4)
      have HD4 := Lib.hid (HD3.out.later g4)
      have HP := Lib.hid hp
      clear g4 hp))
  obtain ⟨a', c', e9, hlc, hcm, hds⟩ := id HD4.out
  simp only [Value.slice.injEq] at e9
  obtain ⟨rfl, rfl, rfl⟩ := e9
  have hN := (Rn.wE_0 HG.out.ok).2.1
  rcases hds with h9 | ⟨b, o, rfl, hb, hc⟩
  ·rw [h9] at hN; simp at hN
  have HROW : Hid (∀ (k : Nat) (x : Dd.D), K[k]? = some x → ∃ ub uo uc, 0 < x.row.length ∧ ∀ W, Below w4.heap.size w4 W → W.cell? ⟨b, o + k * 2, none⟩ = some (.bool x.gone) ∧ W.cell? ⟨b, o + k * 2 + 1, none⟩ = some (.slice (some ⟨ub, uo, none⟩) x.row.length uc) ∧ W.cell? ⟨ub, uo, none⟩ = some (.bool (Bk.key x).null) ∧ W.cell? ⟨ub, uo + 1, none⟩ = some (.int .i64 (Bk.key x).n) ∧ W.cell? ⟨ub, uo + 2, none⟩ = some (.string (Bk.key x).s) ∧ Kn.Vals W (.slice (some ⟨ub, uo, none⟩) x.row.length uc) x.row) := Lib.hid fun k x hx => by
   obtain ⟨u, e0, e1, hu⟩ := hc k x hx
   obtain ⟨ua, uc, rfl, -⟩ := id hu
   have nx := HG.out.ne x (List.mem_of_getElem? hx)
   obtain ⟨_, xb, xo, rfl, hxb, hxa⟩ := Rn.row_at hu (Rn.key_at nx)
   refine ⟨xb, xo, uc, List.length_pos_iff.2 nx, fun W g => ?_⟩
   have hk : ∀ {a : Addr} {z : Value}, w4.cell? a = some z → W.cell? a = some z := fun {a z} h => (g.cell (World.block_lt_of_cell? w4 _ h)).trans h
   obtain ⟨x0, x1, x2⟩ := hxa
   simp only [Nat.zero_mul, Nat.add_zero] at x0 x1 x2
   exact ⟨hk e0, hk e1, hk x0, hk x1, hk x2, hu.later g⟩
  have hra := HB1.out.2.1.later HX4.out
  have y2 := hra.lo.c0
  have y3 := hra.lo.c1
  have y4 := hra.lo.c2
  have y5 := hra.hi.c0
  have y6 := hra.hi.c1
  have y7 := hra.hi.c2
  simp only [Nat.reduceAdd] at y2 y3 y4 y5 y6 y7
  obtain ⟨w5, hw5⟩ : ∃ w5, w5 = w4.alloc (.cells #[.bool r1, .int .i64 r2, .string r3, .bool r4, .int .i64 r5, .string r6] 33) := ⟨_, rfl⟩
  obtain ⟨q, hq⟩ : ∃ q, q = w4.heap.size := ⟨_, rfl⟩
  obtain ⟨R, hR⟩ : ∃ R : Kn.R, R = ⟨rf, rt, ⟨r1, r2, r3⟩, ⟨r4, r5, r6⟩⟩ := ⟨_, rfl⟩
  have HQ := Lib.hid hq
  have HR := Lib.hid hR
  have HRR : Hid (Kn.Z R.lo ∧ Kn.Z R.hi ∧ Kn.RAt w4 kb R) := Lib.hid (by rw [hR]; exact ⟨HRZ.out.1, HRZ.out.2, hra⟩)
  have HB5 : Hid (Below w4.heap.size w4 w5 ∧ Cl.Own w4.heap.size w5 (.slice (some ⟨q, 0, none⟩) 2 2) (Rn.KS R K 0)) := Lib.hid (by
   refine ⟨by rw [hw5]; exact (Below.refl _ w4).alloc (Nat.le_refl _) _, ?_⟩
   rw [hw5, hq, hR]
   exact World.ownsRow_lit w4 #[.bool r1, .int .i64 r2, .string r3, .bool r4, .int .i64 r5, .string r6] 2 (Nat.le_refl _) (by decide) rfl)
  have HKN := Lib.hid fun k x (h : K[k]? = some x) => Rn.ks_next (r := R) h
  have HKL := Lib.hid fun k (h : k ≤ K.length) => Rn.ks_len (r := R) h
  have HKZ := Lib.hid (Rn.ks_z HRR.out.1 HRR.out.2.1 HZ.out HG.out.ne K.length)
  clear hlc hcm hb hc hra hN
  gi_upto_region 8 with (fail)
  rw [← hw5, ← hq]
  clear hw5 hq hR y2 y3 y4 y5 y6 y7
  gi_wp2
  gi_loopw [8, 9] (fun u i wr => ∃ k : Nat, k ≤ K.length ∧ i = .int .i64 k ∧ Cl.Own w4.heap.size wr u (Rn.KS R K k) ∧ Below w4.heap.size w4 wr) (fun _ i _ => K.length - (intOf i).toNat)
  case atStart => exact ⟨0, Nat.zero_le _, rfl, HB5.out.2, HB5.out.1⟩
  case round =>
   obtain ⟨k, hk, rfl, ho, hB⟩ := hrel
   have HO := Lib.hid ho
   have HBK := Lib.hid hB
   by_cases hl : k < K.length
   ·have hx := List.getElem?_eq_getElem hl
    generalize K[k] = x at hx
    obtain ⟨ub, uo, uc, hx1, hrow⟩ := HROW.out k x hx
    obtain ⟨-, e1, e2, e3, e4, -⟩ := hrow wr hB
    have HN := Lib.hid (HKN.out k x hx)
    have HLE : Hid ((Rn.KS R K k).length ≤ 300) := Lib.hid (by rw [HKL.out k hk]; have := HK2.out; omega)
    have hx2 : (0 : Int) < (x.row.length : Int) := by omega
    have hkl : (k : Int) < (K.length : Int) := by omega
    have hk0 : (0 : Int) ≤ (k : Int) := by omega
    have hk7 : (k : Int) ≤ 200 := by have := HK2.out; omega
    have HK := Lib.hid hl
    obtain ⟨ka, kn, kc, hu⟩ := Rn.own_form3 (show Dk.Own 33 3 Sk.ve w4.heap.size wr _ (Rn.KS R K k) from ho)
    subst hu
    generalize x.row.length = xl at e1 hx1 hx2
    generalize Bk.key x = X at e2 e3 e4 HN
    obtain ⟨Xn, Xi, Xs⟩ := X
    simp only at e2 e3 e4
    clear hx hl hk hrow ho hB
    gi_upto_region 11 with (fail)
    refine wpIn_wide.2 ?_
    go_wp2_with (at_builtin; refine Cl.wpList_append_val ⟨Xn, Xi, Xs⟩ HO.out HBK.out.size (by have := HLE.out; omega) (.tmp 39) (.tmp 47) _ rfl rfl rfl rfl rfl ?_; intro v5 w5 h5 g5)
    have H5 := Lib.hid h5
    have HB6 : Hid (Below w4.heap.size w4 w5) := Lib.hid (Cl.own_below HBK.out HO.out g5)
    clear h5 g5 e1 e2 e3 e4
    gi_wp2
    go_roundw
    case rel => exact ⟨k + 1, HK.out, by simp, by rw [HN.out]; exact H5.out, HB6.out⟩
    case measure => (have := HK.out; simp [intOf]; omega)
   ·obtain rfl : k = K.length := by omega
    have hkl : ¬ (K.length : Int) < (K.length : Int) := by omega
    obtain ⟨wa, rfl⟩ : ∃ wa, wa = wr := ⟨_, rfl⟩
    have HVL := Lib.hid (HO.out.vals)
    obtain ⟨ka, kc, e9, hkv⟩ := id HVL.out.is
    rw [HKL.out K.length (Nat.le_refl _)] at e9
    subst e9
    rcases hkv with h9 | ⟨kg, ko, rfl, hkg, _, hkc⟩
    ·have := HKL.out K.length (Nat.le_refl _); rw [h9] at this; simp at this
    have HKC : Hid (∀ (i : Nat) (x : Kn.V), (Rn.KS R K K.length)[i]? = some x → ∀ W, Below wa.heap.size wa W → Kn.At W kg (ko + i * 3) x) := Lib.hid fun i x hx W g => (hkc i x hx).later g
    obtain ⟨kl, hkl9⟩ : ∃ kl, kl = K.length + 2 := ⟨_, rfl⟩
    have HKLL : Hid (kl = K.length + 2) := Lib.hid hkl9
    rw [← hkl9]
    clear hk hl ho hB hkg hkc hkl9
    gi_wp2
    gi_loopw [10] (fun i wx => ∃ k : Nat, k ≤ kl ∧ i = .int .i64 k ∧ Below wa.heap.size wa wx) (fun i _ => kl - (intOf i).toNat)
    case atStart => exact ⟨0, Nat.zero_le _, rfl, Below.refl _ _⟩
    case round =>
     obtain ⟨wx, rfl⟩ : ∃ wx, wx = wr := ⟨_, rfl⟩
     obtain ⟨k, hk, rfl, hB⟩ := hrel
     have HBX := Lib.hid hB
     by_cases hl : k < kl
     ·obtain ⟨x, hx⟩ : ∃ x, (Rn.KS R K K.length)[k]? = some x := ⟨_, List.getElem?_eq_getElem (by rw [HKL.out K.length (Nat.le_refl _)]; have := HKLL.out; omega)⟩
      have HXZ := Lib.hid (HKZ.out x (List.mem_of_getElem? hx))
      have HXC := Lib.hid (HKC.out k x hx)
      have HXE := Lib.hid hx
      obtain ⟨kc0, kc1, kc2⟩ := HXC.out wx hB
      have HB4X : Hid (Below w4.heap.size w4 wx) := Lib.hid (HBK.out.trans (hB.mono HBK.out.size))
      have CG := Lib.hid (Rn.get_u (HP.out.later HB4X.out) HG.out x)
      have hkl : (k : Int) < (kl : Int) := by omega
      have hk0 : (0 : Int) ≤ (k : Int) := by omega
      have hk7 : (k : Int) ≤ 202 := by have := HK2.out; have := HKLL.out; omega
      have HK := Lib.hid hl
      have HWN := Lib.hid (Rn.wn_0 K x)
      have HHIT := Lib.hid fun (j : Nat) (y : Dd.D) (hy : K[j]? = some y) (h : (Kn.cmp (Bk.key y) x == 0) = true) => Rn.wn_hit HG.out.so hy h
      have HMISS := Lib.hid fun (j : Nat) (y : Dd.D) (hy : K[j]? = some y) (h : (Kn.cmp (Bk.key y) x == 0) = false) (bb : Bool) (E : Dd.D) (hw : Rn.Wn K x j bb E) => Rn.wn_miss HG.out.so hy h hw
      have HEND := Lib.hid fun (bb : Bool) (D E : Dd.D) (hw : Rn.Wn K x K.length bb D) (hf : Rn.Fnd K x E) => Rn.wn_end hw hf
      have CMP := Lib.hid fun (y : Dd.D) (hy : Kn.Z (Bk.key y)) (wz : World) => Kn.rCompare_c (Bk.key y) x hy HXZ.out wz
      generalize Rn.th K x = tb at CG HEND
      generalize hWN : Rn.Wn K x = wn at HWN HHIT HMISS HEND
      generalize hFN : Rn.Fnd K x = fnd at CG HEND
      generalize hCM : (fun y : Dd.D => Kn.cmp (Bk.key y) x) = cm
      have HCM : Hid (∀ y, Kn.cmp (Bk.key y) x = cm y) := Lib.hid fun y => by rw [← hCM]
      obtain ⟨qn, qi, qs⟩ := x
      unfold Kn.V.val at CG CMP
      simp only at kc0 kc1 kc2 CG CMP
      clear hx hl hk hB hWN hFN hCM
      gi_upto_region 17 with (refine ⟨trivial, ?_⟩; gi_at_call 17; refine (callsIn_wide.2 CG.out).mono ?_; rintro e w8 ⟨D, da, dn, dc, rfl, hu, hf, g8⟩; have HU := Lib.hid hu; have HF := Lib.hid hf; have HG8 := Lib.hid g8; clear hu hf g8)
      obtain ⟨w9, hw9⟩ : ∃ w9, w9 = (w8.alloc (.cells #[.bool D.gone, .slice da dn dc] 41)).alloc (.cells #[.bool false, .slice none 0 0] 41) := ⟨_, rfl⟩
      obtain ⟨q9, hq9⟩ : ∃ q9, q9 = w8.heap.size := ⟨_, rfl⟩
      have H9 : Hid (Below w8.heap.size w8 w9 ∧ w9.heap[q9]? = some (.cells #[.bool D.gone, .slice da dn dc] 41 (0, 0)) ∧ w9.heap[q9 + 1]? = some (.cells #[.bool false, .slice none 0 0] 41 (0, 0)) ∧ q9 = w8.heap.size) := Lib.hid (by
       rw [hw9, hq9]
       refine ⟨Kn.box2 _ _ _, ?_, ?_, rfl⟩
       ·exact (((Below.refl _ (w8.alloc (.cells #[.bool D.gone, .slice da dn dc] 41))).alloc (Nat.le_refl _) _).block w8.heap.size (by simp)).trans (heap_alloc_new w8 _)
       ·have := heap_alloc_new (w8.alloc (.cells #[.bool D.gone, .slice da dn dc] 41)) (.cells #[.bool false, .slice none 0 0] 41)
        rwa [World.size_alloc] at this)
      have HB9 : Hid (Below wa.heap.size wa w9) := Lib.hid (HBX.out.trans ((Rn.grow HG8.out H9.out.1).mono HBX.out.size))
      have HUY9 : Hid (∀ W, Below (q9 + 1) w9 W → Kn.Vals W (.slice da dn dc) D.row) := Lib.hid fun W g => (HU.out.later (H9.out.1.trans (g.mono (by have := H9.out.2.2.2; omega))))
      have HQ9 : Hid (wa.heap.size ≤ q9 + 1 ∧ wa.heap.size ≤ q9) := Lib.hid (by have h1 := HBX.out.size; have h2 := HG8.out.size; have h3 := H9.out.2.2.2; omega)
      rw [← hw9, ← hq9]
      clear hw9 hq9 kc0 kc1 kc2 CG
      gi_wp2
      gi_loopw [14, 15] (fun bv i wy => ∃ (j : Nat) (bb : Bool) (E : Dd.D) (ea : Option Addr) (en ec : Nat), j ≤ K.length ∧ i = .int .i64 j ∧ bv = .bool bb ∧ wn j bb E ∧ wy.heap[q9 + 1]? = some (.cells #[.bool E.gone, .slice ea en ec] 41 (0, 0)) ∧ Kn.Vals wy (.slice ea en ec) E.row ∧ Below (q9 + 1) w9 wy) (fun _ i _ => K.length - (intOf i).toNat)
      case atStart => exact ⟨0, false, ⟨false, []⟩, none, 0, 0, Nat.zero_le _, rfl, rfl, HWN.out, H9.out.2.2.1, ⟨none, 0, rfl, .inl rfl⟩, Below.refl _ _⟩
      case round =>
       obtain ⟨wy, rfl⟩ : ∃ wy, wy = wr := ⟨_, rfl⟩
       obtain ⟨j, bb, E, ea, en, ec, hj, rfl, rfl, hwn, hbe, hve, hBy⟩ := hrel
       have HBY : Hid (Below w4.heap.size w4 wy ∧ Below wa.heap.size wa wy) := Lib.hid (by
        have h1 : Below wa.heap.size wa wy := HB9.out.trans (hBy.mono HQ9.out.1)
        exact ⟨HBK.out.trans (h1.mono HBK.out.size), h1⟩)
       have HBY9 := Lib.hid hBy
       have HWJ := Lib.hid hwn
       have HBE := Lib.hid hbe
       have HVE := Lib.hid hve
       by_cases hl : j < K.length
       ·have hy := List.getElem?_eq_getElem hl
        generalize K[j] = y at hy
        obtain ⟨ub, uo, uc, hy1, hrow⟩ := HROW.out j y hy
        have HROWY := Lib.hid hrow
        obtain ⟨e0, e1, e2, e3, e4, -⟩ := hrow wy HBY.out.1
        obtain ⟨k0, k1, k2⟩ := HXC.out wy HBY.out.2
        have hzy : Kn.Z (Bk.key y) := HZ.out y (List.mem_of_getElem? hy) _ (List.mem_of_getElem? (Rn.key_at (HG.out.ne y (List.mem_of_getElem? hy))))
        have cmp := CMP.out y hzy
        have HHJ := Lib.hid (HHIT.out j y hy)
        have HMJ := Lib.hid fun h => HMISS.out j y hy h bb E HWJ.out
        rw [HCM.out y] at cmp HHJ HMJ
        generalize cm y = z at cmp HHJ HMJ
        have hy2 : (0 : Int) < (y.row.length : Int) := by omega
        have hjl : (j : Int) < (K.length : Int) := by omega
        have hj0 : (0 : Int) ≤ (j : Int) := by omega
        have hj7 : (j : Int) ≤ 200 := by have := HK2.out; omega
        have HJ := Lib.hid hl
        have hkl : (k : Int) < (kl : Int) := by have := HK.out; omega
        have hk0 : (0 : Int) ≤ (k : Int) := by omega
        generalize Bk.key y = Y at e2 e3 e4 cmp
        obtain ⟨Yn, Yi, Ys⟩ := Y
        simp only at e2 e3 e4 k0 k1 k2 cmp
        have HSB : Hid (∀ W, Below wy.heap.size wy W → W.cell? ⟨b, o + j * 2 + 1, none⟩ = some (.slice (some ⟨ub, uo, none⟩) y.row.length uc) ∧ W.cell? ⟨ub, uo, none⟩ = some (.bool Yn) ∧ W.cell? ⟨ub, uo + 1, none⟩ = some (.int .i64 Yi) ∧ W.cell? ⟨ub, uo + 2, none⟩ = some (.string Ys) ∧ W.cell? ⟨kg, ko + k * 3, none⟩ = some (.bool qn) ∧ W.cell? ⟨kg, ko + k * 3 + 1, none⟩ = some (.int .i64 qi) ∧ W.cell? ⟨kg, ko + k * 3 + 2, none⟩ = some (.string qs)) := Lib.hid fun W g => by
         have hk : ∀ {a : Addr} {z : Value}, wy.cell? a = some z → W.cell? a = some z := fun {a z} h => (g.cell (World.block_lt_of_cell? wy _ h)).trans h
         exact ⟨hk e1, hk e2, hk e3, hk e4, hk k0, hk k1, hk k2⟩
        have HYL : Hid (y.row.length = y.row.length) := Lib.hid rfl
        have HDW : Hid (Below wy.heap.size wy wy.drew) := Lib.hid (Below.refl _ wy).drew
        have CP := Lib.hid cmp
        clear hy hl hj hwn hbe hve hBy hrow e0 e1 e2 e3 e4 k0 k1 k2 hzy cmp
        gi_upto_region 21 with (fail)
        refine wpIn_wide.2 ?_
        generalize hyl : y.row.length = xl at hy1 hy2 HSB HROWY
        by_cases hz0 : z = 0
        ·subst hz0
         have HH := Lib.hid (HHJ.out rfl)
         go_region_held3 (fun W => W.cell? ⟨b, o + j * 2 + 1, none⟩ = some (.slice (some ⟨ub, uo, none⟩) xl uc) ∧ W.cell? ⟨ub, uo, none⟩ = some (.bool Yn) ∧ W.cell? ⟨ub, uo + 1, none⟩ = some (.int .i64 Yi) ∧ W.cell? ⟨ub, uo + 2, none⟩ = some (.string Ys) ∧ W.cell? ⟨kg, ko + k * 3, none⟩ = some (.bool qn) ∧ W.cell? ⟨kg, ko + k * 3 + 1, none⟩ = some (.int .i64 qi) ∧ W.cell? ⟨kg, ko + k * 3 + 2, none⟩ = some (.string qs))
          (first
           | exact HSB.out _ HDW.out
           | exact HSB.out _ HG10.out)
          (first | (go_at_call 18; (with_reducible refine (CP.out _).mono ?_); rintro e w10 ⟨rfl, g10⟩; have HG10 := Lib.hid (HDW.out.trans (g10.mono HDW.out.size)); clear g10))
         all_goals
          first | refine NoPanic.normal ?_ | skip
          have hb10 := (HG10.out.block _ (Array.getElem?_eq_some_iff.1 HBE.out).1).trans HBE.out
          have HB10 := Lib.hid hb10
          have d0 := cell_of_row _ _ 0 _ _ _ hb10
          have d1 := cell_of_row _ _ 1 _ _ _ hb10
          have f0 := frozen_of_row _ _ 0 _ _ hb10
          have f1 := frozen_of_row _ _ 1 _ _ hb10
          simp only [List.getElem?_toArray, List.getElem?_cons_zero, List.getElem?_cons_succ] at d0 d1
          have h410 : Below w4.heap.size w4 w10 := HBY.out.1.trans (HG10.out.mono HBY.out.1.size)
          obtain ⟨e0, e1, -⟩ := HROWY.out w10 h410
          have HFIN : Hid (((w10.setCell ⟨q9 + 1, 0, none⟩ (.bool y.gone)).setCell ⟨q9 + 1, 1, none⟩ (.slice (some ⟨ub, uo, none⟩) xl uc)).heap[q9 + 1]? = some (.cells #[.bool y.gone, .slice (some ⟨ub, uo, none⟩) xl uc] 41 (0, 0)) ∧ Kn.Vals ((w10.setCell ⟨q9 + 1, 0, none⟩ (.bool y.gone)).setCell ⟨q9 + 1, 1, none⟩ (.slice (some ⟨ub, uo, none⟩) xl uc)) (.slice (some ⟨ub, uo, none⟩) xl uc) y.row ∧ Below (q9 + 1) w9 ((w10.setCell ⟨q9 + 1, 0, none⟩ (.bool y.gone)).setCell ⟨q9 + 1, 1, none⟩ (.slice (some ⟨ub, uo, none⟩) xl uc))) := Lib.hid (by
           have h1 := heap_setCell_same w10 (q9 + 1) 0 _ _ (.bool y.gone) HB10.out
           have h2 := heap_setCell_same (w10.setCell ⟨q9 + 1, 0, none⟩ (.bool y.gone)) (q9 + 1) 1 _ _ (.slice (some ⟨ub, uo, none⟩) xl uc) h1
           have hle : w4.heap.size ≤ q9 + 1 := Nat.le_trans HBK.out.size HQ9.out.1
           refine ⟨h2, (HROWY.out _ ((h410.setCell (p := ⟨q9 + 1, 0, none⟩) hle _).setCell (p := ⟨q9 + 1, 1, none⟩) hle _)).2.2.2.2.2, ?_⟩
           have h9 : Below (q9 + 1) w9 w10 := HBY9.out.trans (HG10.out.mono (by have := HBY9.out.size; have := (Array.getElem?_eq_some_iff.1 H9.out.2.2.1).1; omega))
           exact (h9.setCell (p := ⟨q9 + 1, 0, none⟩) (Nat.le_refl _) _).setCell (p := ⟨q9 + 1, 1, none⟩) (Nat.le_refl _) _)
          clear hb10 h410
          gi_wp2
          go_roundw
          case rel => exact ⟨j + 1, true, y, _, _, _, HJ.out, by simp, rfl, HH.out, HFIN.out⟩
          case measure => (have := HJ.out; simp [intOf]; omega)
        ·have hz1 : (z == 0) = false := by simp [hz0]
         have HH := Lib.hid (HMJ.out hz1)
         go_region_held3 (fun W => W.cell? ⟨b, o + j * 2 + 1, none⟩ = some (.slice (some ⟨ub, uo, none⟩) xl uc) ∧ W.cell? ⟨ub, uo, none⟩ = some (.bool Yn) ∧ W.cell? ⟨ub, uo + 1, none⟩ = some (.int .i64 Yi) ∧ W.cell? ⟨ub, uo + 2, none⟩ = some (.string Ys) ∧ W.cell? ⟨kg, ko + k * 3, none⟩ = some (.bool qn) ∧ W.cell? ⟨kg, ko + k * 3 + 1, none⟩ = some (.int .i64 qi) ∧ W.cell? ⟨kg, ko + k * 3 + 2, none⟩ = some (.string qs))
          (first
           | exact HSB.out _ HDW.out
           | exact HSB.out _ HG10.out)
          (first | (go_at_call 18; (with_reducible refine (CP.out _).mono ?_); rintro e w10 ⟨rfl, g10⟩; have HG10 := Lib.hid (HDW.out.trans (g10.mono HDW.out.size)); clear g10))
         all_goals
          first | refine NoPanic.normal ?_ | skip
          have HFIN : Hid (w10.heap[q9 + 1]? = some (.cells #[.bool E.gone, .slice ea en ec] 41 (0, 0)) ∧ Kn.Vals w10 (.slice ea en ec) E.row ∧ Below (q9 + 1) w9 w10) := Lib.hid ⟨(HG10.out.block _ (Array.getElem?_eq_some_iff.1 HBE.out).1).trans HBE.out, HVE.out.later HG10.out, HBY9.out.trans (HG10.out.mono (by have := HBY9.out.size; have := (Array.getElem?_eq_some_iff.1 H9.out.2.2.1).1; omega))⟩
          gi_wp2
          go_roundw
          case rel => exact ⟨j + 1, bb, E, ea, en, ec, HJ.out, by simp, rfl, HH.out, HFIN.out⟩
          case measure => (have := HJ.out; simp [intOf]; omega)
       ·obtain rfl : j = K.length := by omega
        have hjl : ¬ (K.length : Int) < (K.length : Int) := by omega
        obtain ⟨hb9, hD9⟩ := HEND.out bb E D HWJ.out HF.out
        subst hb9
        have hd9 := (HBY9.out.block q9 (by omega)).trans H9.out.2.1
        have x0 : wy.cell? ⟨q9, 0, none⟩ = some (.bool D.gone) := by rw [cell_of_row _ _ _ _ _ _ hd9]; rfl
        have x1 : wy.cell? ⟨q9, 1, none⟩ = some (.slice da dn dc) := by rw [cell_of_row _ _ _ _ _ _ hd9]; rfl
        have z0 : wy.cell? ⟨q9 + 1, 0, none⟩ = some (.bool E.gone) := by rw [cell_of_row _ _ _ _ _ _ hbe]; rfl
        have z1 : wy.cell? ⟨q9 + 1, 1, none⟩ = some (.slice ea en ec) := by rw [cell_of_row _ _ _ _ _ _ hbe]; rfl
        have HSB : Hid (∀ W, Below wy.heap.size wy W → W.cell? ⟨q9, 0, none⟩ = some (.bool D.gone) ∧ W.cell? ⟨q9, 1, none⟩ = some (.slice da dn dc) ∧ W.cell? ⟨q9 + 1, 0, none⟩ = some (.bool E.gone) ∧ W.cell? ⟨q9 + 1, 1, none⟩ = some (.slice ea en ec)) := Lib.hid fun W g => by
         have hk : ∀ {a : Addr} {z : Value}, wy.cell? a = some z → W.cell? a = some z := fun {a z} h => (g.cell (World.block_lt_of_cell? wy _ h)).trans h
         exact ⟨hk x0, hk x1, hk z0, hk z1⟩
        have HDW : Hid (Below wy.heap.size wy wy.drew) := Lib.hid (Below.refl _ wy).drew
        have HUY : Hid (Kn.Vals wy (.slice da dn dc) D.row) := Lib.hid (HUY9.out wy hBy)
        have CSM : Hid (∀ W, Below wy.heap.size wy W → Calls Tryz.prog 19 #[.agg #[.bool D.gone, .slice da dn dc], .agg #[.bool E.gone, .slice ea en ec]] W fun e w' => e = .returned (.bool true) ∧ Below W.heap.size W w') := Lib.hid fun W g => by
         have := Dd.rsame_c (.slice da dn dc) (.slice ea en ec) D E W (HUY.out.later g) (HVE.out.later g)
         rw [hD9, Bk.same_self] at this
         rw [hD9]
         exact this
        have HWX : Hid (Below wa.heap.size wa wy) := Lib.hid HBY.out.2
        generalize D.gone = dg at CSM x0
        generalize E.gone = eg at CSM z0
        have CS2 := Lib.hid (CSM.out wy (Below.refl _ _))
        clear hj hl hwn hbe hve hBy hd9 hD9 HSB
        gi_wp2_with (refine ⟨trivial, ?_⟩; gi_at_call 19; refine (callsIn_wide.2 CS2.out).mono ?_; rintro e w11 ⟨rfl, g11⟩; have HFIN : Hid (Below wa.heap.size wa w11) := Lib.hid (HWX.out.trans (g11.mono HWX.out.size)); clear g11 x0 x1 z0 z1)
        go_roundw
        case rel => exact ⟨k + 1, HK.out, by simp, HFIN.out⟩
        case measure => (have := HK.out; simp [intOf]; omega)
     ·obtain rfl : k = kl := by omega
      have hkl : ¬ (k : Int) < (k : Int) := by omega
      have H4X : Hid (Below w4.heap.size w4 wx) := Lib.hid (HBK.out.trans (HBX.out.mono HBK.out.size))
      have hra := HRR.out.2.2.later H4X.out
      rw [HR.out] at hra
      obtain ⟨y0, y1, ⟨y2, y3, y4⟩, ⟨y5, y6, y7⟩⟩ := hra
      simp only [Nat.reduceAdd] at y0 y1 y2 y3 y4 y5 y6 y7
      have ci := Rn.rin_c (.slice (some ⟨b, o, none⟩) K.length c2) K R wx (HD4.out.later H4X.out) HZ.out HG.out.ne HRR.out.1 HRR.out.2.1 (by have := HK2.out; omega)
      have HIL : Hid ((∀ d ∈ Rn.in_ K R, (∀ v ∈ d.row, Kn.Z v) ∧ d.row.length ≤ 6 ∧ d.row ≠ []) ∧ (Rn.in_ K R).length ≤ 200) := Lib.hid ⟨fun d hd => Rn.fit_s HG.out.rt (HG.out.ft d (List.mem_filter.1 hd).1), Nat.le_trans (List.length_filter_le ..) HG.out.few⟩
      have HRG := Lib.hid fun (wo wz : World) (h : Rn.P wo p s K) (g : Below wo.heap.size wo wz) => Rn.range_c h g HG.out R
      unfold Rn.RangeD at HRG
      generalize Rn.in_ K R = J at ci HIL HRG
      rw [HR.out] at ci HRG
      unfold Kn.R.val at ci HRG
      simp only at ci HRG
      clear hk hl hB
      gi_upto_region 28 with (refine ⟨trivial, ?_⟩; gi_at_call 20; refine (callsIn_wide.2 ci).mono ?_; rintro e w20 ⟨u, rfl, hu, g20⟩; have HU20 := Lib.hid hu; have HG20 := Lib.hid g20; obtain ⟨ia, ic, rfl, -⟩ := hu; clear g20)
      obtain ⟨w21, hw21⟩ : ∃ w21, w21 = w20.alloc (.cells #[.slice ia J.length ic] 23) := ⟨_, rfl⟩
      obtain ⟨w22, hw22⟩ : ∃ w22, w22 = w21.alloc (.cells #[.int .i64 0] 3) := ⟨_, rfl⟩
      obtain ⟨xb, hxb⟩ : ∃ xb, xb = w20.heap.size := ⟨_, rfl⟩
      have hsz : w21.heap.size = xb + 1 := by rw [hw21, hxb]; simp
      have HB21 : Hid (Below w20.heap.size w20 w21) := Lib.hid (by rw [hw21]; exact (Below.refl _ w20).alloc (Nat.le_refl _) _)
      have HB22 : Hid (Below w21.heap.size w21 w22) := Lib.hid (by rw [hw22]; exact (Below.refl _ w21).alloc (Nat.le_refl _) _)
      have h16 : w21.heap[xb]? = some (.cells #[.slice ia J.length ic] 23 (0, 0)) := by rw [hw21, hxb]; exact heap_alloc_new w20 _
      have h17 : w22.heap[xb + 1]? = some (.cells #[.int .i64 0] 3 (0, 0)) := by rw [hw22, ← hsz]; exact heap_alloc_new w21 _
      have HS21 : Hid (w21.heap.size = xb + 1 ∧ w22.heap.size = xb + 2 ∧ w20.heap.size = xb) := Lib.hid ⟨hsz, by rw [hw22, World.size_alloc, hsz], hxb.symm⟩
      have H4Y : Hid (Below w4.heap.size w4 w21) := Lib.hid (Rn.grow (Rn.grow H4X.out HG20.out) HB21.out)
      have H17 := Lib.hid h17
      have H16 := Lib.hid h16
      have hra := HRR.out.2.2.later (Rn.grow H4Y.out HB22.out)
      rw [HR.out] at hra
      clear y0 y1 y2 y3 y4 y5 y6 y7 ci
      obtain ⟨y0, y1, ⟨y2, y3, y4⟩, ⟨y5, y6, y7⟩⟩ := hra
      simp only [Nat.reduceAdd] at y0 y1 y2 y3 y4 y5 y6 y7
      have CR := HRG.out w21 w22 (HP.out.later H4Y.out) HB22.out
      rw [← hw21, ← hxb, ← hw22]
      clear hw21 hw22 hxb hsz h16 h17
      gi_wp2_with (refine ⟨trivial, ?_⟩; gi_at_call 21; refine (callsIn_wide.2 CR).mono ?_; rintro e w24 ⟨m, a6, n6, c6, rfl, hm, hbm, hd, g24⟩)
      have HG24 := Lib.hid g24
      have HBM := Lib.hid hbm
      have HMX : Hid (xb + 2 ≤ m ∧ m < w24.heap.size) := Lib.hid ⟨by have := HS21.out; omega, (Array.getElem?_eq_some_iff.1 hbm).1⟩
      have H24 : Hid (Below w21.heap.size w21 w24) := Lib.hid (Rn.grow HB22.out g24)
      have HSEQ := Lib.hid (Rn.range1_seq (D := Rn.Dq (xb + 1) m m) hbm hd H24.out (fun b hb => .inl (by have := HS21.out; omega)) HIL.out.1 (by have := HIL.out.2; omega))
      have hn24 : w24.heap[xb + 1]? = some (.cells #[.int .i64 0] 3 (0, 0)) := (g24.block _ (Array.getElem?_eq_some_iff.1 H17.out).1).trans H17.out
      have HDL : Hid (∀ b, Rn.Dq (xb + 1) m m b → b < w24.heap.size) := Lib.hid fun b hb => by have := HMX.out; rcases hb with hb | hb | hb <;> omega
      have HI0 : Hid (Rn.Kd (Rn.Dq (xb + 1) m m) w24 w24 ∧ w24.heap[xb + 1]? = some (.cells #[.int .i64 (([] : List Dd.D).length : Int)] 3 (0, 0))) := Lib.hid ⟨Rn.Kd.below (Below.refl _ _), hn24⟩
      have HOWN : Hid (OwnFrom w24.heap.size fun (pre : List Dd.D) W => Rn.Kd (Rn.Dq (xb + 1) m m) w24 W ∧ W.heap[xb + 1]? = some (.cells #[.int .i64 (pre.length : Int)] 3 (0, 0))) := Lib.hid (by
       rintro pre A' B' row ⟨h1, h2⟩ hg hr
       exact ⟨h1.grew HDL.out hg hr, Rn.blk_own h2 hg hr⟩)
      clear hm hbm hd g24 CR y0 y1 y2 y3 y4 y5 y6 y7 hn24 HRG
      refine Rn.range_wa (gf := 49) rfl (enters_of Tryz.func49 (by kernel_rfl) rfl)
       HSEQ.out (Below.refl _ _) HDL.out (fun x args W he => by obtain ⟨u, rfl, _⟩ := he; rfl)
       (fun pre W => Rn.Kd (Rn.Dq (xb + 1) m m) w24 W ∧ W.heap[xb + 1]? = some (.cells #[.int .i64 (pre.length : Int)] 3 (0, 0))) (fun _ _ _ => False) HOWN.out (fun c s A' B' row h => h.elim) HI0.out
       (fun T pre x a' W => ∃ (bx : Nat) (ua : Option Addr) (cu : Nat), a' = { tmps := (T.setIfInBounds 103 (.agg #[.bool x.gone, .slice ua x.row.length cu])).setIfInBounds 18 (.pointer (some ⟨bx, 0, none⟩)), defers := [] } ∧ w24.heap.size ≤ bx ∧ W.heap[bx]? = some (.cells #[.bool x.gone, .slice ua x.row.length cu] 41 (0, 0)) ∧ Sk.Rw w24.heap.size W (.slice ua x.row.length cu) x.row ∧ Rn.Kd (Rn.Dq (xb + 1) m m) w24 W ∧ W.heap[xb + 1]? = some (.cells #[.int .i64 (pre.length : Int)] 3 (0, 0))) ?ownA ?assign ?body ?done ?stop
      case ownA =>
       rintro T pre x a' u A' B' row ⟨bx, ua, cu, h0, hbx, hb, he, h1⟩ hg hr
       exact ⟨bx, ua, cu, h0, hbx, Rn.blk_own hb hg hr, Rn.own_own w24.heap.size _ _ _ () _ _ row he hg hr, HOWN.out pre _ _ row h1 hg hr⟩
      case assign =>
       rintro l pre x args W hI ⟨u, rfl, hu⟩ hpx hbW
       obtain ⟨ua, cu, rfl⟩ : ∃ ua cu, u = .slice ua x.row.length cu := Rn.own_form hu
       have HI := Lib.hid hI
       have HU := Lib.hid hu
       have HW8 : Hid (w24.heap.size ≤ W.heap.size) := Lib.hid hbW.size
       clear hI hu hpx hbW
       gi_wp2
       have ha : Below W.heap.size W (W.alloc (.cells #[.bool x.gone, .slice ua x.row.length cu] 41)) := (Below.refl _ W).alloc (Nat.le_refl _) _
       exact ⟨ha, W.heap.size, ua, cu, by first | rfl | trivial | exact ⟨rfl, rfl, rfl⟩, HW8.out, heap_alloc_new W _, HU.out.kept ha, Rn.own_below HOWN.out HI.out ha⟩
      case body =>
       rintro l pre x a' W hl hlr ⟨bx, ua, cu, rfl, hbx, hbk, hu, hkd, hn⟩ hpx hkw
       simp only [List.setIfInBounds_toArray, List.set_cons_succ, List.set_cons_zero]
       have hx : J[pre.length]? = some x := by
        obtain ⟨t, ht⟩ := hpx
        rw [← ht]
        simp
       have hlow : Below w21.heap.size w21 W := H24.out.trans (hkd.low (fun b hb => .inl (by have := HS21.out; omega)) H24.out.size)
       have hj := (List.getElem?_eq_some_iff.1 hx).1
       have hj2 := HIL.out.2
       obtain ⟨ja, jc, e9, _, _, hds⟩ := (HU20.out.later HB21.out).later hlow
       simp only [Value.slice.injEq] at e9
       obtain ⟨rfl, _, rfl⟩ := e9
       rcases hds with h9 | ⟨ib, io, rfl, hib, hic⟩
       ·rw [h9] at hj; simp at hj
       obtain ⟨v9, i0, i1, hv9⟩ := hic pre.length x hx
       obtain ⟨va9, vc9, rfl, -⟩ := id hv9
       have b16 : W.cell? ⟨xb, 0, none⟩ = some (.slice (some ⟨ib, io, none⟩) J.length ic) := by rw [cell_of_row _ _ _ _ _ _ ((hlow.block xb (Array.getElem?_eq_some_iff.1 H16.out).1).trans H16.out)]; rfl
       have b17 : W.cell? ⟨xb + 1, 0, none⟩ = some (.int .i64 (pre.length : Int)) := by rw [cell_of_row _ _ _ _ _ _ hn]; rfl
       have x0 : W.cell? ⟨bx, 0, none⟩ = some (.bool x.gone) := by rw [cell_of_row _ _ _ _ _ _ hbk]; rfl
       have x1 : W.cell? ⟨bx, 1, none⟩ = some (.slice ua x.row.length cu) := by rw [cell_of_row _ _ _ _ _ _ hbk]; rfl
       have csm : ∀ Wz, Below W.heap.size W Wz → Calls Tryz.prog 19 #[.agg #[.bool x.gone, .slice ua x.row.length cu], .agg #[.bool x.gone, .slice va9 x.row.length vc9]] Wz fun e w' => e = .returned (.bool true) ∧ Below Wz.heap.size Wz w' := fun Wz g => by
        have := Dd.rsame_c (.slice ua x.row.length cu) (.slice va9 x.row.length vc9) x x Wz ((Rn.rw_vals hu).later g) (hv9.later g)
        rwa [Bk.same_self] at this
       have X0 := fun d os => cell_regrown x0 d os
       have X1 := fun d os => cell_regrown x1 d os
       have X2 := fun d os => cell_regrown b16 d os
       have X3 := fun d os => cell_regrown b17 d os
       have X4 := fun d os => cell_regrown i0 d os
       have X5 := fun d os => cell_regrown i1 d os
       have CA0 : Hid (∀ p : Regrown, _) := Lib.hid fun p : Regrown => Calls.regrown_of (d := p.d) (os := p.os) (w := W) (csm _ (below_regrown W p.d p.os))
       have HKD := Lib.hid hkd
       have HNB := Lib.hid hn
       have HPL : Hid ((pre ++ [x]).length = pre.length + 1) := Lib.hid (by simp)
       generalize hpl : pre.length = n at HPL hj i0 i1 b17 X3 X4 X5 HNB
       have hd9 : decide ((J.length : Int) ≤ (n : Int)) = false := decide_eq_false (by omega)
       have hd8 : decide (J.length ≤ n) = false := decide_eq_false (by omega)
       have hn0 : (0 : Int) ≤ (n : Int) := by omega
       have hn1 : (n : Int) < (J.length : Int) := by omega
       have hn7 : (n : Int) ≤ 200 := by omega
       have hnJ := hj
       generalize x.gone = dg at x0 X0 X4 CA0
       generalize x.row.length = dn at x1 X1 X5 CA0
       generalize J.length = jl at X2 hd9 hd8 hn1 hnJ
       clear hl hlr hbx hbk hu hkd hn hpx hkw hx hlow hj hj2 hib hic hv9 i0 i1 b16 b17 x0 x1 csm
       gi_upto_region 30 with (fail)
       refine Rn.quiet_round (by kernel_rfl) (by kernel_rfl) (by kernel_rfl) ?_
       repeat (go_big_quiet_step (first | with_reducible exact CA0.out _))
       refine wpQuiet_nil ?_
       intro w30 hw30
       have hB30 : Below W.heap.size W w30 := Bk.below_reg hw30
       have hb30 := (hB30.block _ (Array.getElem?_eq_some_iff.1 HNB.out).1).trans HNB.out
       have d0 := cell_of_row _ _ 0 _ _ _ hb30
       have f0 := frozen_of_row _ _ 0 _ _ hb30
       simp only [List.getElem?_toArray, List.getElem?_cons_zero] at d0
       have HE : Hid (KeepsFrom w24.heap.size W (w30.setCell ⟨xb + 1, 0, none⟩ (.int .i64 ((n : Int) + 1))) ∧ Rn.Kd (Rn.Dq (xb + 1) m m) W (w30.setCell ⟨xb + 1, 0, none⟩ (.int .i64 ((n : Int) + 1))) ∧ Rn.Kd (Rn.Dq (xb + 1) m m) w24 (w30.setCell ⟨xb + 1, 0, none⟩ (.int .i64 ((n : Int) + 1))) ∧ (w30.setCell ⟨xb + 1, 0, none⟩ (.int .i64 ((n : Int) + 1))).heap[xb + 1]? = some (.cells #[.int .i64 ((pre ++ [x]).length : Int)] 3 (0, 0))) := Lib.hid (by
        have hk : Rn.Kd (Rn.Dq (xb + 1) m m) W (w30.setCell ⟨xb + 1, 0, none⟩ (.int .i64 ((n : Int) + 1))) := (Rn.Kd.below hB30).trans (Rn.Kd.set _ (fun hd => by
         have := HMX.out
         rcases hd with hd | hd | hd
         ·exact absurd (show xb + 1 < xb + 1 from hd) (by omega)
         ·exact absurd (show xb + 1 = m from hd) (by omega)
         ·exact absurd (show xb + 1 = m from hd) (by omega)) _)
        refine ⟨(Rn.kf_below hB30).trans ((KeepsOthers.setCell _ _ _).from _), hk, HKD.out.trans hk, ?_⟩
        rw [HPL.out]
        exact heap_setCell_same w30 (xb + 1) 0 _ _ _ hb30)
       clear hw30 hB30 hb30 X0 X1 X2 X3 X4 X5
       gi_wp2
       exact HE.out
      case stop =>
       rintro N c pre W hN hpre hne h hK
       exact h.elim
      case done =>
       rintro N W hN ⟨hkd, hn⟩ hK
       have hlow : Below w21.heap.size w21 W := H24.out.trans (hkd.low (fun b hb => .inl (by have := HS21.out; omega)) H24.out.size)
       have b16 : W.cell? ⟨xb, 0, none⟩ = some (.slice ia J.length ic) := by rw [cell_of_row _ _ _ _ _ _ ((hlow.block xb (Array.getElem?_eq_some_iff.1 H16.out).1).trans H16.out)]; rfl
       have b17 : W.cell? ⟨xb + 1, 0, none⟩ = some (.int .i64 (J.length : Int)) := by rw [cell_of_row _ _ _ _ _ _ hn]; rfl
       have h1W : Below w1.heap.size w1 W := HX4.out.trans ((H4Y.out.trans (hlow.mono H4Y.out.size)).mono HX4.out.size)
       obtain ⟨r0, f0, hr0⟩ := HE0.out W h1W.size h1W
       have HK3 : Hid ((W.setCell ⟨kb + 1, 0, none⟩ (.bool true)).heap[N]? = some (.deferred (some [])) ∧ (W.setCell ⟨kb + 1, 0, none⟩ (.bool true)).heap[kb + 1]? = some (.cells #[.bool true] 4 (0, 0)) ∧ Below w.heap.size w ((W.setCell ⟨kb + 1, 0, none⟩ (.bool true)).putObj N (.deferred none))) := Lib.hid (by
        have hne : N ≠ kb + 1 := fun e => by rw [e, hr0] at hK; cases hK
        have hk2 : (W.setCell ⟨kb + 1, 0, none⟩ (.bool true)).heap[N]? = some (.deferred (some [])) := (heap_setCell_other W ⟨kb + 1, 0, none⟩ N _ hne).trans hK
        have hle : w.heap.size ≤ kb + 1 := by have := HB1.out.2.2.2.1; omega
        have hNl : w.heap.size ≤ N := by
         have h1 := H24.out.size
         have h2 := H4Y.out.size
         have h3 := HG4.out.size
         omega
        exact ⟨hk2, heap_setCell_same W (kb + 1) 0 _ _ _ hr0, (((HGR.out HB1.out.1 h1W)).setCell (p := ⟨kb + 1, 0, none⟩) hle _).trans (belowK_b (Nat.le_refl _) _ N _ _ hNl hk2 rfl rfl)⟩)
       clear hkd hn hlow hK hN hr0 h1W
       gi_wp2
       exact Rn.done1 rfl rfl HK3.out.1 HK3.out.2.1 ⟨rfl, HK3.out.2.2⟩
 ·have HLD := Lib.hid fun (v : Value) (wz : World) (g : Below w.heap.size w wz) (hd : Bk.Ds wz v (L.take 200)) => Rn.loaded_n _ v s (L.take 200) wz (Rn.tb2 HT.out g) (HS.out.later g) hd HZ.out HI.out HK2.out h0
  unfold Rn.EarlyD at HEA
  generalize L.take 200 = K at HEA HLD HZ HI HK2
  clear hT hz hi h0 hlo hhi
  rw [← callsIn_wide (n := 9)]
  refine callsIn_of_wp_marks Tryz.func5 rfl trivial ?_ rfl
  simp only [Tryz.ntmps5, List.size_toArray, List.length_cons, List.length_nil, Nat.reduceAdd, Nat.reduceSub, Array.replicate_succ, Array.replicate_zero, List.push_toArray, List.append_toArray, List.nil_append, List.cons_append]
  gi_upto_region 1 with (fail)
  rw [← hw0]
  have hsz : w0.heap.size = kb + 1 := by rw [hw0, hkb]; simp
  rw [← hw1, ← hkb]
  clear hw1 hw0 hkb hsz
  gi_wp2_with (first
   | (refine ⟨trivial, ?_⟩; gi_at_call 9; refine (callsIn_wide.2 (HLV.out _ HB1.out.1)).mono ?_; rintro e w2 ⟨rfl, g2⟩
      have HG2 := Lib.hid (HGR.out HB1.out.1 g2)
      have HX2 := Lib.hid g2
      clear g2)
   | (refine ⟨trivial, ?_⟩; gi_at_call 10; refine (callsIn_wide.2 (HEA.out _ HG2.out)).mono ?_; rintro e w3 ⟨a2, n2, c2, rfl, hd3, g3⟩
      have HG3 := Lib.hid (HGR.out HG2.out g3)
      have HX3 := Lib.hid (Rn.grow HX2.out g3)
      have HD3 := Lib.hid hd3
      clear g3 hd3)
   | (refine ⟨trivial, ?_⟩; gi_at_call 13; refine (callsIn_wide.2 (HLD.out _ _ HG3.out HD3.out)).mono ?_; rintro e w4 ⟨rfl, g4⟩
      have HG4 := Lib.hid (HGR.out HG3.out g4)
      have HX4 := Lib.hid (Rn.grow HX3.out g4)
      obtain ⟨r0, f0, hr0⟩ := HE0.out w4 HX4.out.size HX4.out
      clear g4))
  refine Rn.done0 rfl rfl (heap_setCell_same w4 (kb + 1) 0 _ _ _ hr0) ⟨rfl, HG4.out.setCell (p := ⟨kb + 1, 0, none⟩) (by have := HB1.out.2.2.2.1; show w.heap.size ≤ kb + 1; omega) _⟩
end Go.Proofs.YtbelkhkllneifaaGreatDoor
