import Derived.Test.YtikdcmplihgdcaaZAJ
import Derived.Deep.RegionHeld3
import Derived.Deep.RegionLaw
import Derived.Deep.RegionLawGrows
import Derived.OrdersHeld
namespace Go.Proofs.Ytikdcmplihgdcaa
section
open Go Go.RowKit
set_option maxHeartbeats 4000000 in
set_option maxRecDepth 100000 in
theorem Mg.up_c {w0 w : World} {q j0 : Nat} {v : Value} {H : List Mg.It} (h : Mg.Hq w0 w q v H) (hu : Mh.Up Mg.lt H.length j0 H) (hj : j0 < H.length) (hm : H.length ≤ 17592186044416) :
 Calls Try.prog 43 #[.iface 45 (.pointer (some ⟨q, 0, none⟩)), .int .i64 j0] w fun e w' => (∃ r, e = .returned r) ∧ ∃ H', H'.Perm H ∧ Mh.Hp Mg.lt H.length 0 H' ∧ Mg.Hq w0 w' q v H' ∧ Mg.Tf w w' := by
 have HST := Lib.hid (And.intro h hu)
 have HN := Lib.hid (And.intro hj hm)
 clear h hu hj hm
 go_enter Try.func43, Try.ntmps43
 go_wp2_with fail
 go_loopw [1] (fun iv wr => ∃ (j : Nat) (G : List Mg.It), iv = .int .i64 j ∧ j < H.length ∧ G.Perm H ∧ Mh.Up Mg.lt H.length j G ∧ Mg.Hq w0 wr q v G ∧ Mg.Tf w wr) (fun iv _ => (intOf iv).toNat)
 case atStart => exact ⟨j0, H, rfl, HN.out.1, List.Perm.refl _, HST.out.2, HST.out.1, Mg.Tf.refl _⟩
 case round =>
  obtain ⟨j, G, rfl, hjl, hp, hup, hq, htf⟩ := hrel
  have HQ := Lib.hid hq
  have HU := Lib.hid hup
  have HR := Lib.hid (And.intro hjl (And.intro hp htf))
  have hgl : G.length = H.length := hp.length_eq
  have HGM : Hid (G.length ≤ 17592186044416) := Lib.hid (by have := HN.out; omega)
  have HG := Lib.hid hgl
  have hjm : (j : Int) ≤ 17592186044416 := by have := HN.out; omega
  have hc := hq.cell
  clear HST hup hjl hp htf hq hgl
  by_cases h0 : j = 0
  ·subst h0
   have HE := Lib.hid HU.out.top
   go_wp2
   (try simp only [Exit.inBlock, Exit.then])
   first | refine bodyPost_ret (results_none rfl _ _ _) rfl ?_ | refine bodyPost_end (results_none rfl _ _ _) rfl ?_
   exact ⟨⟨_, rfl⟩, G, HR.out.2.1, HE.out, HQ.out, HR.out.2.2⟩
  ·obtain ⟨k, hk⟩ : ∃ k : Nat, k = j - 1 := ⟨_, rfl⟩
   obtain ⟨I, hI⟩ : ∃ I : Nat, I = k / 2 := ⟨_, rfl⟩
   have HI : Hid (I = (j - 1) / 2 ∧ I < j ∧ 0 < j) := Lib.hid (by omega)
   have hk1 : (j : Int) - 1 = (k : Int) := by omega
   have hI1 : (k : Int) / 2 = (I : Int) := by omega
   have hk0 : (0 : Int) ≤ (k : Int) := by omega
   have hne : ((I : Int) == (j : Int)) = false := by rw [beq_eq_false_iff_ne]; omega
   have hxx : ∃ x, G[I]? = some x := ⟨_, List.getElem?_eq_getElem (by have := HR.out.1; have := HG.out; omega)⟩
   obtain ⟨x, hx⟩ := hxx
   have hyy : ∃ y, G[j]? = some y := ⟨_, List.getElem?_eq_getElem (by have := HR.out.1; have := HG.out; omega)⟩
   obtain ⟨y, hy⟩ := hyy
   have HX := Lib.hid hx
   have HY := Lib.hid hy
   have ml := Mg.m_less hc
   clear hk hI hx hy h0
   go_wp2_with fail
   refine (Mg.less_c HQ.out HY.out HX.out HGM.out).mono ?_
   rintro e w2 ⟨rfl, g2⟩
   have HQ2 := Lib.hid (HQ.out.kept g2)
   have HT2 := Lib.hid (HR.out.2.2.trans (Mg.Tf.below g2))
   clear g2 ml hc
   cases hyx : Mg.lt y x
   ·have HE := Lib.hid (HU.out.stop (by rw [← HI.out.1]; exact HX.out) HY.out hyx)
    clear hyx
    go_wp2
    (try simp only [Exit.inBlock, Exit.then])
    first | refine bodyPost_ret (results_none rfl _ _ _) rfl ?_ | refine bodyPost_end (results_none rfl _ _ _) rfl ?_
    exact ⟨⟨_, rfl⟩, G, HR.out.2.1, HE.out, HQ2.out, HT2.out⟩
   ·have HE : Hid (Mh.Up Mg.lt H.length I (Mh.sw G I j x y)) := Lib.hid (by
     have := HU.out.next Mg.ord HI.out.2.2 HR.out.1 (by rw [← HI.out.1]; exact HX.out) HY.out hyx
     rw [← HI.out.1] at this
     exact this)
    have ms := Mg.m_swap HQ2.out.cell
    clear hyx
    go_wp2_with fail
    refine (Mg.swp_c HQ2.out HX.out HY.out HGM.out).mono ?_
    rintro e w3 ⟨⟨r, rfl⟩, hq3, t3⟩
    have HQ3 := Lib.hid hq3
    have HT3 := Lib.hid (HT2.out.trans t3)
    clear hq3 t3 ms
    go_wp2
    go_roundw
    case rel => exact ⟨I, Mh.sw G I j x y, rfl, by have := HI.out; have := HR.out.1; omega, (Mh.sw_perm HX.out HY.out).trans HR.out.2.1, HE.out, HQ3.out, HT3.out⟩
    case measure => (have := HI.out; simp [intOf]; omega)
set_option maxHeartbeats 4000000 in
set_option maxRecDepth 100000 in
theorem Mg.init_c {w0 w : World} {q : Nat} {v : Value} {H : List Mg.It} (h : Mg.Hq w0 w q v H) (hm : H.length ≤ 17592186044416) :
 Calls Try.prog 32 #[.iface 45 (.pointer (some ⟨q, 0, none⟩))] w fun e w' => (∃ r, e = .returned r) ∧ ∃ H', H'.Perm H ∧ Mh.Hp Mg.lt H.length 0 H' ∧ Mg.Hq w0 w' q v H' ∧ Mg.Tf w w' := by
 have ml := Mg.m_len h.cell
 have hv : ∃ a c, v = .slice a H.length c := by
  rcases h.own.form with ⟨rfl, rfl⟩ | ⟨g, c, rfl, _⟩
  ·exact ⟨_, _, rfl⟩
  ·exact ⟨_, _, rfl⟩
 obtain ⟨va, vc, hv⟩ := hv
 have HV := Lib.hid hv
 subst hv
 generalize hn : H.length = n at hm ml h ⊢
 have HQ := Lib.hid h
 have HN := Lib.hid hn
 have HM := Lib.hid hm
 obtain ⟨m, hmm⟩ : ∃ m : Nat, m = n / 2 := ⟨_, rfl⟩
 have hm1 : (n : Int) / 2 = (m : Int) := by omega
 have hm0 : (0 : Int) ≤ (n : Int) := by omega
 have hmb : (m : Int) ≤ 17592186044416 := by omega
 have HMM := Lib.hid hmm
 clear h hn hmm
 go_enter Try.func32, Try.ntmps32
 go_wp2_with fail
 refine (Mg.len_c _ _ _ _).mono ?_
 rintro e w1 ⟨rfl, h9⟩
 subst w1
 clear ml
 go_wp2_with fail
 go_loopw [3] (fun iv wr => ∃ (i : Nat) (G : List Mg.It), iv = .int .i64 ((i : Int) - 1) ∧ i ≤ m ∧ G.Perm H ∧ Mh.Hp Mg.lt n i G ∧ Mg.Hq w0 wr q (.slice va n vc) G ∧ Mg.Tf w wr) (fun iv _ => (intOf iv + 1).toNat)
 case atStart => exact ⟨m, H, rfl, Nat.le_refl _, List.Perm.refl _, Mh.Hp.none H (by have := HMM.out; omega), HQ.out, Mg.Tf.refl _⟩
 case round =>
  obtain ⟨i, G, rfl, him, hp, hhp, hq, htf⟩ := hrel
  have HR := Lib.hid (And.intro him (And.intro hp (And.intro hhp (And.intro hq htf))))
  have hgl : Hid (G.length = n) := Lib.hid (hp.length_eq.trans HN.out)
  clear him hp hhp hq htf
  by_cases h0 : i = 0
  ·subst h0
   go_wp2
   (try simp only [Exit.inBlock, Exit.then])
   first | refine bodyPost_ret (results_none rfl _ _ _) rfl ?_ | refine bodyPost_end (results_none rfl _ _ _) rfl ?_
   exact ⟨⟨_, rfl⟩, G, HR.out.2.1, HR.out.2.2.1, HR.out.2.2.2.1, HR.out.2.2.2.2⟩
  ·obtain ⟨k, rfl⟩ : ∃ k : Nat, i = k + 1 := ⟨i - 1, by omega⟩
   rw [show (((k + 1 : Nat) : Int) - 1) = (k : Int) by omega]
   have hk0 : (0 : Int) ≤ (k : Int) := by omega
   have hkm : (k : Int) ≤ 17592186044416 := by have := HR.out.1; omega
   have CD := Lib.hid (Mg.down_c (n := n) (i0 := k) HR.out.2.2.2.1 HR.out.2.2.1.dn (by have := hgl.out; omega) (by omega) (by have := hgl.out; omega))
   clear h0
   go_wp2_with fail
   refine (CD.out).mono ?_
   rintro e w2 ⟨⟨r, rfl⟩, G2, p2, hp2, _, hq2, t2⟩
   have HS := Lib.hid (And.intro (p2.trans HR.out.2.1) (And.intro hp2 (And.intro hq2 (HR.out.2.2.2.2.trans t2))))
   clear p2 hp2 hq2 t2
   go_wp2
   go_roundw
   case rel => exact ⟨k, G2, rfl, by have := HR.out.1; omega, HS.out.1, HS.out.2.1, HS.out.2.2.1, HS.out.2.2.2⟩
   case measure => (simp [intOf]; done)
theorem Mg.hq_push {w0 w w' w2 : World} {q : Nat} {v v' : Value} {H : List Mg.It} {x : Mg.It} (h : Mg.Hq w0 w q v H) (hs : w.heap[x.b]? = some (.cells (Mg.sc x) 64) ∧ w0.heap.size ≤ x.b) (ok : Mg.Ok w0 x) (hx : x.b ∉ H.map Mg.It.b) (ho : Dk.Own 62 1 Mg.ep w0.heap.size w' v' (H ++ [x])) (g : Ty.Grew w w' v v') (hw : w2 = w'.setCell ⟨q, 0, none⟩ v') : Mg.Hq w0 w2 q v' (H ++ [x]) ∧ Mg.Tf w w2 := by
 have key : ∀ (b : Nat) (cs2 : Array Value) (t : TypeId), w.heap[b]? = some (.cells cs2 t) → t ≠ 62 → w'.heap[b]? = some (.cells cs2 t) := fun b cs2 t hb ht =>
  (g.by_.block b (Array.getElem?_eq_some_iff.1 hb).1 fun e' => by
   obtain ⟨cs, hc⟩ := h.own.typed b e'.symm
   rw [hb] at hc
   simp only [Option.some.injEq, Obj.cells.injEq] at hc
   exact ht hc.2.1).trans hb
 have hcq := key q _ _ h.c (by decide)
 have key2 : ∀ (b : Nat) (cs2 : Array Value) (t : TypeId), w.heap[b]? = some (.cells cs2 t) → t ≠ 62 → t ≠ 61 → w2.heap[b]? = some (.cells cs2 t) := fun b cs2 t hb h1 h2 => by
  have hne : b ≠ q := fun e => by
   subst e
   rw [h.c] at hb
   simp only [Option.some.injEq, Obj.cells.injEq] at hb
   exact h2 hb.2.1.symm
  rw [hw, Below.heap_setCell _ _ _ _ hne]
  exact key b cs2 t hb h1
 have hbw : Below w0.heap.size w0 w' := Dk.own_below h.bw h.own g
 have own2 : Dk.Own 62 1 Mg.ep w0.heap.size w2 v' (H ++ [x]) := ho.same fun b hb => by
  obtain ⟨cs, hc⟩ := ho.typed b hb
  have hne : b ≠ q := fun e => by
   subst e
   rw [hcq] at hc
   simp only [Option.some.injEq, Obj.cells.injEq] at hc
   exact absurd hc.2.1 (by decide)
  rw [hw, Below.heap_setCell _ _ _ _ hne]
 refine ⟨⟨by rw [hw]; exact heap_setCell_same w' q 0 _ _ v' hcq, own2, fun z hz => ?_, fun z hz => ?_, ?_, h.lo, by rw [hw]; exact hbw.setCell h.lo _⟩, ⟨?_, ?_, ?_, ?_, ?_⟩⟩
 ·rcases List.mem_append.1 hz with h1 | h1
  ·exact ⟨key2 z.b _ _ (h.src z h1).1 (by decide) (by decide), (h.src z h1).2⟩
  ·obtain rfl : z = x := by simpa using h1
   exact ⟨key2 z.b _ _ hs.1 (by decide) (by decide), hs.2⟩
 ·rcases List.mem_append.1 hz with h1 | h1
  ·exact h.ok z h1
  ·obtain rfl : z = x := by simpa using h1
   exact ok
 ·rw [List.map_append, List.nodup_append]
  refine ⟨h.nb, by simp, fun a ha b hb e => ?_⟩
  obtain rfl : b = x.b := by simpa using hb
  exact hx (e ▸ ha)
 ·rw [hw]; exact g.by_.os
 ·rw [hw]; exact g.by_.tape
 ·rw [hw]; exact g.by_.output
 ·rw [hw]; simpa [World.setCell] using g.by_.size
 ·intro b cs t f hb h1 h2 h3
  have hne : b ≠ q := fun e => by
   subst e
   rw [h.c] at hb
   simp only [Option.some.injEq, Obj.cells.injEq] at hb
   exact h2 hb.2.1.symm
  rw [hw, Below.heap_setCell _ _ _ _ hne]
  exact (g.by_.block b (Array.getElem?_eq_some_iff.1 hb).1 fun e' => by
   obtain ⟨cs3, hc⟩ := h.own.typed b e'.symm
   rw [hb] at hc
   simp only [Option.some.injEq, Obj.cells.injEq] at hc
   exact h1 hc.2.1).trans hb
theorem Mg.undrew {w w' : World} {v v' : Value} (h : Ty.Grew w.drew w' v v') : Ty.Grew w w' v v' := ⟨⟨h.by_.os, h.by_.tape, h.by_.output, h.by_.size, h.by_.block⟩, h.own⟩
theorem Mg.own_sl {α : Type} {e : TypeId} {k : Nat} {enc : α → List Value} {base : Nat} {w : World} {v : Value} {L : List α} (h : Dk.Own e k enc base w v L) : ∃ a n c, v = .slice a n c := by
 rcases h.form with ⟨rfl, _⟩ | ⟨g, c, rfl, _⟩
 ·exact ⟨_, _, _, rfl⟩
 ·exact ⟨_, _, _, rfl⟩
theorem Mg.Hq.cell_grew {w0 w w' : World} {q : Nat} {v v' : Value} {H : List Mg.It} (h : Mg.Hq w0 w q v H) (g : Ty.Grew w w' v v') : w'.cell? ⟨q, 0, none⟩ = some v ∧ w'.frozen? ⟨q, 0, none⟩ = false := by
 have hc : w'.heap[q]? = some (.cells #[v] 61) := (g.by_.block q (Array.getElem?_eq_some_iff.1 h.c).1 fun e' => by
  obtain ⟨cs, hc⟩ := h.own.typed q e'.symm
  rw [h.c] at hc
  simp only [Option.some.injEq, Obj.cells.injEq] at hc
  exact absurd hc.2.1 (by decide)).trans h.c
 refine ⟨?_, frozen_of_row w' q 0 _ _ hc⟩
 unfold World.cell?
 simp only [hc]
 rfl
set_option maxHeartbeats 4000000 in
set_option maxRecDepth 100000 in
theorem Mg.qpush_c {w0 w : World} {q : Nat} {v : Value} {H : List Mg.It} {x : Mg.It} (h : Mg.Hq w0 w q v H) (hs : w.heap[x.b]? = some (.cells (Mg.sc x) 64) ∧ w0.heap.size ≤ x.b) (ok : Mg.Ok w0 x) (hx : x.b ∉ H.map Mg.It.b) (hm : H.length + 1 ≤ 17592186044416) :
 Calls Try.prog 64 #[.pointer (some ⟨q, 0, none⟩), .iface 62 (.pointer (some ⟨x.b, 0, none⟩))] w fun e w' => (∃ r, e = .returned r) ∧ ∃ v', Mg.Hq w0 w' q v' (H ++ [x]) ∧ Mg.Tf w w' := by
 have hc := h.cell
 have HH := Lib.hid h
 have HP := Lib.hid fun (w' w2 : World) (v' : Value) => Mg.hq_push (w' := w') (w2 := w2) (v' := v') h hs ok hx
 have hlo := h.bw.size
 have hl := h.lo
 have HC := Lib.hid fun (w' : World) (v' : Value) (g : Ty.Grew w w' v v') => h.cell_grew g
 obtain ⟨va, vn, vc, hv⟩ : ∃ a n c, v = .slice a n c := by
  rcases h.own.form with ⟨rfl, _⟩ | ⟨g, c, rfl, _⟩
  ·exact ⟨_, _, _, rfl⟩
  ·exact ⟨_, _, _, rfl⟩
 subst hv
 have ma : ∀ w : World, (Instr.typeAssert (.iface 62 (.pointer (some ⟨x.b, 0, none⟩))) 20 62 false).run Try.prog w = .ok (.pointer (some ⟨x.b, 0, none⟩)) w := fun _ => rfl
 have hca : (w.alloc (.cells #[.pointer (some ⟨x.b, 0, none⟩)] 62)).cell? ⟨q, 0, none⟩ = some (.slice va vn vc) := (((Below.refl _ w).alloc (Nat.le_refl _) _).cell (p := ⟨q, 0, none⟩) (World.block_lt_of_cell? w _ hc)).trans hc
 clear h hs ok hx
 go_enter Try.func64, Try.ntmps64
 go_wp2_with fail
 go_region_law (first
  | (refine Dk.step_appendB (enc := Mg.ep) 61 _ 8 Try.underlying61 Mg.infoP rfl (by decide) Mg.ep_len Mg.ep_one [x] (base := w0.heap.size) (by rw [World.size_alloc]; show w0.heap.size ≤ w.heap.size + 1; omega) (World.ownsRow.alloc (World.ownsRow.drew HH.out.own) _) (by simp only [List.length_singleton]; omega) (by simp only [List.length_singleton]; omega) _ _ _ (by rfl) (by rfl) (by rfl) (by rfl) (Dk.src_cell (Dk.cell_new rfl)) ?_; intro v7 w7 o7 g7; have hg7 : Ty.Grew w w7 (.slice va vn vc) v7 := Mg.undrew (g7.behind _); have H7 := Lib.hid (And.intro o7 hg7); obtain ⟨cq, fq⟩ := HC.out w7 v7 hg7; obtain ⟨a7, n7, c7, rfl⟩ := Mg.own_sl o7; clear o7 g7 hg7))
 all_goals
  go_wp2
  (try simp only [Exit.inBlock, Exit.then])
  first | refine bodyPost_ret (results_none rfl _ _ _) rfl ?_ | refine bodyPost_end (results_none rfl _ _ _) rfl ?_
  obtain ⟨k1, k2⟩ := HP.out _ _ _ H7.out.1 H7.out.2 rfl
  exact ⟨⟨_, rfl⟩, _, k1, k2⟩
end
section
open Go Go.RowKit
theorem Mg.own_pop {α : Type} {e : TypeId} {k : Nat} {enc : α → List Value} (he : ∀ x, (enc x).length = k) {base g c : Nat} {w : World} {L : List α} {x : α} (h : Dk.Own e k enc base w (.slice (some ⟨g, 0, none⟩) (L.length + 1) c) (L ++ [x])) : Dk.Own e k enc base w (.slice (some ⟨g, 0, none⟩) L.length c) L := by
 obtain ⟨_, h2⟩ := h
 refine ⟨Dk.flat_len he L, ?_⟩
 rcases h2 with ⟨h0, _⟩ | ⟨g', cap, cur, e1, hb, hg, hc, hm, hs, ht⟩
 ·cases h0
 ·simp only [Value.slice.injEq, Option.some.injEq, Addr.mk.injEq, and_true] at e1
  obtain ⟨rfl, _, rfl⟩ := e1
  rw [List.length_append] at hc ht
  refine .inr ⟨g, c, cur, rfl, hb, hg, by omega, hm, hs, ?_⟩
  rw [List.flatMap_append] at ht
  have := congrArg (List.take (L.length * k)) ht
  rw [List.take_take, Nat.min_eq_left (Nat.mul_le_mul_right k (Nat.le_add_right _ _))] at this
  exact this.trans (by rw [List.take_append_of_le_length (by rw [Dk.flat_len he]; exact Nat.le_refl _)]; exact List.take_of_length_le (by rw [Dk.flat_len he]; exact Nat.le_refl _))
theorem Mg.hq_pop {w0 w w2 : World} {q g c : Nat} {T : List Mg.It} {m : Mg.It} (h : Mg.Hq w0 w q (.slice (some ⟨g, 0, none⟩) (T.length + 1) c) (T ++ [m])) (hw : w2 = w.setCell ⟨q, 0, none⟩ (.slice (some ⟨g, 0, none⟩) T.length c)) : Mg.Hq w0 w2 q (.slice (some ⟨g, 0, none⟩) T.length c) T ∧ Mg.Tf w w2 ∧ w2.heap[m.b]? = some (.cells (Mg.sc m) 64) := by
 have key2 : ∀ (b : Nat) (cs2 : Array Value) (t : TypeId), w.heap[b]? = some (.cells cs2 t) → t ≠ 61 → w2.heap[b]? = some (.cells cs2 t) := fun b cs2 t hb h2 => by
  have hne : b ≠ q := fun e => by
   subst e
   rw [h.c] at hb
   simp only [Option.some.injEq, Obj.cells.injEq] at hb
   exact h2 hb.2.1.symm
  rw [hw, Below.heap_setCell _ _ _ _ hne]
  exact hb
 have hsub : ∀ x ∈ T, x ∈ T ++ [m] := fun x hx => List.mem_append_left _ hx
 refine ⟨⟨by rw [hw]; exact heap_setCell_same w q 0 _ _ _ h.c, (Mg.own_pop Mg.ep_len h.own).same fun b hb => ?_, fun x hx => ⟨key2 x.b _ _ (h.src x (hsub x hx)).1 (by decide), (h.src x (hsub x hx)).2⟩, fun x hx => h.ok x (hsub x hx), ?_, h.lo, by rw [hw]; exact h.bw.setCell h.lo _⟩, ?_, key2 m.b _ _ (h.src m (by simp)).1 (by decide)⟩
 ·obtain ⟨cs, hc⟩ := h.own.typed b hb
  rw [key2 b cs _ hc (by decide), hc]
 ·have := h.nb
  rw [List.map_append, List.nodup_append] at this
  exact this.1
 ·rw [hw]
  exact Mg.Tf.set h.c (.inr (.inl rfl)) 0 _
set_option maxHeartbeats 4000000 in
set_option maxRecDepth 100000 in
theorem Mg.qpop_c {w0 w : World} {q : Nat} {v : Value} {T : List Mg.It} {m : Mg.It} (h : Mg.Hq w0 w q v (T ++ [m])) (hm : T.length + 1 ≤ 17592186044416) :
 Calls Try.prog 63 #[.pointer (some ⟨q, 0, none⟩)] w fun e w' => e = .returned (.iface 62 (.pointer (some ⟨m.b, 0, none⟩))) ∧ (∃ v', Mg.Hq w0 w' q v' T) ∧ Mg.Tf w w' ∧ w'.heap[m.b]? = some (.cells (Mg.sc m) 64) := by
 have hc := h.cell
 have hf : w.frozen? ⟨q, 0, none⟩ = false := frozen_of_row w q 0 _ _ h.c
 obtain ⟨g, c, rfl, hlc, hcm⟩ := h.own.form1
 have e0 : w.cell? ⟨g, T.length, none⟩ = some (.pointer (some ⟨m.b, 0, none⟩)) := by
  have := h.own.cell Mg.ep_len (g := g) rfl (i := T.length) (x := m) (by rw [List.getElem?_append_right (Nat.le_refl _), Nat.sub_self]; rfl) (j := 0) (by decide)
  rwa [Nat.mul_one, Nat.add_zero] at this
 have HP := Lib.hid fun (w2 : World) => Mg.hq_pop (w2 := w2) h
 clear h
 generalize hn : T.length = n at *
 have dn0 : (0 : Int) ≤ (n : Int) := by omega
 have dnm : (n : Int) ≤ 17592186044416 := by omega
 have dnc : (n : Int) ≤ (c : Int) := by omega
 clear hlc hcm hm hn
 go_enter Try.func63, Try.ntmps63
 go_wp2
 go_ret
 obtain ⟨k1, k2, k3⟩ := HP.out _ rfl
 exact ⟨rfl, ⟨_, k1⟩, k2, k3⟩
theorem Mg.Hq.slice {w0 w : World} {q : Nat} {v : Value} {H : List Mg.It} (h : Mg.Hq w0 w q v H) : ∃ a c, v = .slice a H.length c := by
 rcases h.own.form with ⟨rfl, rfl⟩ | ⟨g, c, rfl, _⟩
 ·exact ⟨_, _, rfl⟩
 ·exact ⟨_, _, rfl⟩
def Mg.Popped (w0 w : World) (q : Nat) (H : List Mg.It) (e : Ending) (w' : World) : Prop :=
 ∃ m T v', e = .returned (.iface 62 (.pointer (some ⟨m.b, 0, none⟩))) ∧ m ∈ H ∧ (∀ y ∈ H, Mg.lt y m = false) ∧ (T ++ [m]).Perm H ∧ Mh.Hp Mg.lt T.length 0 T ∧ Mg.Hq w0 w' q v' T ∧ Mg.Tf w w' ∧ w'.heap[m.b]? = some (.cells (Mg.sc m) 64)
set_option maxHeartbeats 4000000 in
set_option maxRecDepth 100000 in
theorem Mg.hpop_c {w0 w : World} {q : Nat} {v : Value} {H : List Mg.It} (h : Mg.Hq w0 w q v H) (hp : Mh.Hp Mg.lt H.length 0 H) (hne : H ≠ []) (hm : H.length ≤ 17592186044416) :
 Calls Try.prog 33 #[.iface 45 (.pointer (some ⟨q, 0, none⟩))] w (Mg.Popped w0 w q H) := by
 obtain ⟨n, hn⟩ : ∃ n, H.length = n + 1 := ⟨H.length - 1, by have := List.length_pos_iff.2 hne; omega⟩
 obtain ⟨x, hx⟩ : ∃ x, H[0]? = some x := ⟨_, List.getElem?_eq_getElem (by omega)⟩
 obtain ⟨y, hy⟩ : ∃ y, H[n]? = some y := ⟨_, List.getElem?_eq_getElem (by omega)⟩
 have HLE := Lib.hid fun (z : Mg.It) (hz : z ∈ H) => hp.least Mg.ord hx hz
 have HPP : Hid (Mh.Dn Mg.lt n 0 0 (Mh.sw H 0 n x y)) := Lib.hid (by rw [hn] at hp; exact hp.pop hx hy)
 have HH := Lib.hid h
 have HX := Lib.hid hx
 have HY := Lib.hid hy
 have HN := Lib.hid hn
 have HM := Lib.hid hm
 have ml := Mg.m_len h.cell
 have ms := Mg.m_swap h.cell
 obtain ⟨va, vc, hv⟩ := h.slice
 rw [hn] at hv
 have HV := Lib.hid hv
 have dn0 : (0 : Int) ≤ (n : Int) := by omega
 have dnm : (n : Int) ≤ 17592186044416 := by omega
 rw [hv] at ml ms
 clear h hp hne hm hx hy hn hv
 go_enter Try.func33, Try.ntmps33
 go_wp2_with fail
 refine (Mg.len_c _ _ _ _).mono ?_
 rintro e w1 ⟨rfl, h9⟩
 subst w1
 clear ml
 go_wp2_with fail
 have CS := Mg.swp_c (i := 0) (j := n) HH.out HX.out HY.out HM.out
 rw [HV.out] at CS
 refine CS.mono ?_
 rintro e w2 ⟨⟨r, rfl⟩, hq2, t2⟩
 have HQ2 := Lib.hid hq2
 have HT2 := Lib.hid t2
 clear hq2 t2 ms CS
 go_wp2_with fail
 refine (Mg.down_c (i0 := 0) HQ2.out HPP.out (by rw [Mh.sw_len, HN.out]; omega) (by omega) (by rw [Mh.sw_len]; exact HM.out)).mono ?_
 rintro e w3 ⟨⟨r3, rfl⟩, G, p3, hp3, hb3, hq3, t3⟩
 have hgl : G.length = n + 1 := by rw [p3.length_eq, Mh.sw_len, HN.out]
 have hgn : G[n]? = some x := by rw [hb3 n (Nat.le_refl _), Mh.sw_at HX.out HY.out, if_pos rfl]
 have hge := Mh.take_last hgl hgn
 have htl : (G.take n).length = n := by rw [List.length_take]; omega
 have HPERM : Hid ((G.take n ++ [x]).Perm H) := Lib.hid (by rw [← hge]; exact p3.trans (Mh.sw_perm HX.out HY.out))
 have HHP : Hid (Mh.Hp Mg.lt (G.take n).length 0 (G.take n)) := Lib.hid (by rw [htl]; exact hp3.take)
 have HQ3 := Lib.hid (by rw [hge] at hq3; exact hq3)
 have HT3 := Lib.hid (HT2.out.trans t3)
 have HTL : Hid ((G.take n).length + 1 ≤ 17592186044416) := Lib.hid (by rw [htl, ← HN.out]; exact HM.out)
 have mp := Mg.m_pop w3 q
 clear p3 hp3 hb3 hq3 t3 hgl hgn hge htl
 generalize G.take n = T at HPERM HHP HQ3 HTL
 go_wp2_with fail
 refine (Mg.qpop_c HQ3.out HTL.out).mono ?_
 rintro e w4 ⟨rfl, ⟨v4, hq4⟩, t4, s4⟩
 have HQ4 := Lib.hid hq4
 have HT4 := Lib.hid (HT3.out.trans t4)
 have HS4 := Lib.hid s4
 clear hq4 t4 s4 mp
 go_wp2
 go_ret
 exact ⟨x, T, v4, rfl, HPERM.out.mem_iff.1 (by simp), HLE.out, HPERM.out, HHP.out, HQ4.out, HT4.out, HS4.out⟩
set_option maxHeartbeats 4000000 in
set_option maxRecDepth 100000 in
theorem Mg.hpush_c {w0 w : World} {q : Nat} {v : Value} {H : List Mg.It} {x : Mg.It} (h : Mg.Hq w0 w q v H) (hp : Mh.Hp Mg.lt H.length 0 H) (hs : w.heap[x.b]? = some (.cells (Mg.sc x) 64) ∧ w0.heap.size ≤ x.b) (ok : Mg.Ok w0 x) (hx : x.b ∉ H.map Mg.It.b) (hm : H.length + 1 ≤ 17592186044416) :
 Calls Try.prog 34 #[.iface 45 (.pointer (some ⟨q, 0, none⟩)), .iface 62 (.pointer (some ⟨x.b, 0, none⟩))] w fun e w' => (∃ r, e = .returned r) ∧ ∃ H' v', H'.Perm (H ++ [x]) ∧ Mh.Hp Mg.lt H'.length 0 H' ∧ Mg.Hq w0 w' q v' H' ∧ Mg.Tf w w' := by
 have HU := Lib.hid (hp.up x rfl)
 have HM := Lib.hid hm
 have CP := Lib.hid (Mg.qpush_c h hs ok hx hm)
 have mp := Mg.m_push w q
 clear h hp hs ok hx hm
 go_enter Try.func34, Try.ntmps34
 go_wp2_with fail
 refine CP.out.mono ?_
 rintro e w2 ⟨⟨r, rfl⟩, v2, hq2, t2⟩
 have HQ2 := Lib.hid hq2
 have HT2 := Lib.hid t2
 obtain ⟨va, vc, hv⟩ := hq2.slice
 rw [List.length_append, List.length_singleton] at hv
 have ml := Mg.m_len hq2.cell
 subst hv
 have dn0 : (0 : Int) ≤ (H.length : Int) := by omega
 have dnm : (H.length : Int) ≤ 17592186044416 := by have := HM.out; omega
 have CU := Lib.hid (Mg.up_c HQ2.out (by rw [List.length_append]; exact HU.out) (by rw [List.length_append]; exact Nat.lt_succ_self _) (by rw [List.length_append]; exact HM.out))
 clear hq2 t2 mp
 go_wp2_with fail
 refine (Mg.len_c _ _ _ _).mono ?_
 rintro e w3 ⟨rfl, h9⟩
 subst w3
 clear ml
 go_wp2_with fail
 refine CU.out.mono ?_
 rintro e w4 ⟨⟨r4, rfl⟩, G, p4, hp4, hq4, t4⟩
 have HG : Hid (Mh.Hp Mg.lt G.length 0 G) := Lib.hid (by rw [p4.length_eq]; exact hp4)
 have HQ4 := Lib.hid hq4
 have HP4 := Lib.hid p4
 have HT4 := Lib.hid (HT2.out.trans t4)
 clear p4 hp4 hq4 t4
 go_wp2
 (try simp only [Exit.inBlock, Exit.then])
 first | refine bodyPost_ret (results_none rfl _ _ _) rfl ?_ | refine bodyPost_end (results_none rfl _ _ _) rfl ?_
 exact ⟨⟨_, rfl⟩, G, _, HP4.out, HG.out, HQ4.out, HT4.out⟩
end
section
open Go Go.RowKit
theorem Mg.ds_tail {w : World} {b o n c : Nat} {d : Dd.D} {t : List Dd.D} (h : Bk.Ds w (.slice (some ⟨b, o, none⟩) n c) (d :: t)) : Bk.Ds w (.slice (some ⟨b, o + 2, none⟩) (n - 1) (c - 1)) t := by
 obtain ⟨a, c', e, h1, h2, h⟩ := h
 simp only [Value.slice.injEq] at e
 obtain ⟨rfl, rfl, rfl⟩ := e
 rw [List.length_cons] at h1
 refine ⟨_, _, by rw [List.length_cons, Nat.add_sub_cancel], by omega, by omega, ?_⟩
 rcases h with h | ⟨b', o', e, hb, hc⟩
 ·cases h
 ·simp only [Option.some.injEq, Addr.mk.injEq, and_true] at e
  obtain ⟨rfl, rfl⟩ := e
  refine .inr ⟨b, o + 2, rfl, hb, fun i x hx => ?_⟩
  have := hc (i + 1) x hx
  rwa [show o + (i + 1) * 2 = o + 2 + i * 2 by omega] at this
theorem Mg.Tf.newset {w w' : World} {r : Nat} (h : Mg.Tf w w') (hr : w.heap.size ≤ r) (i : Nat) (u : Value) : Mg.Tf w (w'.setCell ⟨r, i, none⟩ u) :=
 ⟨h.os, h.tape, h.output, by simpa [World.setCell] using h.size, fun b cs t f hb h1 h2 h3 => by
  have hl := (Array.getElem?_eq_some_iff.1 hb).1
  rw [Below.heap_setCell _ _ _ _ (show b ≠ r by omega)]
  exact h.same b cs t f hb h1 h2 h3⟩
theorem Mg.Hq.other {w0 w : World} {q r : Nat} {v : Value} {H : List Mg.It} {cs : Array Value} {t : TypeId} {f : Nat × Nat} (h : Mg.Hq w0 w q v H) (hr : w.heap[r]? = some (.cells cs t f)) (h0 : w0.heap.size ≤ r) (h1 : t ≠ 62) (h2 : t ≠ 61) (h3 : t ≠ 64) (i : Nat) (u : Value) : Mg.Hq w0 (w.setCell ⟨r, i, none⟩ u) q v H := by
 have key : ∀ (b : Nat) (cs2 : Array Value) (t2 : TypeId), w.heap[b]? = some (.cells cs2 t2) → t2 ≠ t → (w.setCell ⟨r, i, none⟩ u).heap[b]? = some (.cells cs2 t2) := fun b cs2 t2 hb hne => by
  have hbr : b ≠ r := fun e => by
   subst e
   rw [hr] at hb
   simp only [Option.some.injEq, Obj.cells.injEq] at hb
   exact hne hb.2.1.symm
  rw [Below.heap_setCell _ _ _ _ hbr]
  exact hb
 exact ⟨key q _ _ h.c (Ne.symm h2), h.own.same fun b hb => by
  obtain ⟨cs, hc⟩ := h.own.typed b hb
  rw [key b cs _ hc (Ne.symm h1), hc], fun x hx => ⟨key x.b _ _ (h.src x hx).1 (Ne.symm h3), (h.src x hx).2⟩, h.ok, h.nb, h.lo, h.bw.setCell h0 _⟩
theorem Mg.hq_rest {w0 w w' : World} {q : Nat} {v : Value} {T : List Mg.It} {m : Mg.It} (h : Mg.Hq w0 w q v T) (hs : w.heap[m.b]? = some (.cells (Mg.sc m) 64)) (hl : w0.heap.size ≤ m.b) (hm : m.b ∉ T.map Mg.It.b) (r : Option Addr × Nat × Nat) (t : List Dd.D) (hw : w' = w.setCell ⟨m.b, 0, none⟩ (Bk.sv r)) :
 Mg.Hq w0 w' q v T ∧ Mg.Tf w w' ∧ w'.heap[m.b]? = some (.cells (Mg.sc ⟨m.b, r, m.age, t⟩) 64) := by
 have key : ∀ (b : Nat) (cs2 : Array Value) (t2 : TypeId), w.heap[b]? = some (.cells cs2 t2) → b ≠ m.b → w'.heap[b]? = some (.cells cs2 t2) := fun b cs2 t2 hb hne => by
  rw [hw, Below.heap_setCell _ _ _ _ hne]
  exact hb
 have ty : ∀ (b : Nat) (cs2 : Array Value) (t2 : TypeId), w.heap[b]? = some (.cells cs2 t2) → t2 ≠ 64 → b ≠ m.b := fun b cs2 t2 hb hne e => by
  subst e
  rw [hs] at hb
  simp only [Option.some.injEq, Obj.cells.injEq] at hb
  exact hne hb.2.1.symm
 refine ⟨⟨key q _ _ h.c (ty q _ _ h.c (by decide)), h.own.same fun b hb => ?_, fun x hx => ⟨key x.b _ _ (h.src x hx).1 fun e => hm (e ▸ List.mem_map_of_mem hx), (h.src x hx).2⟩, h.ok, h.nb, h.lo, by rw [hw]; exact h.bw.setCell hl _⟩, by rw [hw]; exact Mg.Tf.set hs (.inr (.inr rfl)) 0 _, ?_⟩
 ·obtain ⟨cs, hc⟩ := h.own.typed b hb
  rw [key b cs _ hc (ty b cs _ hc (by decide)), hc]
 ·rw [hw]
  exact heap_setCell_same w m.b 0 _ _ _ hs
theorem Mg.dcells {w : World} {r : Nat} {x y : Value} (h : w.heap[r]? = some (.cells #[x, y] 41)) : w.cell? ⟨r, 0, none⟩ = some x ∧ w.cell? ⟨r, 1, none⟩ = some y ∧ w.frozen? ⟨r, 0, none⟩ = false ∧ w.frozen? ⟨r, 1, none⟩ = false := by
 refine ⟨?_, ?_, frozen_of_row w r 0 _ _ h, frozen_of_row w r 1 _ _ h⟩ <;> (unfold World.cell?; simp only [h]; rfl)
theorem Mg.fin_two {w0 w w4 : World} {q r : Nat} {v : Value} {H : List Mg.It} {x y : Value} (h : Mg.Hq w0 w4 q v H) (hr : w4.heap[r]? = some (.cells #[x, y] 41)) (h0 : w0.heap.size ≤ r) (h1 : w.heap.size ≤ r) (t : Mg.Tf w w4) (a b : Value) : Mg.Hq w0 ((w4.setCell ⟨r, 0, none⟩ a).setCell ⟨r, 1, none⟩ b) q v H ∧ Mg.Tf w ((w4.setCell ⟨r, 0, none⟩ a).setCell ⟨r, 1, none⟩ b) :=
 ⟨(h.other hr h0 (by decide) (by decide) (by decide) 0 a).other (heap_setCell_same w4 r 0 _ _ a hr) h0 (by decide) (by decide) (by decide) 1 b, (t.newset h1 0 a).newset h1 1 b⟩
def Mg.Nxt (w0 w : World) (q : Nat) (H : List Mg.It) (e : Ending) (w' : World) : Prop :=
 ∃ x d t T H' v' u, e = .returned (.agg #[.bool d.gone, Bk.sv u]) ∧ Kn.Vals w0 (Bk.sv u) d.row ∧ d.row ≠ [] ∧ x ∈ H ∧ (∀ y ∈ H, Mg.lt y x = false) ∧ x.L = d :: t ∧ (T ++ [x]).Perm H ∧
   ((t = [] ∧ H' = T) ∨ (t ≠ [] ∧ ∃ x', x'.age = x.age ∧ x'.L = t ∧ H'.Perm (T ++ [x']))) ∧ Mh.Hp Mg.lt H'.length 0 H' ∧ Mg.Hq w0 w' q v' H' ∧ Mg.Tf w w'
set_option maxHeartbeats 4000000 in
set_option maxRecDepth 100000 in
theorem Mg.next_c {w0 w : World} {q : Nat} {v : Value} {H : List Mg.It} (h : Mg.Hq w0 w q v H) (hp : Mh.Hp Mg.lt H.length 0 H) (hne : H ≠ []) (hm : H.length ≤ 17592186044416) :
 Calls Try.prog 24 #[.pointer (some ⟨q, 0, none⟩)] w (Mg.Nxt w0 w q H) := by
 obtain ⟨w1, hw1⟩ : ∃ w1, w1 = w.alloc (.cells #[.bool false, .slice none 0 0] 41) := ⟨_, rfl⟩
 obtain ⟨r, hr⟩ : ∃ r, r = w.heap.size := ⟨_, rfl⟩
 have g1 : Below w.heap.size w w1 := by rw [hw1]; exact (Below.refl _ w).alloc (Nat.le_refl _) _
 have hr1 : w1.heap[r]? = some (.cells #[.bool false, .slice none 0 0] 41) := by rw [hw1, hr]; exact heap_alloc_new w _
 have HR1 := Lib.hid hr1
 have HR := Lib.hid hr
 have HT1 := Lib.hid (Mg.Tf.below g1)
 have CP := Lib.hid (Mg.hpop_c (h.kept g1) hp hne hm)
 have HOK := Lib.hid (And.intro h.src (And.intro h.ok h.nb))
 have HM := Lib.hid (And.intro hm h.bw.size)
 clear h hp hne hm g1 hr1
 go_enter Try.func24, Try.ntmps24
 go_wp2_with fail
 rw [← hw1, ← hr]
 refine (CP.out).mono ?_
 rintro e w2 ⟨m, T, v2, rfl, hmem, hle, hperm, hhp, hq2, t2, s2⟩
 clear hw1 hr CP
 have ma : ∀ w : World, (Instr.typeAssert (.iface 62 (.pointer (some ⟨m.b, 0, none⟩))) 20 62 false).run Try.prog w = .ok (.pointer (some ⟨m.b, 0, none⟩)) w := fun _ => rfl
 have okm := HOK.out.2.1 m hmem
 have hlm := (HOK.out.1 m hmem).2
 have hnT : m.b ∉ T.map Mg.It.b := fun hx => by
  have h1 := (hperm.map Mg.It.b).nodup_iff.2 HOK.out.2.2
  rw [List.map_append, List.nodup_append] at h1
  exact h1.2.2 _ hx m.b (by simp) rfl
 obtain ⟨d, t, b1, o1, c1, b2, o2, n2, c2, hL, hmr, e0, e1, hn, hat, hv, hlc, hcm⟩ := Mg.Hq.head okm hq2.bw
 obtain ⟨f0, f1⟩ := Mg.src_cells s2
 have hds := okm.ds
 have hrow := okm.rows
 rw [hL] at hrow
 have hdne := hrow d List.mem_cons_self
 rw [hmr, hL] at hds
 simp only [Bk.sv] at hds
 have htail := Mg.ds_tail hds
 rw [hmr] at f0
 simp only [Bk.sv] at f0
 have hlen : m.L.length = t.length + 1 := by rw [hL]; rfl
 rw [hlen] at f0 hlc hmr
 rw [List.length_cons, Nat.add_sub_cancel] at htail
 have HX := Lib.hid (And.intro hmem (And.intro hle (And.intro hperm (And.intro hL (And.intro hv (And.intro hdne (And.intro hmr (And.intro htail hrow))))))))
 have HQ2 := Lib.hid (And.intro hq2 (And.intro s2 (And.intro hlm hnT)))
 have HP2 := Lib.hid hhp
 have HT2 := Lib.hid (HT1.out.trans t2)
 have HR2 := Lib.hid (t2.same r _ _ _ HR1.out (by decide) (by decide) (by decide))
 clear hmem hle hperm hhp hq2 t2 s2 okm hlm hnT hat hv hds hrow hdne htail hmr hL hn hlen f1
 obtain ⟨w3, hw3⟩ : ∃ w3, w3 = w2.alloc (.cells #[.bool d.gone, .slice (some ⟨b2, o2, none⟩) n2 c2] 41) := ⟨_, rfl⟩
 obtain ⟨r2, hr2⟩ : ∃ r2, r2 = w2.heap.size := ⟨_, rfl⟩
 have g3 : Below w2.heap.size w2 w3 := by rw [hw3]; exact (Below.refl _ w2).alloc (Nat.le_refl _) _
 have HD3 : Hid (w3.heap[r2]? = some (.cells #[.bool d.gone, .slice (some ⟨b2, o2, none⟩) n2 c2] 41)) := Lib.hid (by rw [hw3, hr2]; exact heap_alloc_new w2 _)
 have f3 : w3.cell? ⟨m.b, 0, none⟩ = some (.slice (some ⟨b1, o1, none⟩) (t.length + 1) c1) := (g3.cell (p := ⟨m.b, 0, none⟩) (World.block_lt_of_cell? w2 _ f0)).trans f0
 have hs3 : w3.heap[m.b]? = some (.cells (Mg.sc m) 64) := (g3.block m.b (Array.getElem?_eq_some_iff.1 HQ2.out.2.1).1).trans HQ2.out.2.1
 have z3 : w3.frozen? ⟨m.b, 0, none⟩ = false := frozen_of_row w3 m.b 0 _ _ hs3
 have HR3 := Lib.hid ((g3.block r (Array.getElem?_eq_some_iff.1 HR2.out).1).trans HR2.out)
 have HT3 := Lib.hid (HT2.out.trans (Mg.Tf.below g3))
 have HQ3 := Lib.hid (Mg.hq_rest (HQ2.out.1.kept g3) hs3 HQ2.out.2.2.1 HQ2.out.2.2.2 (if c1 = 1 then some ⟨b1, o1, none⟩ else some ⟨b1, o1 + 2, none⟩, t.length, c1 - 1) t rfl)
 have HRR : Hid (w0.heap.size ≤ r ∧ w.heap.size ≤ r) := Lib.hid (by have := HM.out; have := HR.out; omega)
 have hlen0 : (0 : Int) < (t.length : Int) + 1 := by omega
 have hlc1 : (1 : Int) ≤ (c1 : Int) := by omega
 have hl1 : (1 : Int) ≤ (t.length : Int) + 1 := by omega
 have hl2 : (t.length : Int) + 1 ≤ (c1 : Int) := by omega
 have hl3 : (t.length : Int) + 1 - 1 = (t.length : Int) := by omega
 clear g3 hs3 hlc hcm
 go_upto_region 3 with (fail)
 rw [← hw3, ← hr2]
 clear hw3 hr2 e0 e1 f0
 go_upto_region 4 with (fail)
 have f4 := World.cell?_setCell_same w3 ⟨m.b, 0, none⟩ (.slice (if c1 = 1 then some ⟨b1, o1, none⟩ else some ⟨b1, o1 + 2, none⟩) t.length (c1 - 1)) f3
 have h4 : Hid (t ≠ [] → (if c1 = 1 then some (⟨b1, o1, none⟩ : Addr) else some ⟨b1, o1 + 2, none⟩) = some ⟨b1, o1 + 2, none⟩) := Lib.hid fun ht => if_neg (by have := List.length_pos_iff.2 ht; omega)
 simp only [Bk.sv] at HQ3
 generalize (if c1 = 1 then some (⟨b1, o1, none⟩ : Addr) else some ⟨b1, o1 + 2, none⟩) = p4 at HQ3 f4 h4 ⊢
 have HR4 := Lib.hid ((HQ3.out.2.1).same r _ _ _ HR3.out (by decide) (by decide) (by decide))
 have HD4 := Lib.hid ((HQ3.out.2.1).same r2 _ _ _ HD3.out (by decide) (by decide) (by decide))
 have HT4 := Lib.hid (HT3.out.trans HQ3.out.2.1)
 generalize w3.setCell _ _ = w4 at HQ3 f4 HR4 HD4 HT4 ⊢
 clear f3 z3 HR3 HD3
 by_cases ht : t = []
 ·have ht0 : ¬ (0 : Int) < (t.length : Int) := by rw [ht]; simp
  have HTN := Lib.hid ht
  have HF := Lib.hid (Mg.fin_two HQ3.out.1 HR4.out HRR.out.1 HRR.out.2 HT4.out (.bool d.gone) (.slice (some ⟨b2, o2, none⟩) n2 c2))
  obtain ⟨x0, x1, x2, x3⟩ := Mg.dcells HR4.out
  obtain ⟨y0, y1, _, _⟩ := Mg.dcells HD4.out
  clear ht
  go_wp2_with fail
  (try simp only [Exit.inBlock, Exit.then])
  refine bodyPost_ret (v := .agg #[.bool d.gone, .slice (some ⟨b2, o2, none⟩) n2 c2]) ?_ rfl ⟨m, d, t, T, T, v2, (some ⟨b2, o2, none⟩, n2, c2), rfl, HX.out.2.2.2.2.1, HX.out.2.2.2.2.2.1, HX.out.1, HX.out.2.1, HX.out.2.2.2.1, HX.out.2.2.1, .inl ⟨HTN.out, rfl⟩, HP2.out, HF.out.1, HF.out.2⟩
  rw [Sk.results_cell rfl]
  go_simp
 ·have ht0 : (0 : Int) < (t.length : Int) := by have := List.length_pos_iff.2 ht; omega
  have HTN := Lib.hid ht
  have CP := Lib.hid (Mg.hpush_c (x := ⟨m.b, (p4, t.length, c1 - 1), m.age, t⟩) HQ3.out.1 HP2.out ⟨HQ3.out.2.2, HQ2.out.2.2.1⟩ ⟨by
   have := HX.out.2.2.2.2.2.2.2.1
   rw [← h4.out ht] at this
   exact this, ht, fun d hd => HX.out.2.2.2.2.2.2.2.2 d (List.mem_cons_of_mem _ hd)⟩ HQ2.out.2.2.2 (by
   have h1 := HX.out.2.2.1.length_eq
   have := HM.out.1
   rw [List.length_append, List.length_singleton] at h1
   omega))
  clear ht
  go_wp2_with fail
  refine (CP.out).mono ?_
  rintro e w5 ⟨⟨r5, rfl⟩, H5, v5, p5, hp5, hq5, t5⟩
  have HR5 := Lib.hid (t5.same r _ _ _ HR4.out (by decide) (by decide) (by decide))
  have HD5 := Lib.hid (t5.same r2 _ _ _ HD4.out (by decide) (by decide) (by decide))
  have HF := Lib.hid (Mg.fin_two hq5 HR5.out HRR.out.1 HRR.out.2 (HT4.out.trans t5) (.bool d.gone) (.slice (some ⟨b2, o2, none⟩) n2 c2))
  have HP5 := Lib.hid (And.intro p5 hp5)
  obtain ⟨x0, x1, x2, x3⟩ := Mg.dcells HR5.out
  obtain ⟨y0, y1, _, _⟩ := Mg.dcells HD5.out
  clear p5 hp5 hq5 t5 f4
  go_wp2_with fail
  (try simp only [Exit.inBlock, Exit.then])
  refine bodyPost_ret (v := .agg #[.bool d.gone, .slice (some ⟨b2, o2, none⟩) n2 c2]) ?_ rfl ⟨m, d, t, T, H5, v5, (some ⟨b2, o2, none⟩, n2, c2), rfl, HX.out.2.2.2.2.1, HX.out.2.2.2.2.2.1, HX.out.1, HX.out.2.1, HX.out.2.2.2.1, HX.out.2.2.1, .inr ⟨HTN.out, ⟨m.b, (p4, t.length, c1 - 1), m.age, t⟩, rfl, rfl, HP5.out.1⟩, HP5.out.2, HF.out.1, HF.out.2⟩
  rw [Sk.results_cell rfl]
  go_simp
end
section
open Go.RowKit
def Sk.getV : Option Sk.E → Value
 | none => .tuple #[.agg #[.bool false, .slice none 0 0], .bool false]
 | some x => .tuple #[.agg #[.bool x.gone, x.rv], .bool true]
end
section
open Go.RowKit
theorem Sk.infoD : (Try.prog.info? 41).map (fun i => (i.zero, i.size, i.bytes)) = some (some (.agg #[.bool false, .slice none 0 0]), 2, 32) := by kernel_rfl
theorem Sk.enc_one (x : Sk.E) (h : ∃ a n c, x.rv = .slice a n c) : ∀ u ∈ x.enc, u.oneCell' = true := fun u hu => by
 obtain ⟨a, n, c, h⟩ := h
 simp only [Sk.E.enc, List.mem_cons, List.not_mem_nil, or_false] at hu
 rcases hu with rfl | rfl
 ·rfl
 ·rw [h]; rfl
theorem Sk.step_deed {base : Nat} {w0 : World} {v : Value} {M : List Sk.E} (K : List Sk.E) (hone : ∀ x ∈ K, ∃ a n c, x.rv = .slice a n c) (hb : base ≤ w0.heap.size) (hown : Dk.Own 41 2 Sk.E.enc base w0 v M) (hl : M.length + K.length ≤ 4194304) {u : Value} (hu : Dk.Src Sk.E.enc w0 u K) (ty : TypeId) :
 ∃ v' w', (Builtin.append_ #[25, 25] ty #[v, u]).run Try.prog w0 = .ok v' w' ∧ Dk.Own 41 2 Sk.E.enc base w' v' (M ++ K) ∧ Ty.Grew w0 w' v v' := by
 obtain ⟨i0, hi, hz0, hz1, hz2⟩ := info_parts Sk.infoD
 rcases hu with ⟨rfl, rfl⟩ | ⟨ad, c, rfl, hK⟩
 ·exact ⟨v, w0, run_append_owned_none (P := Try.prog) w0 base 25 ty 41 i0 2 Try.underlying25 hi v _ _ hown, by rw [List.append_nil]; exact hown, Ty.Grew.refl _ _⟩
 ·obtain ⟨v', w', hr, h1, h2⟩ := Ty.append_tight (P := Try.prog) w0 base 25 ty 41 i0 _ 2 32 Try.underlying25 hi hz0 hz1 hz2 rfl (by decide) v M.length (M.flatMap Sk.E.enc) hown ad K.length c (K.flatMap Sk.E.enc) (Dk.flat_len Sk.enc_len K) hK (fun y hy => by
   obtain ⟨x, hxm, hx⟩ := List.mem_flatMap.1 hy
   exact Sk.enc_one x (hone x hxm) y hx) (by unfold maxLen; omega) (by omega) hb
  refine ⟨v', w', hr, ?_, h2⟩
  unfold Dk.Own
  rw [List.length_append, List.flatMap_append]
  exact h1
theorem Sk.step_app {wo w0 : World} {v : Value} {M : List Sk.E} (K : List Sk.E) (hone : ∀ x ∈ K, ∃ a n c, x.rv = .slice a n c) (hbW : Below wo.heap.size wo w0) (hown : Dk.Own 41 2 Sk.E.enc wo.heap.size w0 v M) (hl : M.length + K.length ≤ 4194304)
 {ops : Array Oper} {o : Oper} {a : Act} {Kx : Act → World → Prop} {Q : Exit → Act → World → Prop} {E : Prop} (s x : Operand) (u : Value) (hgd : o.guard = none)
 (ho : o.op = .call { callee := .builtin .append, args := #[s, x], argTypes := #[25, 25] })
 (hs : a.eval s = v) (hx : a.eval x = u) (hu : Dk.Src Sk.E.enc w0 u K)
 (h : ∀ v' w', Dk.Own 41 2 Sk.E.enc wo.heap.size w' v' (M ++ K) → Below wo.heap.size wo w' → Ty.Grew w0 w' v v' → Kx (a.put o.dst v') w') :
 if Region.wanted o (yielded ops a.tmps) = true then Oper.wp Try.prog o a w0 Kx Q else E := by
 have hw : Region.wanted o (yielded ops a.tmps) = true := by simp [Region.wanted, hgd]
 rw [if_pos hw]
 obtain ⟨v', w', hr, h2, h3⟩ := Sk.step_deed K hone hbW.size hown hl hu o.type
 unfold Oper.wp execOp
 simp only [ho, resolve, invoke, builtin, Sem.run_bind, Sem.run_pure, Result.andThen_ok, List.map_toArray, List.map_cons, List.map_nil, hs, hx, hr]
 exact h v' w' h2 (Dk.own_below hbW hown h3) h3
end
section
open Go Go.RowKit
section
variable {P : Program} {ops : Array Oper} {Q : Exit → Act → World → Prop} {md : Region.Mode} {S : World → Prop} {z : Nat}
def Sk.anyT (P : Program) (md : Region.Mode) (ops : Array Oper) (Q : Exit → Act → World → Prop) (S : World → Prop) (z : Nat) : Nat → Array Bool → Act → World → Prop
 | 0, listed, a, w => Region.ready md ops listed = [] ∧ Q .normal a w
 | fuel + 1, listed, a, w =>
   (Region.ready md ops listed = [] → Q .normal a w) ∧
   ∀ i ∈ Region.ready md ops listed, wpOp P ops Q i (fun a' w' => (i ≠ z → S w') ∧ Sk.anyT P md ops Q S z fuel (listed.setIfInBounds i true) a' w') a w
theorem Sk.anyT_any : ∀ (fuel : Nat) (listed : Array Bool) (a : Act) (w : World), Sk.anyT P md ops Q S z fuel listed a w → wpAny P md ops Q fuel listed a w
 | 0, _, _, _, h => h
 | fuel + 1, _, _, _, h => ⟨h.1, fun i hi => wpOp_mono (fun a' w' h' => Sk.anyT_any fuel _ a' w' h'.2) (h.2 i hi)⟩
theorem Sk.anyT_first {i : Nat} {oi : Oper} {v : Value} (hi : ops[i]? = some oi) (hsel : ∀ (j : Nat) (o : Oper) cs b, ops[j]? = some o → o.op ≠ .select cs b)
 (hQ : ∀ c a w, Q (.panic c) (a.put oi.dst v) w → Q (.panic c) a w) (hz : ∀ oz, ops[z]? = some oz → ∃ e ∈ oz.after, Region.binds md e = true ∧ e.on = i) :
 ∀ (fuel : Nat) (listed : Array Bool) (a : Act) (w : World),
   (∀ j oj, ops[j]? = some oj → j ≠ i → listed.getD j true = false → (∀ e ∈ oj.after, Region.binds md e = true → e.on ≠ i) → oi.apart ops oj = true) →
   i ∈ Region.ready md ops listed → YieldsIf P ops S oi v a → S w →
   Sk.anyT P md ops Q S z fuel (listed.setIfInBounds i true) (a.put oi.dst v) w → Sk.anyT P md ops Q S z (fuel + 1) listed a w := by
 intro fuel
 induction fuel with
 | zero =>
   intro listed a w _ hr hy hS H
   refine ⟨fun h => (by rw [h] at hr; cases hr), fun j hj => ?_⟩
   by_cases hji : j = i
   ·subst hji; exact hy.wpOp hi hS ⟨fun _ => hS, H⟩
   ·have := ready_mono hj hji
    rw [H.1] at this
    cases this
 | succ fuel ih =>
   intro listed a w hfree hr hy hS H
   refine ⟨fun h => (by rw [h] at hr; cases hr), fun j hj => ?_⟩
   by_cases hji : j = i
   ·subst hji; exact hy.wpOp hi hS ⟨fun _ => hS, H⟩
   ·have h1 := H.2 j (ready_mono hj hji)
    obtain ⟨hjun, oj, hoj, hall⟩ := mem_ready.1 hj
    have hnot : ∀ e ∈ oj.after, Region.binds md e = true → e.on ≠ i := fun e he hb heq => by
     have h1 := hall e he hb
     have h0 := (mem_ready.1 hr).1
     rw [heq] at h1
     rcases Nat.lt_or_ge i listed.size with h' | h'
     ·simp [h'] at h0 h1; rw [h0] at h1; cases h1
     ·simp [Array.getElem?_eq_none h'] at h1
    have hjz : j ≠ z := fun e => by
     subst e
     obtain ⟨e, he, hb, hon⟩ := hz oj hoj
     exact hnot e he hb hon
    have h2 := wpOp_putIf hoj (hfree j oj hoj hji hjun hnot) (fun cs b => hsel i oi cs b hi) (fun cs b => hsel j oj cs b hoj) hQ hy h1
    have hfree' : ∀ k ok, ops[k]? = some ok → k ≠ i → (listed.setIfInBounds j true).getD k true = false →
     (∀ e ∈ ok.after, Region.binds md e = true → e.on ≠ i) → oi.apart ops ok = true := fun k ok hk hki hun hno => by
     refine hfree k ok hk hki ?_ hno
     by_cases hjk : j = k
     ·subst hjk; exact hjun
     ·rw [getD_set_ne true hjk] at hun; exact hun
    refine wpOp_mono (fun a' w' h3 => ⟨h3.2.1, ih (listed.setIfInBounds j true) a' w' hfree' (ready_mono hr (Ne.symm hji)) h3.1 (h3.2.1 hjz) ?_⟩) h2
    rw [Array.setIfInBounds_comm _ _ hji]
    exact h3.2.2
theorem Sk.anyT_take {i : Nat} {oi : Oper} {v : Value} {fuel : Nat} {listed : Array Bool} {a : Act} {w : World} (hi : ops[i]? = some oi)
 (hs : Region.noSelect ops = true) (hf : Region.free md ops listed i = true) (hr : (Region.ready md ops listed).contains i = true)
 (hz : (match ops[z]? with | some oz => oz.after.any fun e => Region.binds md e && e.on == i | none => true) = true)
 (hQ : ∀ c a w, Q (.panic c) (a.put oi.dst v) w → Q (.panic c) a w) (hy : YieldsIf P ops S oi v a) (hS : S w)
 (h : Sk.anyT P md ops Q S z fuel (listed.setIfInBounds i true) (a.put oi.dst v) w) : Sk.anyT P md ops Q S z (fuel + 1) listed a w :=
 Sk.anyT_first hi (Region.noSelect_spec hs) hQ (fun oz ho => by
  rw [ho] at hz
  simp only [Array.any_eq_true] at hz
  obtain ⟨k, hk, he⟩ := hz
  simp only [Bool.and_eq_true, beq_iff_eq] at he
  exact ⟨oz.after[k], Array.getElem_mem hk, he.1, he.2⟩) fuel listed a w (Region.free_spec hi hf) (by simpa using hr) hy hS h
theorem Sk.anyT_region {id : Nat} {a : Act} {w : World} (z : Nat) (hm : P.follows .mixedOrders = true) (hS : S w.drew)
 (h : S w.drew → Sk.anyT P .any ops Q S z ops.size (Array.replicate ops.size false) a w.drew) : (Code.region id ops true).wp P Q a w :=
 wp_region_any hm (Sk.anyT_any _ _ _ _ (h hS))
theorem Sk.anyT_done {listed : Array Bool} {a : Act} {w : World} (hr : Region.ready md ops listed = []) (h : Q .normal a w) : ∀ fuel, Sk.anyT P md ops Q S z fuel listed a w
 | 0 => ⟨hr, h⟩
 | _ + 1 => ⟨fun _ => h, by rw [hr]; simp⟩
theorem Sk.anyT_one {i : Nat} {o : Oper} {fuel : Nat} {listed : Array Bool} {a : Act} {w : World} (hr : Region.ready md ops listed = [i]) (ho : ops[i]? = some o) (hiz : i ≠ z)
 (h : ∀ K' : Act → World → Prop, Shut (∀ a w, S w → (S w → Sk.anyT P md ops Q S z fuel (listed.setIfInBounds i true) a w) → K' a w) → if Region.wanted o (yielded ops a.tmps) = true then Oper.wp P o a w K' Q else K' (a.put o.dst undef) w) : Sk.anyT P md ops Q S z (fuel + 1) listed a w := by
 refine ⟨fun e => (by rw [hr] at e; cases e), fun j hj => ?_⟩
 rw [hr, List.mem_singleton] at hj
 subst hj
 exact wpOp_step ho (fun K' hK => h K' (fun a w hS hW => hK a w ⟨fun _ => hS, hW hS⟩))
theorem Sk.anyT_two {i k : Nat} {o u : Oper} {fuel : Nat} {listed : Array Bool} {a : Act} {w : World} (hr : Region.ready md ops listed = [i, k]) (ho : ops[i]? = some o) (hu : ops[k]? = some u) (hiz : i ≠ z) (hkz : k ≠ z)
 (h : ∀ K' : Act → World → Prop, Shut (∀ a w, S w → (S w → Sk.anyT P md ops Q S z fuel (listed.setIfInBounds i true) a w) → K' a w) → if Region.wanted o (yielded ops a.tmps) = true then Oper.wp P o a w K' Q else K' (a.put o.dst undef) w)
 (g : ∀ K' : Act → World → Prop, Shut (∀ a w, S w → (S w → Sk.anyT P md ops Q S z fuel (listed.setIfInBounds k true) a w) → K' a w) → if Region.wanted u (yielded ops a.tmps) = true then Oper.wp P u a w K' Q else K' (a.put u.dst undef) w) : Sk.anyT P md ops Q S z (fuel + 1) listed a w := by
 refine ⟨fun e => (by rw [hr] at e; cases e), fun j hj => ?_⟩
 rw [hr] at hj
 rcases List.mem_cons.1 hj with rfl | hj
 ·exact wpOp_step ho (fun K' hK => h K' (fun a w hS hW => hK a w ⟨fun _ => hS, hW hS⟩))
 ·rw [List.mem_singleton] at hj
  subst hj
  exact wpOp_step hu (fun K' hK => g K' (fun a w hS hW => hK a w ⟨fun _ => hS, hW hS⟩))
theorem Sk.anyT_last {o : Oper} {fuel : Nat} {listed : Array Bool} {a : Act} {w : World} (hr : Region.ready md ops listed = [z]) (ho : ops[z]? = some o)
 (h : ∀ K' : Act → World → Prop, Shut (∀ a w, Sk.anyT P md ops Q S z fuel (listed.setIfInBounds z true) a w → K' a w) → if Region.wanted o (yielded ops a.tmps) = true then Oper.wp P o a w K' Q else K' (a.put o.dst undef) w) : Sk.anyT P md ops Q S z (fuel + 1) listed a w := by
 refine ⟨fun e => (by rw [hr] at e; cases e), fun j hj => ?_⟩
 rw [hr, List.mem_singleton] at hj
 subst hj
 exact wpOp_step ho (fun K' hK => h K' (fun a w hW => hK a w ⟨fun e => absurd rfl e, hW⟩))
end
end
end Go.Proofs.Ytikdcmplihgdcaa
