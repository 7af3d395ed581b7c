/-
  The law SkipFrom, walked.
-/
import Derived.Test.YtfjhffldhpcdmaaDoorZAN
import Derived.Test.YtfjhffldhpcdmaaDoorZAF
import Derived.Test.YtfjhffldhpcdmaaDoorZAK
import Derived.Sort.CutIn
namespace Go.Proofs.YtfjhffldhpcdmaaDoor
open Go Go.RowKit Go.Shelf
attribute [local go_sem] Oper.semAt_some
set_option maxHeartbeats 16000000 in
set_option maxRecDepth 100000 in
theorem Sk.lawFrom_w {w : World} (hT : Sk.Tab w) {v : Value} {L0 : List Sk.E} (hd : Sk.Deeds w v L0) (k : Kn.V) (hk : Kn.Z k) (m : Int) :
    Calls Tryd.prog 4 #[v, k.val, .int .i64 m] w fun e w' => e = .returned (.bool true) ∧ Below w.heap.size w w' := by
  obtain ⟨wb, hwb⟩ : ∃ wb, wb = ((w.alloc (.cells #[.bool k.null, .int .i64 k.n, .string k.s] 25)).alloc (.cells #[.int .i64 m] 3)).alloc (.cells #[.bool false] 4) := ⟨_, rfl⟩
  obtain ⟨hb0, hsb, hkk, hmm, hrr⟩ : Below w.heap.size w wb ∧ wb.heap.size = w.heap.size + 3 ∧ Kn.At wb w.heap.size 0 k ∧ wb.heap[w.heap.size + 1]? = some (.cells #[.int .i64 m] 3 (0, 0)) ∧ wb.heap[w.heap.size + 2]? = some (.cells #[.bool false] 4 (0, 0)) := by
    obtain ⟨wa, hwa⟩ : ∃ wa, wa = w.alloc (.cells #[.bool k.null, .int .i64 k.n, .string k.s] 25) := ⟨_, rfl⟩
    obtain ⟨wc, hwc⟩ : ∃ wc, wc = wa.alloc (.cells #[.int .i64 m] 3) := ⟨_, rfl⟩
    rw [← hwa, ← hwc] at hwb
    have s1 : wa.heap.size = w.heap.size + 1 := by rw [hwa]; exact World.size_alloc ..
    have s2 : wc.heap.size = w.heap.size + 2 := by rw [hwc, World.size_alloc]; omega
    have s3 : wb.heap.size = w.heap.size + 3 := by rw [hwb, World.size_alloc]; omega
    have g1 : Below w.heap.size w wa := by rw [hwa]; exact (Below.refl _ w).alloc (Nat.le_refl _) _
    have g2 : Below wa.heap.size wa wc := by rw [hwc]; exact (Below.refl _ wa).alloc (Nat.le_refl _) _
    have g3 : Below wc.heap.size wc wb := by rw [hwb]; exact (Below.refl _ wc).alloc (Nat.le_refl _) _
    refine ⟨(g1.trans (g2.mono (by omega))).trans (g3.mono (by omega)), s3, ?_, ?_, ?_⟩
    · exact ((show Kn.At wa w.heap.size 0 k by rw [hwa]; exact Kn.At.new w k _).later g2).later g3
    · exact (g3.block (w.heap.size + 1) (by omega)).trans (by rw [hwc, ← s1]; exact heap_alloc_new wa _)
    · rw [hwb, ← s2]; exact heap_alloc_new wc _
  obtain ⟨a, n, c, rfl, hnc, hcm, hD, hn0⟩ := (hd.later hb0).early
  have hLl : (L0.take 400).length ≤ 400 := by rw [List.length_take]; omega
  generalize L0.take 400 = L at hD hLl
  have HC : Hid (∀ W, Below wb.heap.size wb W → (Kn.At W w.heap.size 0 k ∧ W.cell? ⟨w.heap.size + 1, 0, none⟩ = some (.int .i64 m)) ∧ W.heap[w.heap.size + 2]? = some (.cells #[.bool false] 4 (0, 0)) ∧ Below w.heap.size w W) := Lib.hid fun W g =>
    ⟨⟨hkk.later g, by rw [cell_of_row _ _ _ _ _ _ ((g.block (w.heap.size + 1) (by omega)).trans hmm)]; rfl⟩, (g.block (w.heap.size + 2) (by omega)).trans hrr, hb0.trans (g.mono hb0.size)⟩
  have HTB : Hid (Sk.Tab wb) := Lib.hid (hT.later hb0 hT.lt)
  have CL := Lib.hid (Sk.lives_c HTB.out)
  have HD := Lib.hid hD
  have HLL := Lib.hid hLl
  have hnl : min n 400 = L.length := hD.len.symm
  have HNN : Hid (n ≤ c ∧ c ≤ 9223372036854775807 ∧ min n 400 = L.length) := Lib.hid ⟨hnc, hcm, hnl⟩
  have HZ := Lib.hid hk
  clear hsb hkk hmm hrr hb0 hT hd hD hn0 hk hnc hcm hnl hLl
  obtain ⟨kn, ki, ks⟩ := k
  unfold Kn.V.val
  refine (callsIn_wide (n := 9)).1 ?_
  refine callsIn_of_wp_marks Tryd.func4 rfl trivial ?_ rfl
  simp only [Tryd.ntmps4, List.size_toArray, List.length_cons, List.length_nil, Nat.reduceAdd, Nat.reduceSub, Array.replicate_succ, Array.replicate_zero, List.push_toArray, List.append_toArray, List.nil_append, List.cons_append]
  gi_wp2_with (first
    | (rw [← hwb]; clear hwb; refine ⟨trivial, ?_⟩; gi_at_call 9; refine (callsIn_wide.2 CL.out).mono ?_; rintro e w1 ⟨rfl, g1⟩
       have G1 := Lib.hid g1
       clear g1 CL)
    | (refine ⟨trivial, ?_⟩; gi_at_call 10; refine (callsIn_wide.2 (Sk.early_c a n c HNN.out.1 HNN.out.2.1)).mono ?_; rintro e w2 ⟨rfl, h9⟩; obtain rfl := h9.symm; rw [HNN.out.2.2])
    | (refine ⟨trivial, ?_⟩; gi_at_call 11; refine (callsIn_wide.2 (Sk.PD.new (B := wb.heap.size) G1.out.size 7)).mono ?_; rintro e w3 ⟨rfl, h3, g3⟩
       have HTW := Lib.hid (Sk.Two.new h3 (G1.out.trans (g3.mono G1.out.size)))
       generalize w1.heap.size = p at HTW h3 ⊢
       clear h3 g3 G1))
  have HPQ : Hid (w3.heap.size < (w3.alloc (.cells #[.slice none 0 0] 32)).heap.size) := Lib.hid (by simp)
  obtain ⟨wl, hwl⟩ : ∃ W, W = w3.alloc (.cells #[.slice none 0 0] 32) := ⟨_, rfl⟩
  rw [← hwl] at HTW HPQ ⊢
  clear hwl
  generalize w3.heap.size = q at HTW HPQ ⊢
  gi_loopw [9] (fun i wr => ∃ j : Nat, j ≤ L.length ∧ i = .int .i64 j ∧ Sk.Two wb wr p q ((Sk.puts (L.take j)).map Sk.E.d) (Sk.puts (L.take j))) (fun i _ => L.length - (intOf i).toNat)
  case atStart => exact ⟨0, Nat.zero_le _, rfl, HTW.out⟩
  case round =>
    obtain ⟨j, hj, rfl, hT2⟩ := hrel
    have H2 := Lib.hid hT2
    clear hT2
    have hj0 : (0 : Int) ≤ (j : Int) := by omega
    by_cases hjl : j < L.length
    · have hji : (j : Int) < (L.length : Int) := by omega
      obtain ⟨x, hx⟩ : ∃ x, L[j]? = some x := ⟨_, List.getElem?_eq_getElem hjl⟩
      have hlen := Sk.puts_len L j hj
      have hg := HD.out.got x (List.mem_of_getElem? hx)
      have CA := Lib.hid (H2.out.aput HTB.out hg (by rw [List.length_map]; have := HLL.out; omega))
      have CR : Hid (∀ W, Sk.Two wb W p q (Sk.pd ((Sk.puts (L.take j)).map Sk.E.d) x.d) (Sk.puts (L.take j)) → _) := Lib.hid fun W h => Sk.Two.rput h hg (by have := HLL.out; omega)
      have HST : Hid (Sk.puts (L.take (j + 1)) = Sk.pe (Sk.puts (L.take j)) x) := Lib.hid (Sk.puts_step hx)
      have HAT : Hid (∀ W, Below wb.heap.size wb W → ∃ b o, a = some ⟨b, o, none⟩ ∧ W.cell? ⟨b, o + j * 2, none⟩ = some (.bool x.gone) ∧ W.cell? ⟨b, o + j * 2 + 1, none⟩ = some x.rv) := Lib.hid fun W g => HD.out.at_ W g j x hx
      obtain ⟨b, o, rfl, x0, x1⟩ := HAT.out wr H2.out.below
      obtain ⟨ra, rc, hrv⟩ := hg.slice
      rw [hrv] at x1 CA CR HAT
      have HLJ : Hid (j < 400) := Lib.hid (by have := HLL.out; omega)
      clear hx hg hrv hlen HNN HLL
      gi_wp2_with (first
        | (refine ⟨trivial, ?_⟩; gi_at_call 12; refine (callsIn_wide.2 CA.out).mono ?_; rintro e w4 ⟨rfl, h4, g4⟩
           have H4 := Lib.hid h4
           obtain ⟨b', o', e', x0, x1⟩ := HAT.out w4 h4.below
           simp only [Option.some.injEq, Addr.mk.injEq, and_true] at e'
           obtain ⟨rfl, rfl⟩ := e'
           clear h4 g4)
        | (refine ⟨trivial, ?_⟩; gi_at_call 13; refine (callsIn_wide.2 (CR.out w4 H4.out)).mono ?_; rintro e w5 ⟨rfl, h5, g5⟩
           have H5 := Lib.hid h5
           clear h5 g5))
      have hw : wrap64 ((j : Int) + 1) = ((j + 1 : Nat) : Int) := by have := HLJ.out; unfold wrap64; omega
      rw [hw]
      exact ⟨⟨j + 1, by omega, rfl, by rw [HST.out, ← Sk.pd_map]; exact H5.out⟩, by simp [intOf]; omega⟩
    · obtain rfl : j = L.length := by omega
      have hji : ¬ (L.length : Int) < (L.length : Int) := by omega
      rw [List.take_length] at H2
      have HML := Lib.hid (Sk.puts_len L L.length (Nat.le_refl _))
      rw [List.take_length] at HML
      generalize Sk.puts L = M at H2 HML
      have HM4 : Hid (M.length ≤ 400) := Lib.hid (by have := HLL.out; have := HML.out; omega)
      clear hj hjl HD HNN HTW HML HLL
      obtain ⟨S, S', vv, h1, h2, h3, h4⟩ := H2.out
      have CF := Lib.hid (Sk.rfrom_c h2 ⟨kn, ki, ks⟩ HZ.out (by have := HM4.out; omega))
      have HMF : Hid (Sk.from_ Sk.kd (M.map Sk.E.d) ⟨kn, ki, ks⟩ = (Sk.from_ Sk.ke M ⟨kn, ki, ks⟩).map Sk.E.d) := Lib.hid (Sk.map_from (key := Sk.ke) Sk.E.d Sk.kd (fun _ => rfl) M _)
      have HFL : Hid ((Sk.from_ Sk.ke M ⟨kn, ki, ks⟩).length ≤ 400 ∧ ∀ y ∈ Sk.from_ Sk.ke M ⟨kn, ki, ks⟩, Sk.Row wb.heap.size wr y.rv y.row) := Lib.hid ⟨by unfold Sk.from_; rw [List.length_drop]; have := HM4.out; omega, fun y hy => (h2.rows y (List.mem_of_mem_drop hy)).1⟩
      have HP := Lib.hid h1
      have HLT := Lib.hid (And.intro h1.lt h2.alive)
      have HB4 := Lib.hid h4
      obtain ⟨⟨⟨k0, k1, k2⟩, _⟩, _⟩ := HC.out wr h4
      generalize Sk.from_ Sk.ke M ⟨kn, ki, ks⟩ = F at CF HMF HFL
      clear h1 h2 h3 h4 H2
      gi_wp2_with (first
        | (refine ⟨trivial, ?_⟩; gi_at_call 21; refine (callsIn_wide.2 CF.out).mono ?_; rintro e w6 ⟨⟨u, rfl, hu⟩, g6⟩
           obtain ⟨fa, fc, rfl, hfc, hF⟩ := hu
           obtain ⟨w7, hw7⟩ : ∃ W, W = (w6.alloc (.cells #[.slice fa F.length fc] 23)).alloc (.cells #[.int .i64 0] 3) := ⟨_, rfl⟩
           have HX7 : Hid (Below w6.heap.size w6 w7 ∧ w7.heap.size = w6.heap.size + 2 ∧ w7.heap[w6.heap.size]? = some (.cells #[.slice fa F.length fc] 23 (0, 0)) ∧ w7.heap[w6.heap.size + 1]? = some (.cells #[.int .i64 0] 3 (0, 0))) := Lib.hid (by
             have b1 := (Below.refl _ w6).alloc (Nat.le_refl _) (.cells #[.slice fa F.length fc] 23)
             have b2 := (Below.refl _ (w6.alloc (.cells #[.slice fa F.length fc] 23))).alloc (Nat.le_refl _) (.cells #[.int .i64 0] 3)
             rw [← hw7] at b2
             refine ⟨b1.trans (b2.mono (by simp)), by rw [hw7]; simp, (b2.block w6.heap.size (by simp)).trans (heap_alloc_new w6 _), ?_⟩
             rw [hw7]
             have := heap_alloc_new (w6.alloc (.cells #[.slice fa F.length fc] 23)) (.cells #[.int .i64 0] 3)
             rwa [World.size_alloc] at this)
           have G6 := Lib.hid g6
           have HFF := Lib.hid hF
           have HB7 : Hid (Below wr.heap.size wr w7) := Lib.hid (g6.trans (HX7.out.1.mono g6.size))
           obtain ⟨⟨⟨k0, k1, k2⟩, _⟩, _⟩ := HC.out w7 (HB4.out.trans (HB7.out.mono HB4.out.size))
           rw [hw7] at k0 k1 k2
           have CG := Lib.hid (Sk.from_c (w := w7) (some ⟨p, 0, none⟩) ⟨kn, ki, ks⟩ HZ.out w7.heap.size rfl)
           have HW7 := Lib.hid hw7
           unfold Kn.V.val at CG
           clear hF g6 hw7 hfc CF)
        | (rw [← HW7.out]; refine ⟨trivial, ?_⟩; gi_at_call 22; refine (callsIn_wide.2 CG.out).mono ?_; rintro e w8 ⟨rfl, c8, k8, g8⟩))
      clear k0 k1 k2 CG
      have HX8 : Hid (Below wr.heap.size wr w8 ∧ w6.heap.size + 1 < w8.heap.size ∧ wr.heap.size ≤ w6.heap.size ∧ w8.heap[w6.heap.size]? = some (.cells #[.slice fa F.length fc] 23 (0, 0)) ∧ w8.heap[w6.heap.size + 1]? = some (.cells #[.int .i64 0] 3 (0, 0))) := Lib.hid (by
        have hs := HX7.out.2.1
        have hs8 := g8.size
        exact ⟨HB7.out.trans (g8.mono HB7.out.size), by omega, G6.out.size, (g8.block _ (by omega)).trans HX7.out.2.2.1, (g8.block _ (by omega)).trans HX7.out.2.2.2⟩)
      have HSEQ := Lib.hid ((HP.out.later HX8.out.1).from_ HLT.out.1 HX8.out.1.size c8 k8)
      rw [HMF.out] at HSEQ
      generalize w6.heap.size = n6 at HX8 HFF ⊢
      have HWF : Hid (∀ W, Below wr.heap.size w8 W → ∀ i y, F[i]? = some y → ∃ fb fo, fa = some ⟨fb, fo, none⟩ ∧ (W.cell? ⟨fb, fo + i * 2, none⟩ = some (.bool y.gone) ∧ W.cell? ⟨fb, fo + i * 2 + 1, none⟩ = some y.rv) ∧ Kn.Vals W y.rv y.row) := Lib.hid fun W g i y hy => by
        rcases HFF.out with ⟨h0, _⟩ | ⟨fb, fo, cs, fr, ha, hS', _, hc⟩
        · rw [h0] at hy; cases hy
        · have hb : fb < wr.heap.size := HLT.out.2 fb hS'
          have g9 : Below wr.heap.size w6 W := ((HX7.out.1.mono G6.out.size).trans (g8.mono (by have := HX7.out.1.size; have := G6.out.size; omega))).trans g
          refine ⟨fb, fo, ha, ⟨?_, ?_⟩, ?_⟩
          · exact (g9.cell (p := ⟨fb, fo + i * 2, none⟩) hb).trans (hc i 0 y hy (by decide))
          · exact (g9.cell (p := ⟨fb, fo + i * 2 + 1, none⟩) hb).trans (hc i 1 y hy (by decide))
          · exact ((HFL.out.2 y (List.mem_of_getElem? hy)).below (((HX8.out.1.trans g)).mono HB4.out.size)).vals
      have HBW : Hid (∀ W, Below wr.heap.size w8 W → Below wb.heap.size wb W) := Lib.hid fun W g => HB4.out.trans ((HX8.out.1.trans g).mono HB4.out.size)
      clear c8 k8 g8 HX7 HFF HB7 HW7 G6 HP HMF HLT HM4 HTB
      refine Sk.range_wa (gf := 37) rfl (enters_of Tryd.func37 (by kernel_rfl) rfl)
        HSEQ.out (Below.refl _ _) HX8.out.1.size (fun x args W he => by obtain ⟨u, rfl, _⟩ := he; rfl)
        (fun s W => Below wr.heap.size w8 W ∧ W.heap[n6]? = some (.cells #[.slice fa F.length fc] 23 (0, 0)) ∧ W.heap[n6 + 1]? = some (.cells #[.int .i64 (s.1.length : Int)] 3 (0, 0)))
        (fun c s W => (c = .exit 2 ∧ (s.1.length : Int) = m) ∧ Below wr.heap.size w8 W ∧ W.heap[n6]? = some (.cells #[.slice fa F.length fc] 23 (0, 0)) ∧ W.heap[n6 + 1]? = some (.cells #[.int .i64 (s.1.length : Int)] 3 (0, 0)))
        ?own ?ownx ⟨Below.refl _ _, HX8.out.2.2.2.1, HX8.out.2.2.2.2⟩
        (fun T s x a' W => ∃ (bx : Nat) (ua : Option Addr) (cu : Nat), a' = { tmps := (T.setIfInBounds 44 (.agg #[.bool x.gone, .slice ua x.row.length cu])).setIfInBounds 12 (.pointer (some ⟨bx, 0, none⟩)), defers := [] } ∧ w8.heap.size ≤ bx ∧ W.heap[bx]? = some (.cells #[.bool x.gone, .slice ua x.row.length cu] 37 (0, 0)) ∧
          (Sk.Rw wr.heap.size W (.slice ua x.row.length cu) x.row ∧ x.row ≠ [] ∧ (∀ v ∈ x.row, Kn.Z v) ∧ x.row.length ≤ 4398046511104) ∧ Below wr.heap.size w8 W ∧ W.heap[n6]? = some (.cells #[.slice fa F.length fc] 23 (0, 0)) ∧ W.heap[n6 + 1]? = some (.cells #[.int .i64 (s.1.length : Int)] 3 (0, 0)))
        ?ownA ?assign ?body ?done ?stop
      case own =>
        rintro s A' B' row ⟨h1, h2, h3⟩ hg hr
        exact ⟨h1.grown hg (by have := h1.size; have := HX8.out.1.size; omega) fun k e => by have := (hr k e).1; have := HX8.out.1.size; omega, Sk.blk_kept h2 hg fun r e => (hr r e).2, Sk.blk_kept h3 hg fun r e => (hr r e).2⟩
      case ownx =>
        rintro c s A' B' row ⟨h0, h1, h2, h3⟩ hg hr
        exact ⟨h0, h1.grown hg (by have := h1.size; have := HX8.out.1.size; omega) fun k e => by have := (hr k e).1; have := HX8.out.1.size; omega, Sk.blk_kept h2 hg fun r e => (hr r e).2, Sk.blk_kept h3 hg fun r e => (hr r e).2⟩
      case ownA =>
        rintro s x a' u A' B' row ⟨bx, ua, cu, h0, hbx, hb, ⟨he, he2⟩, h1, h2, h3⟩ hg hr
        exact ⟨bx, ua, cu, h0, hbx, Sk.blk_kept hb hg fun r e => (hr r e).2, ⟨Sk.Rw.own _ _ _ _ () _ _ row he hg hr, he2⟩, h1.grown hg (by have := h1.size; have := HX8.out.1.size; omega) fun k e => by have := (hr k e).1; have := HX8.out.1.size; omega, Sk.blk_kept h2 hg fun r e => (hr r e).2, Sk.blk_kept h3 hg fun r e => (hr r e).2⟩
      case assign =>
        rintro l pre O x args W hI ⟨u, rfl, hu, hne, hz, hl⟩ hpx hbW
        obtain ⟨ua, cu, rfl⟩ : ∃ ua cu, u = .slice ua x.row.length cu := by
          rcases hu.form with ⟨e, e0⟩ | ⟨g, c, e, _⟩
          · exact absurd e0 hne
          · exact ⟨_, c, e⟩
        have HI := Lib.hid hI
        have HU := Lib.hid (And.intro hu (And.intro hne (And.intro hz hl)))
        have HW8 : Hid (w8.heap.size ≤ W.heap.size) := Lib.hid hbW.size
        clear hI hu hne hz hl hpx hbW
        gi_wp2
        have ha : Below W.heap.size W (W.alloc (.cells #[.bool x.gone, .slice ua x.row.length cu] 37)) := (Below.refl _ W).alloc (Nat.le_refl _) _
        have hlt : ∀ b o, W.heap[b]? = some o → b < W.heap.size := fun b o h => (Array.getElem?_eq_some_iff.1 h).1
        refine ⟨ha, W.heap.size, ua, cu, ⟨rfl, rfl, rfl⟩, HW8.out, heap_alloc_new W _, ⟨HU.out.1.kept ha, HU.out.2⟩, HI.out.1.trans (ha.mono (Nat.le_trans HX8.out.1.size HW8.out)), (ha.block _ (hlt _ _ HI.out.2.1)).trans HI.out.2.1, (ha.block _ (hlt _ _ HI.out.2.2)).trans HI.out.2.2⟩
      case body =>
        rintro l pre O x a' W hl hlr ⟨bx, ua, cu, rfl, hbx, hbk, ⟨hu, hne, hz, hlen⟩, h1, h2, h3⟩ hpx hbW
        simp only [List.setIfInBounds_toArray, List.set_cons_succ, List.set_cons_zero]
        obtain ⟨y, hy, rfl⟩ : ∃ y, F[pre.length]? = some y ∧ y.d = x := by
          obtain ⟨t, ht⟩ := hpx
          have h9 : (F.map Sk.E.d)[pre.length]? = some x := by rw [← ht]; simp
          rw [List.getElem?_map, Option.map_eq_some_iff] at h9
          exact h9
        have hpl : pre.length < F.length := (List.getElem?_eq_some_iff.1 hy).1
        have hni : ¬ (F.length : Int) ≤ (pre.length : Int) := by omega
        have hn0 : (0 : Int) ≤ (pre.length : Int) := by omega
        have hnl : (pre.length : Int) < (F.length : Int) := by omega
        have hF4 := HFL.out.1
        have hw1 : IntKind.i64.wrap ((pre.length : Int) + 1) = (pre.length : Int) + 1 := by rw [IntKind.wrap_i64]; omega
        obtain ⟨fb, fo, rfl, ⟨f0, f1⟩, hv⟩ := HWF.out W.drew h1.drew pre.length y hy
        obtain ⟨ra, rc, hrv⟩ : ∃ ra rc, y.rv = .slice ra y.row.length rc := by
          obtain ⟨ra, rc, e, _⟩ := HFL.out.2 y (List.mem_of_getElem? hy)
          exact ⟨ra, rc, e⟩
        have hu2 : Sk.Rw wr.heap.size W.drew (.slice ua y.row.length cu) y.row := hu.kept (Below.refl _ W).drew
        have CS := Lib.hid (Dd.rsame_c (.slice ua y.row.length cu) y.rv y.d y.d W.drew (hu2.in_ hz hlen).vals hv)
        rw [Sk.same_self, hrv] at CS
        rw [hrv] at f1
        have CS : Hid (Calls Tryd.prog 19 #[.agg #[.bool y.gone, .slice ua y.row.length cu], .agg #[.bool y.gone, .slice ra y.row.length rc]] W.drew fun e w' => e = .returned (.bool true) ∧ Below W.drew.heap.size W.drew w') := CS
        have n0 : W.drew.cell? ⟨n6 + 1, 0, none⟩ = some (.int .i64 (pre.length : Int)) := by rw [show W.drew.cell? ⟨n6 + 1, 0, none⟩ = W.cell? ⟨n6 + 1, 0, none⟩ from rfl, cell_of_row _ _ _ _ _ _ h3]; rfl
        have m0 : W.drew.cell? ⟨n6, 0, none⟩ = some (.slice (some ⟨fb, fo, none⟩) F.length fc) := by rw [show W.drew.cell? ⟨n6, 0, none⟩ = W.cell? ⟨n6, 0, none⟩ from rfl, cell_of_row _ _ _ _ _ _ h2]; rfl
        have b0 : W.drew.cell? ⟨bx, 0, none⟩ = some (.bool y.gone) := by rw [show W.drew.cell? ⟨bx, 0, none⟩ = W.cell? ⟨bx, 0, none⟩ from rfl, cell_of_row _ _ _ _ _ _ hbk]; rfl
        have b1 : W.drew.cell? ⟨bx, 1, none⟩ = some (.slice ua y.row.length cu) := by rw [show W.drew.cell? ⟨bx, 1, none⟩ = W.cell? ⟨bx, 1, none⟩ from rfl, cell_of_row _ _ _ _ _ _ hbk]; rfl
        have HI := Lib.hid (And.intro h1 (And.intro h2 h3))
        have hmx : Tryd.prog.follows .mixedOrders = true := by kernel_rfl
        generalize y.gone = yg at CS b0 f0
        generalize y.row.length = yl at CS b1 f1
        clear hl hlr hbx hbk hu hu2 hne hz hlen h1 h2 h3 hpx hbW hv hrv HWF
        gi_upto_region 14 with (fail)
        gi_cut [57] from 45 (fun s wx => s = .bool false ∧ Below W.heap.size W wx)
        case first =>
          gi_region_with_o (refine ⟨trivial, ?_⟩; gi_at_call 19; refine (CallsIn.inRound l (callsIn_wide.2 CS.out)).mono ?_; rintro e w9 ⟨rfl, g9⟩)
          all_goals
            gi_wp2_with (fail)
            gi_meet
            exact ⟨rfl, (Below.refl _ W).drew.trans g9⟩
        case rest =>
          obtain ⟨rfl, g9⟩ := hcut
          have hlt : ∀ b o, W.heap[b]? = some o → b < W.heap.size := fun b o h => (Array.getElem?_eq_some_iff.1 h).1
          have hi1 : Below wr.heap.size w8 wc := HI.out.1.trans (g9.mono (Nat.le_trans HX8.out.1.size HI.out.1.size))
          have hi2 := (g9.block _ (hlt _ _ HI.out.2.1)).trans HI.out.2.1
          have hi3 := (g9.block _ (hlt _ _ HI.out.2.2)).trans HI.out.2.2
          have n1 := Sk.cell_blk hi3
          have f3 := frozen_of_row _ _ 0 _ _ hi3
          obtain ⟨w10, hw10⟩ : ∃ W, W = wc.setCell ⟨n6 + 1, 0, none⟩ (.int .i64 ((pre.length : Int) + 1)) := ⟨_, rfl⟩
          have hb10 : Below wr.heap.size wc w10 := by rw [hw10]; exact (Below.refl _ wc).setCell (p := ⟨n6 + 1, 0, none⟩) (by show wr.heap.size ≤ n6 + 1; have := HX8.out.2.2.1; omega) _
          have HR : Hid (Sk.Kp w8.heap.size O O W w10 ∧ Below wr.heap.size W w10 ∧ Below wr.heap.size w8 w10 ∧ w10.heap[n6]? = some (.cells #[.slice (some ⟨fb, fo, none⟩) F.length fc] 23 (0, 0)) ∧ w10.heap[n6 + 1]? = some (.cells #[.int .i64 (((pre ++ [y.d]).length : Nat) : Int)] 3 (0, 0))) := Lib.hid (by
            refine ⟨?_, (g9.mono (Nat.le_trans HX8.out.1.size HI.out.1.size)).trans hb10, hi1.trans hb10, ?_, ?_⟩
            · rw [hw10]
              exact (Sk.Kp.below g9).trans (Sk.Kp.set O wc (.inl HX8.out.2.1) _)
            · rw [hw10]
              exact (Below.heap_setCell _ _ _ _ (by show n6 ≠ n6 + 1; omega)).trans hi2
            · rw [hw10, List.length_append, List.length_cons, List.length_nil]
              exact Sk.one_set _ hi3)
          obtain ⟨⟨_, l1⟩, _⟩ := HC.out w10 (HBW.out w10 HR.out.2.2.1)
          rw [hw10] at l1
          have HW10 := Lib.hid hw10
          have hlen1 : ((pre ++ [y.d]).length : Int) = (pre.length : Int) + 1 := by simp
          have HLE := Lib.hid hlen1
          clear hlt hi1 hi2 hi3 hb10 hw10 g9 HI CS n0 m0 b0 b1 f0 f1 hlen1 HFL hy
          have n2 : w10.cell? ⟨n6 + 1, 0, none⟩ = some (.int .i64 ((pre.length : Int) + 1)) := by rw [Sk.cell_blk HR.out.2.2.2.2, HLE.out]
          gi_upto_region 17 with (fail)
          rw [← HW10.out]
          rw [← HW10.out] at l1
          clear n1 f3
          by_cases hm : (pre.length : Int) + 1 = m
          · have HM := Lib.hid (show ((pre ++ [y.d]).length : Int) = m by rw [HLE.out]; exact hm)
            rw [hm] at n2
            clear hm hw1
            gi_wp2
            exact ⟨O, HR.out.1, ⟨rfl, HM.out⟩, HR.out.2.2⟩
          · gi_wp2
            exact ⟨O, HR.out.1, HR.out.2.1, HR.out.2.2⟩
      case done =>
        rintro D O W hD ⟨h1, h2, h3⟩ hK
        rw [List.length_map] at h3
        have n1 := Sk.cell_blk h3
        have m1 := Sk.cell_blk h2
        obtain ⟨⟨_, l1⟩, hr6, hb6⟩ := HC.out W (HBW.out W h1)
        have r1 := Sk.cell_blk hr6
        have f1 := frozen_of_row _ _ 0 _ _ hr6
        have HFIN : Hid ((W.setCell ⟨w.heap.size + 1 + 1, 0, none⟩ (.bool true)).heap[D]? = some (.deferred (some [])) ∧ (W.setCell ⟨w.heap.size + 1 + 1, 0, none⟩ (.bool true)).heap[w.heap.size + 1 + 1]? = some (.cells #[.bool true] 4 (0, 0)) ∧ Below w.heap.size w ((W.setCell ⟨w.heap.size + 1 + 1, 0, none⟩ (.bool true)).putObj D (.deferred none))) := Lib.hid (by
          have hne : D ≠ w.heap.size + 1 + 1 := fun e => by rw [e] at hK; rw [hr6] at hK; cases hK
          have hk2 : (W.setCell ⟨w.heap.size + 1 + 1, 0, none⟩ (.bool true)).heap[D]? = some (.deferred (some [])) := (Below.heap_setCell _ _ _ _ (by first | exact hne | exact hne.symm)).trans hK
          have hle : w.heap.size ≤ D := by have := hb6.size; have := HX8.out.1.size; have := HB4.out.size; have := (HC.out wb (Below.refl _ _)).2.2.size; omega
          exact ⟨hk2, Sk.one_set _ hr6, (hb6.setCell (p := ⟨w.heap.size + 1 + 1, 0, none⟩) (by show w.heap.size ≤ w.heap.size + 1 + 1; omega) _).trans (belowK_b (Nat.le_refl _) _ D _ _ hle hk2 rfl rfl)⟩)
        clear h1 h2 h3 hK hr6 hb6 hD HX8 HWF HFL HSEQ
        gi_wp2
        refine Sk.done_cell rfl rfl HFIN.out.1 HFIN.out.2.1 ⟨rfl, HFIN.out.2.2⟩
      case stop =>
        rintro D c pre O W hD hpre hne ⟨⟨rfl, hm⟩, h1, h2, h3⟩ hK
        have n1 := Sk.cell_blk h3
        have m1 := Sk.cell_blk h2
        obtain ⟨⟨_, l1⟩, hr6, hb6⟩ := HC.out W (HBW.out W h1)
        have r1 := Sk.cell_blk hr6
        have f1 := frozen_of_row _ _ 0 _ _ hr6
        rw [hm] at n1
        have HFIN : Hid ((W.setCell ⟨w.heap.size + 1 + 1, 0, none⟩ (.bool true)).heap[D]? = some (.deferred (some [])) ∧ (W.setCell ⟨w.heap.size + 1 + 1, 0, none⟩ (.bool true)).heap[w.heap.size + 1 + 1]? = some (.cells #[.bool true] 4 (0, 0)) ∧ Below w.heap.size w ((W.setCell ⟨w.heap.size + 1 + 1, 0, none⟩ (.bool true)).putObj D (.deferred none))) := Lib.hid (by
          have hne : D ≠ w.heap.size + 1 + 1 := fun e => by rw [e] at hK; rw [hr6] at hK; cases hK
          have hk2 : (W.setCell ⟨w.heap.size + 1 + 1, 0, none⟩ (.bool true)).heap[D]? = some (.deferred (some [])) := (Below.heap_setCell _ _ _ _ (by first | exact hne | exact hne.symm)).trans hK
          have hle : w.heap.size ≤ D := by have := hb6.size; have := HX8.out.1.size; have := HB4.out.size; have := (HC.out wb (Below.refl _ _)).2.2.size; omega
          exact ⟨hk2, Sk.one_set _ hr6, (hb6.setCell (p := ⟨w.heap.size + 1 + 1, 0, none⟩) (by show w.heap.size ≤ w.heap.size + 1 + 1; omega) _).trans (belowK_b (Nat.le_refl _) _ D _ _ hle hk2 rfl rfl)⟩)
        clear h1 h2 h3 hK hr6 hb6 hD HX8 HWF HFL HSEQ hm hpre hne
        by_cases hmF : m = (F.length : Int)
        · gi_wp2
          refine Sk.done_cell rfl rfl HFIN.out.1 HFIN.out.2.1 ⟨rfl, HFIN.out.2.2⟩
        · gi_wp2
          refine Sk.done_cell rfl rfl HFIN.out.1 HFIN.out.2.1 ⟨rfl, HFIN.out.2.2⟩
end Go.Proofs.YtfjhffldhpcdmaaDoor
