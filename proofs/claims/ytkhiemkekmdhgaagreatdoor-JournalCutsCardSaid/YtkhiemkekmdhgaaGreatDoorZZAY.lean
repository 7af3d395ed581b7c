import Derived.Test.YtkhiemkekmdhgaaGreatDoorZZAW
import Derived.Test.YtkhiemkekmdhgaaGreatDoorZZAX
import Derived.Test.YtkhiemkekmdhgaaGreatDoorZZAQ
import Derived.Sort.CutIn
import Derived.Test.YtkhiemkekmdhgaaGreatDoorZZAS
import Derived.Test.YtkhiemkekmdhgaaGreatDoorZZAD
import Derived.Deep.Slices
import Derived.Deep.Fields
import Derived.ChangeSame
import Derived.ProofKit
import Derived.OpenShut
import Derived.SizedLaws
import Derived.Test.YtkhiemkekmdhgaaGreatDoorRows
import Derived.Below
import Derived.Carry
namespace Go.Proofs.YtkhiemkekmdhgaaGreatDoor
open Go Go.RowKit Go.Shelf
attribute [local go_sem] Oper.semAt_some
theorem Jn.acc_ds {m B : Nat} {W : World} {v : Value} {LE : List Sk.E} (h3 : Dk.Own 26 2 Sk.E.enc B W v LE) (h6 : ∀ y ∈ LE, Sk.Rw m W y.rv y.row) : Bk.Ds W v (LE.map Sk.E.d) := by
 rcases h3.form with ⟨rfl, rfl⟩ | ⟨g, c, rfl, h1, h2, _, h4⟩
 ·exact ⟨none, 0, rfl, Nat.le_refl _, by omega, .inl rfl⟩
 ·refine ⟨_, c, by rw [List.length_map], by rw [List.length_map]; exact h1, by unfold maxLen at h2; omega, .inr ⟨g, 0, rfl, h4, fun i x hx => ?_⟩⟩
  rw [List.getElem?_map] at hx
  cases hy : LE[i]? with
  | none => rw [hy] at hx; cases hx
  | some y =>
    rw [hy] at hx
    obtain rfl : y.d = x := by simpa using hx
    have c0 := h3.cell Sk.enc_len rfl hy (j := 0) (by decide)
    have c1 := h3.cell Sk.enc_len rfl hy (j := 1) (by decide)
    rw [Nat.add_zero] at c0
    rw [Nat.zero_add]
    exact ⟨y.rv, c0, c1, (h6 y (List.mem_of_getElem? hy)).vals⟩
set_option maxHeartbeats 8000000 in
set_option maxRecDepth 100000 in
theorem Jn.appendSeq_c {w : World} {B p bl : Nat} {S : Nat → Prop} {X : List Dd.D} (h : Sk.PD B S w p X) (hX : X.length ≤ 900000) (c1 : w.cell? ⟨bl, 0, none⟩ = some (.pointer (some ⟨p, 0, none⟩))) :
 Calls Tryz.prog 65 #[.slice none 0 0, .func (.func 66) #[] #[.pointer (some ⟨bl, 0, none⟩)]] w fun e w' => ∃ v, e = .returned v ∧ Bk.Ds w' v X ∧ Below w.heap.size w w' := by
 obtain ⟨w9, hw9⟩ : ∃ w9, w9 = w.alloc (.cells #[.slice none 0 0] 28) := ⟨_, rfl⟩
 obtain ⟨na, hna⟩ : ∃ na, na = w.heap.size := ⟨_, rfl⟩
 have HX9 : Hid (Below w.heap.size w w9 ∧ na < w9.heap.size ∧ w.heap.size ≤ na ∧ w9.heap[na]? = some (.cells #[.slice none 0 0] 28 (0, 0))) := Lib.hid
  ⟨by rw [hw9]; exact (Below.refl _ w).alloc (Nat.le_refl _) _, by rw [hw9, hna, World.size_alloc]; omega, by rw [hna]; exact Nat.le_refl _, by rw [hw9, hna]; exact heap_alloc_new w _⟩
 have c9 := (HX9.out.1.cell (p := ⟨bl, 0, none⟩) (World.block_lt_of_cell? w _ c1)).trans c1
 have HSEQ := Lib.hid ((h.later HX9.out.1).all h.lt HX9.out.1.size c9)
 have HXL := Lib.hid hX
 clear h hX c1 c9
 refine (callsIn_wide (n := 9)).1 ?_
 refine callsIn_of_wp_marks Tryz.func65 rfl trivial ?_ rfl
 simp only [Tryz.ntmps65, List.size_toArray, List.length_cons, List.length_nil, Nat.reduceAdd, Nat.reduceSub, Array.replicate_succ, Array.replicate_zero, List.push_toArray, List.append_toArray, List.nil_append, List.cons_append]
 gi_wp2
 rw [← hw9, ← hna]
 clear hw9 hna
 refine Sk.range_wa (gf := 66) rfl (enters_of Tryz.func66 (by kernel_rfl) rfl)
  HSEQ.out (Below.refl _ _) HX9.out.1.size (fun x args W he => by obtain ⟨u, rfl, _⟩ := he; rfl)
  (fun s W => Sk.Acc w.heap.size w9.heap.size w9 na s.2 s.1 W)
  (fun c s W => False)
  (Sk.Acc.own HX9.out.1.size HX9.out.1.size) ?ownx ⟨Below.refl _ _, .slice none 0 0, [], HX9.out.2.2.2, Dk.Own.nil _ _, rfl, (fun b hb => by cases hb), fun y hy => by cases hy⟩
  (fun T s x a' W => ∃ (bx : Nat) (ua : Option Addr) (cu : Nat), a' = { tmps := (T.setIfInBounds 7 (.agg #[.bool x.gone, .slice ua x.row.length cu])).setIfInBounds 5 (.pointer (some ⟨bx, 0, none⟩)), defers := [] } ∧ w9.heap.size ≤ bx ∧ W.heap[bx]? = some (.cells #[.bool x.gone, .slice ua x.row.length cu] 26 (0, 0)) ∧
   Sk.Rw w.heap.size W (.slice ua x.row.length cu) x.row ∧ Sk.Acc w.heap.size w9.heap.size w9 na s.2 s.1 W)
  ?ownA ?assign ?body ?done ?stop
 case ownx =>
  rintro c s A' B' row h0 hg hr
  exact h0
 case ownA =>
  rintro s x a' u A' B' row ⟨bx, ua, cu, h0, hbx, hb, he, h1⟩ hg hr
  exact ⟨bx, ua, cu, h0, hbx, Sk.blk_kept hb hg fun r e => (hr r e).2, Sk.Rw.own _ _ _ _ () _ _ row he hg hr, Sk.Acc.own (C := w9.heap.size) HX9.out.1.size HX9.out.1.size s A' B' row h1 hg hr⟩
 case assign =>
  rintro l pre O x args W hI ⟨u, rfl, hu, hne, hz, hl⟩ hpx hbW
  obtain ⟨ua, cu, rfl⟩ : ∃ ua cu, u = .slice ua x.row.length cu := by
   rcases hu.form with ⟨e, e0⟩ | ⟨g, c, e, _⟩
   ·exact absurd e0 hne
   ·exact ⟨_, c, e⟩
  have HI := Lib.hid hI
  have HU := Lib.hid hu
  have HW8 : Hid (w9.heap.size ≤ W.heap.size) := Lib.hid hbW.size
  clear hI hu hne hz hl hpx hbW
  gi_wp2
  have ha : Below W.heap.size W (W.alloc (.cells #[.bool x.gone, .slice ua x.row.length cu] 26)) := (Below.refl _ W).alloc (Nat.le_refl _) _
  refine ⟨ha, W.heap.size, ua, cu, ⟨rfl, rfl, rfl⟩, HW8.out, heap_alloc_new W _, HU.out.kept ha, HI.out.later HX9.out.1.size ha⟩
 case body =>
  rintro l pre O x a' W hl hlr ⟨bx, ua, cu, rfl, hbx, hbk, hu, h1, v, LE, h2, h3, h4, h5, h6⟩ hpx hbW
  simp only [List.setIfInBounds_toArray, List.set_cons_succ, List.set_cons_zero]
  obtain ⟨va, vc, rfl⟩ : ∃ va vc, v = .slice va LE.length vc := by
   rcases h3.form with ⟨e, e0⟩ | ⟨g, c, e, _⟩
   ·exact ⟨none, 0, by rw [e, e0]; rfl⟩
   ·exact ⟨_, c, e⟩
  have hlen : LE.length < 900000 := by
   obtain ⟨t, ht⟩ := hpx
   have h9 : (pre ++ [x] ++ t).length = X.length := by rw [ht]
   simp only [List.length_append, List.length_cons, List.length_nil] at h9
   have h8 : LE.length = pre.length := by have := congrArg List.length h4; rwa [List.length_map] at this
   have := HXL.out
   omega
  have n0 := Sk.cell_blk h2
  have f0 := frozen_of_row _ _ 0 _ _ h2
  have b0 := cell_of_row _ _ 0 _ _ _ hbk
  have b1 := cell_of_row _ _ 1 _ _ _ hbk
  simp only [List.getElem?_toArray, List.getElem?_cons_zero, List.getElem?_cons_succ] at b0 b1
  have HST : Hid (∀ v' w2 w3, Dk.Own 26 2 Sk.E.enc w9.heap.size w2 v' (LE ++ [⟨x.gone, .slice ua x.row.length cu, x.row⟩]) → Ty.Grew W w2 (.slice va LE.length vc) v' → w3 = w2.setCell ⟨na, 0, none⟩ v' → ∃ O', Sk.Kp w9.heap.size O O' W w3 ∧ Below w.heap.size W w3 ∧ Sk.Acc w.heap.size w9.heap.size w9 na O' (pre ++ [x]) w3) := Lib.hid fun v' w2 w3 ho hg hw3 =>
   Sk.Acc.step (x := ⟨x.gone, .slice ua x.row.length cu, x.row⟩) rfl HX9.out.2.2.1 HX9.out.2.1 h1 h2 h3 h4 h5 h6 hu ho hg hw3
  have HNB : Hid (∀ v' w2, Ty.Grew W w2 (.slice va LE.length vc) v' → w2.heap[na]? = some (.cells #[.slice va LE.length vc] 28 (0, 0))) := Lib.hid fun v' w2 hg => (hg.by_.block na (Array.getElem?_eq_some_iff.1 h2).1 fun e => by have := (World.ownsRow.lt h3 na e.symm).1; have := HX9.out.2.1; omega).trans h2
  have HOW := Lib.hid h3
  have HHL := Lib.hid hlen
  have HW8 : Hid (w9.heap.size ≤ W.heap.size) := Lib.hid (Nat.le_trans hbx (Nat.le_of_lt (Array.getElem?_eq_some_iff.1 hbk).1))
  clear hl hlr hbx hbk hu h1 h2 h3 h4 h5 h6 hpx hbW hlen
  gi_upto_region 3 with (fail)
  refine Sk.regionL_round (by kernel_rfl) ?_
  go_wp2_with (at_builtin; refine Sk.wpList_app [⟨x.gone, .slice ua x.row.length cu, x.row⟩] (fun y hy => by rw [List.mem_singleton] at hy; subst hy; exact ⟨_, _, _, rfl⟩) (by rw [World.size_alloc]; have := HW8.out; omega) (World.ownsRow.alloc HOW.out _) (by have := HHL.out; simp only [List.length_cons, List.length_nil]; omega) (Dk.src_one W _ _ rfl 26) (.tmp 8) (.tmp 10) (by rfl) (by rfl) (by rfl) (by rfl) ?_; intro v2 w2 ho2 hg2; obtain ⟨gg, cg, hv2, _⟩ := ho2.form1; subst hv2; have hg3 := hg2.behind _; have hnb2 := HNB.out _ _ hg3; have n2 := Sk.cell_blk hnb2; have f2 := frozen_of_row _ _ 0 _ _ hnb2; obtain ⟨w3, hw3⟩ : ∃ X, X = w2.setCell ⟨na, 0, none⟩ (.slice (some ⟨gg, 0, none⟩) (LE.length + 1) cg) := ⟨_, rfl⟩; have HE := Lib.hid (HST.out _ _ _ ho2 hg3 hw3); clear ho2 hg2 hg3 hnb2)
  rw [← hw3]
  clear n0 f0 b0 b1 n2 f2 hw3 HST HNB HOW
  refine Sk.Calm.normal ?_
  gi_wp2
  exact HE.out
 case done =>
  rintro D O W hD ⟨h1, v, LE, h2, h3, h4, _, h6⟩ hK
  have h4 : LE.map Sk.E.d = X := h4
  have h3p : Dk.Own 26 2 Sk.E.enc w9.heap.size (W.putObj D (.deferred none)) v LE := Sk.own_put (I := fun W => Dk.Own 26 2 Sk.E.enc w9.heap.size W v LE) (Sk.own_own D _ v LE) _ h3 (Nat.le_refl D) hK rfl
  have h6p : ∀ y ∈ LE, Sk.Rw w.heap.size (W.putObj D (.deferred none)) y.rv y.row := fun y hy => Sk.own_put (I := fun W => Sk.Rw w.heap.size W y.rv y.row) (Sk.Rw.own D _ _ _) _ (h6 y hy) (Nat.le_refl D) hK rfl
  have hBW : Below w.heap.size w W := HX9.out.1.trans h1
  have hDl : w.heap.size ≤ D := by have := HX9.out.1.size; omega
  have HFIN : Hid (W.heap[D]? = some (.deferred (some [])) ∧ Bk.Ds (W.putObj D (.deferred none)) v X ∧ Below w.heap.size w (W.putObj D (.deferred none))) := Lib.hid ⟨hK, by
   have := Jn.acc_ds h3p h6p
   rwa [h4] at this, hBW.trans (belowK_b (Nat.le_refl _) W D _ _ hDl hK rfl rfl)⟩
  have n0 := Sk.cell_blk h2
  clear h1 h2 h3 h4 h6 hK hD hBW hDl h3p h6p
  gi_wp2
  refine ⟨by simp, .inl ⟨_, _, rfl, run_takeDeferred HFIN.out.1, ?_⟩⟩
  refine ⟨_, results_tmp rfl _ _ _, _, rfl, ?_, HFIN.out.2.2⟩
  exact HFIN.out.2.1
 case stop =>
  rintro D c pre O W hD hpre hne h0 hK
  exact h0.elim
set_option maxHeartbeats 1000000 in
set_option maxRecDepth 100000 in
theorem Jn.collect_c {w : World} {B p bl : Nat} {S : Nat → Prop} {X : List Dd.D} (h : Sk.PD B S w p X) (hX : X.length ≤ 900000) (c1 : w.cell? ⟨bl, 0, none⟩ = some (.pointer (some ⟨p, 0, none⟩))) :
 Calls Tryz.prog 31 #[.func (.func 66) #[] #[.pointer (some ⟨bl, 0, none⟩)]] w fun e w' => ∃ v, e = .returned v ∧ Bk.Ds w' v X ∧ Below w.heap.size w w' := by
 have CA := Lib.hid (Jn.appendSeq_c h hX c1)
 clear h hX c1
 go_enter Tryz.func31, Tryz.ntmps31
 go_wp2_with fail
 refine CA.out.mono ?_
 rintro e w1 ⟨v, rfl, h1, h2⟩
 have H1 := Lib.hid (And.intro h1 h2)
 clear h1 h2
 go_wp2
 go_ret
 exact ⟨_, rfl, H1.out.1, H1.out.2⟩
end Go.Proofs.YtkhiemkekmdhgaaGreatDoor
namespace Go.Proofs.YtkhiemkekmdhgaaGreatDoor
open Go.RowKit
def Jn.TS (w : World) : Prop := Jn.T w ∧ Sk.Tab w
theorem Jn.TS.below {w w' : World} (h : Jn.TS w) (g : Below w.heap.size w w') : Jn.TS w' := ⟨h.1.below g, h.2.later g h.2.lt⟩
def Jn.Pd (w0 : World) (q : Nat) (X : List Dd.D) (lo hi : Nat) (W : World) : Prop :=
 ∃ S : Nat → Prop, Sk.PD w0.heap.size S W q X ∧ Below w0.heap.size w0 W ∧ ∀ b, lo ≤ b → b < hi → b < W.heap.size ∧ ¬ S b
theorem Jn.Pd.below {w0 W : World} {q lo hi : Nat} {X : List Dd.D} (h : Jn.Pd w0 q X lo hi W) : Below w0.heap.size w0 W := by
 obtain ⟨_, _, g, _⟩ := h
 exact g
theorem Jn.Pd.later {w0 W W' : World} {q lo hi : Nat} {X : List Dd.D} (h : Jn.Pd w0 q X lo hi W) (g : Below W.heap.size W W') : Jn.Pd w0 q X W.heap.size W'.heap.size W' := by
 obtain ⟨S, h1, h2, _⟩ := h
 exact ⟨S, h1.later g, h2.trans (g.mono h2.size), fun b hl hh => ⟨hh, fun hs => by have := h1.lt b hs; omega⟩⟩
theorem Jn.Pd.keep {w0 W W' : World} {q lo hi : Nat} {X : List Dd.D} (h : Jn.Pd w0 q X lo hi W) (g : Below W.heap.size W W') : Jn.Pd w0 q X lo hi W' := by
 obtain ⟨S, h1, h2, h3⟩ := h
 exact ⟨S, h1.later g, h2.trans (g.mono h2.size), fun b hl hh => ⟨Nat.lt_of_lt_of_le (h3 b hl hh).1 g.size, (h3 b hl hh).2⟩⟩
theorem Jn.Pd.none {w0 W : World} {q lo hi : Nat} {X : List Dd.D} (h : Jn.Pd w0 q X lo hi W) : Jn.Pd w0 q X 0 0 W := by
 obtain ⟨S, h1, h2, _⟩ := h
 exact ⟨S, h1, h2, fun b _ hb => by omega⟩
theorem Jn.sk_in {w : World} {u : Value} {l : List Kn.V} (h : Kn.Vals w u l) (hne : l ≠ []) (hz : ∀ x ∈ l, Kn.Z x) (h6 : l.length ≤ 6) : Sk.In w u l := by
 obtain ⟨a, c, hv, h⟩ := h
 rcases h with h | ⟨b, o, ha, hb, _, h⟩
 ·exact absurd h hne
 ·exact ⟨a, c, hv, hz, by omega, .inr ⟨b, o, ha, hb, h⟩⟩
theorem Jn.aput_c {w0 W : World} {q lo hi : Nat} {X : List Dd.D} (h : Jn.Pd w0 q X lo hi W) (hT : Sk.Tab w0) (hX : X.length ≤ 900000) {d : Dd.D} {u : Value} (hu : Sk.In W u d.row) (hne : d.row ≠ []) :
 Calls Tryz.prog 30 #[.pointer (some ⟨q, 0, none⟩), .agg #[.bool d.gone, u]] W fun e W' => e = .returned (.bool true) ∧ Jn.Pd w0 q (Sk.put Bk.key X d) lo hi W' ∧ (∀ b, lo ≤ b → b < hi → W'.heap[b]? = W.heap[b]?) ∧ W.heap.size ≤ W'.heap.size := by
 obtain ⟨S, ⟨⟨N, h1, h2⟩, h3⟩, h4, h5⟩ := h
 have hN : N.length ≤ 900000 := by rw [← h2, List.length_map] at hX; exact hX
 refine (Sk.put_k h1 (hT.later h4 hT.lt) (Nat.lt_of_lt_of_le hT.lt (h3 _ h1.mine)) d.gone hu hne hN).mono ?_
 rintro e W' ⟨he, ⟨N', g1, g2⟩, g3⟩
 rw [h2] at g2
 refine ⟨he, ⟨_, ⟨⟨N', g1, g2⟩, fun b hb => ?_⟩, h4.trans (g3.below h4.size h3), fun b hl hh => ⟨Nat.lt_of_lt_of_le (h5 b hl hh).1 g3.size, fun hm => ?_⟩⟩, fun b hl hh => g3.block b (h5 b hl hh).1 (h5 b hl hh).2, g3.size⟩
 ·rcases hb with hb | hb
  ·exact h3 b hb
  ·have := h4.size; omega
 ·rcases hm with hm | hm
  ·exact (h5 b hl hh).2 hm
  ·have := (h5 b hl hh).1; omega
set_option maxHeartbeats 16000000 in
set_option maxRecDepth 100000 in
theorem Jn.replay_c (v vt : Value) (s : List Kn.C) (TS : List Fr.Str) (w : World) (hT : Jn.TS w) (hs : Dd.Cols w v s) (ht : Tx.At w.heap.size w vt TS) (hb : Jn.tot TS ≤ 4194304) (hn : TS.length ≤ 1048576) :
 Calls Tryz.prog 14 #[v, vt] w (Jn.GotP w (Jn.rp s TS)) := by
 have HS := Lib.hid hs
 have HN := Lib.hid hn
 have HBD := Lib.hid hb
 have HTT0 := Lib.hid hT
 have HFT := Lib.hid fun (t : Fr.Str) (d : Dd.D) (h : d ∈ (Jn.rd s t).2) => (⟨Jn.fit_s (Dd.fitE_0 (Jn.rd_fit d h)).1 (Jn.rd_fit d h), Jn.rd_fit d h⟩ : _ ∧ _)
 obtain ⟨ta, tc, rfl, -, -, ht⟩ := ht
 have H9 := Lib.hid ht
 obtain ⟨q, hq⟩ : ∃ q, q = w.heap.size := ⟨_, rfl⟩
 have CNEW := Lib.hid (Sk.PD.new (B := w.heap.size) (w := w) (Nat.le_refl _) 15)
 rw [← hq] at CNEW
 have CR := Lib.hid fun (W : World) (t : Fr.Str) (g : Below w.heap.size w W) (h : t.length ≤ 4194304) => Jn.read_o v s (Ty.S t) W (hT.1.below g) (hs.later g) (by rw [Ty.size_S]; exact h)
 have HGD := Lib.hid fun (X : List Dd.D) (W : World) (u : Value) (h : Jn.rp s TS = (0, X)) (hd : Bk.Ds W u X) (g : Below w.heap.size w W) => Jn.GotP.good h hd g
 have HBA := Lib.hid fun (e : Nat) (W : World) (h : Jn.rp s TS = (e, [])) (g : Below w.heap.size w W) => Jn.GotP.bad h g
 obtain ⟨RES, hRES⟩ : ∃ RES, RES = Jn.rp s TS := ⟨_, rfl⟩
 rw [← hRES] at HGD HBA ⊢
 have HRES := Lib.hid hRES
 obtain ⟨a, c, rfl, -⟩ := id hs.1
 clear hs ht hb hT hRES
 go_enter Tryz.func14, Tryz.ntmps14
 go_wp2_with fail
 refine (CNEW.out).mono ?_
 rintro e w1 ⟨rfl, hnew, gnew⟩
 have HST : Hid (Jn.Pd w q [] 0 0 w1) := Lib.hid (by
  refine ⟨fun b => b = q, ?_, ?_, fun b _ hb => by omega⟩
  ·rw [← hq]; exact hnew
  ·rw [← hq]; exact gnew)
 clear hnew gnew hq CNEW
 have hn := HN.out
 go_wp2_with fail
 go_loopw [16] (fun iv wr => ∃ (i : Nat) (X : List Dd.D), i ≤ TS.length ∧ iv = .int .i64 i ∧ Hid (RES = Jn.rpA s X (TS.drop i)) ∧ Hid (8 * X.length ≤ Jn.tot (TS.take i)) ∧ Jn.Pd w q X 0 0 wr) (fun iv _ => TS.length - (intOf iv).toNat)
 case atStart => exact ⟨0, [], Nat.zero_le _, rfl, Lib.hid HRES.out, Lib.hid (Nat.zero_le _), HST.out⟩
 case round =>
  obtain ⟨i, X, hi, rfl, HR, HX, hL⟩ := hrel
  have HL := Lib.hid hL
  have hi0 : (0 : Int) ≤ (i : Int) := by omega
  have hbw := hL.below
  by_cases hil : i < TS.length
  ·rcases H9.out with ⟨h9, -⟩ | ⟨b, o, rfl, hlt, hc⟩
   ·rw [h9] at hil; simp at hil
   have c0 := (hbw.cell (p := ⟨b, o + i, none⟩) hlt).trans (hc i hil)
   have hx := List.getElem?_eq_getElem hil
   rw [Tx.sv, List.getD_eq_getElem?_getD, hx, Option.getD_some] at c0
   generalize TS[i] = t1 at hx c0
   have htl := Jn.len_tot (List.mem_of_getElem? hx)
   have CRR := Lib.hid (CR.out wr t1 hbw (by have := HBD.out; omega))
   rw [Ty.data_S] at CRR
   have HNX := Lib.hid (Jn.rpA_next (s := s) (X := X) hx)
   have HTT := Lib.hid (Jn.tot_next hx)
   have HTL := Lib.hid (Jn.tot_le TS (i + 1))
   have HRL := Lib.hid (Jn.rd_len s t1)
   have HFD := Lib.hid (HFT.out t1)
   generalize Jn.rd s t1 = D9 at CRR HNX HRL HFD
   have hii : (i : Int) < (TS.length : Int) := by omega
   have hi2 : (i : Int) ≤ 1048576 := by omega
   have HIL := Lib.hid hil
   clear hx hc hlt hil hi hL hbw htl hn
   go_wp2_with fail
   refine (CRR.out).mono ?_
   rintro e w5 ⟨u, Es, rfl, ho, g5⟩
   obtain ⟨er, L⟩ := D9
   simp only at HRL ho HFD ⊢
   have HO := Lib.hid ho
   have HL5 := Lib.hid (HL.out.later g5)
   have HG5 := Lib.hid g5
   obtain ⟨ua, uc, e9⟩ := Mg.own_len ho.ow ho.len
   subst e9
   clear ho g5 c0
   by_cases h0 : er = 0
   ·subst h0
    have HNY := Lib.hid (HNX.out.1 rfl)
    clear HNX
    have hll : (L.length : Int) ≤ 524288 := by have := HRL.out; have := HTT.out; have := HTL.out; have := HBD.out; omega
    obtain ⟨lo, hlo⟩ : ∃ lo, lo = wr.heap.size := ⟨_, rfl⟩
    have HLO := Lib.hid hlo
    rw [← hlo] at HL5
    obtain ⟨hi9, hhi⟩ : ∃ hi9, hi9 = w5.heap.size := ⟨_, rfl⟩
    rw [← hhi] at HL5
    have HHI := Lib.hid hhi
    clear hlo hhi
    go_wp2_with fail
    go_loopw [31] (fun kv wk => ∃ k : Nat, k ≤ L.length ∧ kv = .int .i64 k ∧ Jn.Pd w q (Mg.puts X (L.take k)) lo hi9 wk ∧ Hid (∀ b, lo ≤ b → b < hi9 → wk.heap[b]? = w5.heap[b]?) ∧ Hid (w5.heap.size ≤ wk.heap.size)) (fun kv _ => L.length - (intOf kv).toNat)
    case atStart => exact ⟨0, Nat.zero_le _, rfl, HL5.out, Lib.hid (fun b _ _ => rfl), Lib.hid (Nat.le_refl _)⟩
    case round =>
     obtain ⟨k, hk, rfl, hL, HEQ, HSZ⟩ := hrel
     have HL2 := Lib.hid hL
     have hk0 : (0 : Int) ≤ (k : Int) := by omega
     by_cases hkl : k < L.length
     ·have hy := List.getElem?_eq_getElem hkl
      generalize L[k] = d at hy
      obtain ⟨hne, y, e1, e2, e3, e4⟩ := HO.out.rd k d hy
      obtain ⟨hzd, hfd⟩ := HFD.out d (List.mem_of_getElem? hy)
      rcases HO.out.ow.form with ⟨e5, _⟩ | ⟨g, cg, e5, -, -, hgl, hgh⟩
      ·simp only [Value.slice.injEq] at e5
       omega
      simp only [Value.slice.injEq] at e5
      obtain ⟨rfl, -, rfl⟩ := e5
      have hgr := HEQ.out g (by rw [HLO.out]; exact hgl) (by rw [HHI.out]; exact hgh)
      obtain ⟨yg, ya, yn, yc⟩ := y
      have d0 : wr.cell? ⟨g, k * 2, none⟩ = some (.bool yg) := (World.cell?_of_block hgr).trans (HO.out.ow.cell Rn.e2_len rfl e1 (j := 0) (by decide))
      have d1 : wr.cell? ⟨g, k * 2 + 1, none⟩ = some (.slice ya yn yc) := (World.cell?_of_block hgr).trans (HO.out.ow.cell Rn.e2_len rfl e1 (j := 1) (by decide))
      simp only at e2 e3 e4
      have hrange : ∀ kk, (Bk.sv (ya, yn, yc)).ownBlock = some kk → lo ≤ kk ∧ kk < hi9 := fun kk hkk => ⟨by rw [HLO.out]; exact (e4 kk hkk).1, by rw [HHI.out]; exact Jn.vals_alive e3 hne hkk⟩
      have hvk := Jn.vals_same e3 hne HSZ.out fun kk hkk => HEQ.out kk (hrange kk hkk).1 (hrange kk hkk).2
      obtain ⟨wa, hwa⟩ : ∃ wa, wa = wr.alloc (.cells #[.bool yg, .slice ya yn yc] 26) := ⟨_, rfl⟩
      have hga : Below wr.heap.size wr wa := by rw [hwa]; exact (Below.refl _ _).alloc (Nat.le_refl _) _
      have CP := Lib.hid (Jn.aput_c (hL.keep hga) HTT0.out.2 (by
       have h1 := Jn.puts_len (L.take k) X
       rw [List.length_take] at h1
       have := HX.out
       have := HTT.out
       have := HTL.out
       have := HRL.out
       have := HBD.out
       omega) (Jn.sk_in (hvk.later hga) hne hzd.1 hzd.2.1) hne)
      rw [← e2] at CP
      simp only [Bk.sv] at CP
      have HGA := Lib.hid hga
      have HNK := Lib.hid (Jn.puts_next (M := X) hy)
      have hki : (k : Int) < (L.length : Int) := by omega
      have hkm : (k : Int) ≤ 524288 := by omega
      have HKL := Lib.hid hkl
      have HLH := Lib.hid (And.intro (HL2.out) hgh)
      clear hL hy hne e1 e2 e3 e4 hzd hfd hgl hgh hgr hrange hkl hk hvk hga
      go_wp2_with fail
      rw [← hwa]
      clear hwa
      refine (CP.out).mono ?_
      rintro e w7 ⟨rfl, h7, h8, h9⟩
      have H7 := Lib.hid h7
      have HEQ7 : Hid (∀ b, lo ≤ b → b < hi9 → w7.heap[b]? = w5.heap[b]?) := Lib.hid fun b hl hh => ((h8 b hl hh).trans (HGA.out.block b (by have := HHI.out; have := HSZ.out; omega))).trans (HEQ.out b hl hh)
      have HSZ7 : Hid (w5.heap.size ≤ w7.heap.size) := Lib.hid (Nat.le_trans HSZ.out (Nat.le_trans HGA.out.size h9))
      clear h7 h8 h9 d0 d1
      go_wp2
      go_roundw
      case rel => exact ⟨k + 1, HKL.out, by simp, by rw [HNK.out]; exact H7.out, HEQ7, HSZ7⟩
      case measure => (have := HKL.out; simp [intOf]; omega)
     ·obtain rfl : k = L.length := by omega
      have hki : ¬ (L.length : Int) < (L.length : Int) := by omega
      rw [List.take_length] at HL2
      have HNN := Lib.hid HL2.out.none
      have HXN : Hid (8 * (Mg.puts X L).length ≤ Jn.tot (TS.take (i + 1))) := Lib.hid (by
       have h1 := Jn.puts_len L X
       have h2 := HX.out
       have h3 := HRL.out
       have h4 := HTT.out
       omega)
      have HRN : Hid (RES = Jn.rpA s (Mg.puts X L) (TS.drop (i + 1))) := Lib.hid (HR.out.trans HNY.out)
      clear hk hkl hL
      go_wp2
      go_roundw
      case rel => exact ⟨i + 1, _, HIL.out, by simp, HRN, HXN, HNN.out⟩
      case measure => (have := HIL.out; simp [intOf]; omega)
   ·have HFN := Lib.hid (HBA.out er w5 (HR.out.trans (HNX.out.2 h0)) (HL5.out.below))
    have hne : ((er : Int) != 0) = true := by rw [bne_iff_ne]; omega
    clear h0
    go_wp2
    go_ret2
    exact HFN.out
  ·obtain rfl : i = TS.length := by omega
   have hii : ¬ (TS.length : Int) < (TS.length : Int) := by omega
   have HE : Hid (RES = (0, X)) := Lib.hid (by rw [HR.out, List.drop_length]; rfl)
   have HXL : Hid (X.length ≤ 900000) := Lib.hid (by have := HX.out; have := Jn.tot_le TS TS.length; have := HBD.out; omega)
   clear hi hil hn hL hbw
   go_wp2_with fail
   refine (Sk.all_c (w := wr) (some ⟨q, 0, none⟩) wr.heap.size rfl).mono ?_
   rintro e w8 ⟨rfl, c8, g8⟩
   obtain ⟨S8, hp8, hb8, -⟩ := HL.out.keep g8
   have CC := Lib.hid (Jn.collect_c hp8 HXL.out c8)
   have HB8 := Lib.hid hb8
   clear hp8 hb8 c8 g8
   go_wp2_with fail
   refine (CC.out).mono ?_
   rintro e w9 ⟨u9, rfl, hd9, g9⟩
   have HFN := Lib.hid (HGD.out X w9 u9 HE.out hd9 (HB8.out.trans (g9.mono HB8.out.size)))
   clear hd9 g9
   go_wp2
   go_ret2
   exact HFN.out
end Go.Proofs.YtkhiemkekmdhgaaGreatDoor
namespace Go.Proofs.YtkhiemkekmdhgaaGreatDoor
open Go.RowKit Go.ChangeShapes Go.WideShapes Go.ChangeAt Go.Deep
section
variable {H : Type} {enc : TypeId × Value → H} {W : World}
set_option maxRecDepth 100000 in
theorem Cl.open_cells {fuel : Nat} {cs : List Value} {z : DataW H × List MemPlace} (h : DataW.trod enc Tryz.prog W 0 (fun _ => true) true fuel 43 cs = some z) :
 ∃ x : Kn.V, cs = [.bool x.null, .int .i64 x.n, .string x.s] ∧ Ty.I64 x.n := by
 obtain ⟨xs, f', _, hx, hcl, hxl, hg⟩ := DataW.trod_struct Tryz.underlying43 h
 have hC : Tryz.prog.cellsOf 43 = 3 := by kernel_rfl
 have i3 : Tryz.prog.cellsOf 4 = 1 := by kernel_rfl
 have i2 : Tryz.prog.cellsOf 2 = 1 := by kernel_rfl
 have i9 : Tryz.prog.cellsOf 9 = 1 := by kernel_rfl
 rw [hC] at hcl
 match cs, hcl, xs, hxl with
 | [c0, c1, c2], _, [y0, y1, y2], _ =>
   have g0 : DataW.trod enc Tryz.prog W 0 (fun _ => true) true f' 4 ((List.drop 0 [c0, c1, c2]).take (Tryz.prog.cellsOf 4)) = some y0 := hg 0 _ rfl
   have g1 : DataW.trod enc Tryz.prog W 0 (fun _ => true) true f' 2 ((List.drop 1 [c0, c1, c2]).take (Tryz.prog.cellsOf 2)) = some y1 := hg 1 _ rfl
   have g2 : DataW.trod enc Tryz.prog W 0 (fun _ => true) true f' 9 ((List.drop 2 [c0, c1, c2]).take (Tryz.prog.cellsOf 9)) = some y2 := hg 2 _ rfl
   rw [i3] at g0
   rw [i2] at g1
   rw [i9] at g2
   obtain ⟨k, e0, r0⟩ := DataW.trod_bool Tryz.underlying4 (show DataW.trod enc Tryz.prog W 0 (fun _ => true) true f' 4 [c0] = some y0 from g0)
   obtain ⟨n, e1, r1, w1⟩ := DataW.trod_int Tryz.underlying2 (show DataW.trod enc Tryz.prog W 0 (fun _ => true) true f' 2 [c1] = some y1 from g1)
   obtain ⟨s, e2, r2, _⟩ := DataW.trod_string Tryz.underlying9 (show DataW.trod enc Tryz.prog W 0 (fun _ => true) true f' 9 [c2] = some y2 from g2)
   simp only [List.cons.injEq, and_true] at e0 e1 e2
   subst e0 e1 e2 r0 r1 r2
   exact ⟨⟨k, n, s⟩, rfl, bounds_i64 w1⟩
set_option maxRecDepth 100000 in
theorem Cl.open_vals {a0 : Option Addr} {len cap : Nat} {d : DataW H} {ps : List MemPlace} {t : TypeId} (ht : Tryz.prog.underlying t = some (.slice 43)) (h : DataW.Trod enc Tryz.prog W 0 (fun _ => true) true t (.slice a0 len cap) d ps) :
 ∃ l : List Kn.V, Kn.Vals W (.slice a0 len cap) l ∧ ∀ v ∈ l, Ty.I64 v.n := by
 obtain ⟨fuel, hf⟩ := h
 have hC : Tryz.prog.cellsOf 43 = 3 := by kernel_rfl
 rcases open_slice ht hf with ⟨hcs, hx⟩ | ⟨a, len', cap', m, n, D, Pl, hcs, _, hl, hm, hmm, hx, hi⟩
 ·have hv : Value.slice a0 len cap = .slice none 0 0 := by simpa [Value.cells] using hcs
  exact ⟨[], ⟨none, 0, hv, .inl rfl⟩, fun v hv => by cases hv⟩
 ·have hv : Value.slice a0 len cap = .slice (some a) len' cap' := by simpa [Value.cells] using hcs
  simp only [Value.slice.injEq] at hv
  obtain ⟨rfl, rfl, rfl⟩ := hv
  simp only [if_true] at hmm
  by_cases hz : len = 0
  ·subst hz
   exact ⟨[], ⟨some a, cap, rfl, .inl rfl⟩, fun v hv => by cases hv⟩
  ·rw [hC] at hi
   have hone : ∀ i, i < len → ∃ x : Kn.V, W.cell? (a.add (i * 3)) = some (.bool x.null) ∧ W.cell? (a.add (i * 3 + 1)) = some (.int .i64 x.n) ∧ W.cell? (a.add (i * 3 + 2)) = some (.string x.s) ∧ Ty.I64 x.n := fun i hil => by
    obtain ⟨cs', hc, ht⟩ := hi i (by omega)
    obtain ⟨x, rfl, hw⟩ := Cl.open_cells ht
    obtain ⟨_, _, hat⟩ := World.cells?_some hc
    have a0 := hat 0 (by omega)
    have a1 := hat 1 (by omega)
    have a2 := hat 2 (by omega)
    rw [add_add] at a0 a1 a2
    exact ⟨x, a0, a1, a2, hw⟩
   obtain ⟨b, off, spot⟩ := a
   have hspot : spot = none := by
    obtain ⟨x, h0, _⟩ := hone 0 (by omega)
    simpa [Addr.add] using World.cell?_spot h0
   subst hspot
   have hlt : b < W.heap.size := by
    obtain ⟨x, h0, _⟩ := hone 0 (by omega)
    have := World.block_lt_of_cell? W _ h0
    simpa [Addr.add] using this
   have hch : ∃ f : Nat → Kn.V, ∀ i, i < len → Kn.At W b (off + i * 3) (f i) ∧ Ty.I64 (f i).n := by
    have hone' : ∀ i, i < len → ∃ x : Kn.V, Kn.At W b (off + i * 3) x ∧ Ty.I64 x.n := fun i hil => by
     obtain ⟨x, h0, h1, h2, h3⟩ := hone i hil
     rw [add_plain] at h0 h1 h2
     rw [← Nat.add_assoc] at h1 h2
     exact ⟨x, ⟨h0, h1, h2⟩, h3⟩
    refine ⟨fun i => if hil : i < len then (hone' i hil).choose else ⟨false, 0, ⟨#[]⟩⟩, fun i hil => ?_⟩
    have hs := (hone' i hil).choose_spec
    simp only [dif_pos hil]
    exact hs
   obtain ⟨f, hf'⟩ := hch
   refine ⟨(List.range len).map f, ⟨some ⟨b, off, none⟩, cap, by simp, .inr ⟨b, off, rfl, hlt, by unfold maxLen at hm; simp; omega, fun i x hix => ?_⟩⟩, fun v hv => by
    obtain ⟨i, hi, rfl⟩ := List.mem_map.1 hv
    exact (hf' i (List.mem_range.1 hi)).2⟩
   rw [List.getElem?_map, Option.map_eq_some_iff] at hix
   obtain ⟨i', hi', rfl⟩ := hix
   obtain ⟨hil, rfl⟩ := List.getElem?_eq_some_iff.1 hi'
   rw [List.getElem_range]
   rw [List.length_range] at hil
   exact (hf' i hil).1
end
end Go.Proofs.YtkhiemkekmdhgaaGreatDoor
namespace Go.Proofs.YtkhiemkekmdhgaaGreatDoor
open Go.RowKit Go.ChangeShapes Go.WideShapes Go.ChangeAt Go.Deep
section
variable {H : Type} {enc : TypeId × Value → H} {W : World}
set_option maxRecDepth 100000 in
theorem Dd.cap_cols {a0 : Option Addr} {len cap : Nat} {d : DataW H} {ps : List MemPlace} (h : DataW.Trod enc Tryz.prog W 0 (fun _ => true) true 22 (.slice a0 len cap) d ps) : len ≤ cap := by
 obtain ⟨fuel, hf⟩ := h
 rcases open_slice Tryz.underlying22 hf with ⟨hcs, hx⟩ | ⟨a, len', cap', m, n, D, Pl, hcs, _, hl, hm, hmm, hx, hi⟩
 ·have hv : Value.slice a0 len cap = .slice none 0 0 := by simpa [Value.cells] using hcs
  simp only [Value.slice.injEq] at hv
  omega
 ·have hv : Value.slice a0 len cap = .slice (some a) len' cap' := by simpa [Value.cells] using hcs
  simp only [Value.slice.injEq] at hv
  omega
set_option maxRecDepth 100000 in
theorem Dd.open_deed {v : Value} {d : DataW H} {ps : List MemPlace} {r : Reach} {b0 : Nat} (hv : Value.okWide Tryz.prog W r b0 26 v) (h : DataW.Trod enc Tryz.prog W 0 (fun _ => true) true 26 v d ps) :
 ∃ (x : Dd.D) (u : Value), v = .agg #[.bool x.gone, u] ∧ Kn.Vals W u x.row ∧ ∀ y ∈ x.row, Ty.I64 y.n := by
 obtain ⟨cs0, rfl, hcsz⟩ := okWide_struct Tryz.underlying26 hv
 obtain ⟨fuel, hf⟩ := h
 have hf : DataW.trod enc Tryz.prog W 0 (fun _ => true) true fuel 26 cs0.toList = some (d, ps) := hf
 generalize hcs : cs0.toList = cs at hf
 obtain ⟨xs, f', _, hx, hcl, hxl, hg⟩ := DataW.trod_struct Tryz.underlying26 hf
 have hC : Tryz.prog.cellsOf 26 = 2 := by kernel_rfl
 have i3 : Tryz.prog.cellsOf 4 = 1 := by kernel_rfl
 have ir : Tryz.prog.cellsOf 24 = 1 := by kernel_rfl
 rw [hC] at hcl
 match cs, hcl, xs, hxl with
 | [c0, c1], _, [y0, y1], _ =>
   have g0 : DataW.trod enc Tryz.prog W 0 (fun _ => true) true f' 4 ((List.drop 0 [c0, c1]).take (Tryz.prog.cellsOf 4)) = some y0 := hg 0 _ rfl
   have g1 : DataW.trod enc Tryz.prog W 0 (fun _ => true) true f' 24 ((List.drop 1 [c0, c1]).take (Tryz.prog.cellsOf 24)) = some y1 := hg 1 _ rfl
   rw [i3] at g0
   rw [ir] at g1
   obtain ⟨k, e0, r0⟩ := DataW.trod_bool Tryz.underlying4 (show DataW.trod enc Tryz.prog W 0 (fun _ => true) true f' 4 [c0] = some y0 from g0)
   have g1 : DataW.trod enc Tryz.prog W 0 (fun _ => true) true f' 24 [c1] = some y1 := g1
   have hs : ∃ a0 len cap, c1 = .slice a0 len cap := by
    rcases open_slice Tryz.underlying24 g1 with ⟨hc, _⟩ | ⟨a, len', cap', _, _, _, _, hc, _⟩
    ·exact ⟨none, 0, 0, by simpa using hc⟩
    ·exact ⟨some a, len', cap', by simpa using hc⟩
   obtain ⟨a0, len, cap, rfl⟩ := hs
   obtain ⟨l, hl, hi⟩ := Cl.open_vals (W := W) (enc := enc) (d := y1.1) (ps := y1.2) Tryz.underlying24 ⟨f', g1⟩
   simp only [List.cons.injEq, and_true] at e0
   subst e0
   refine ⟨⟨k, l⟩, _, ?_, hl, hi⟩
   rw [← Array.toArray_toList (xs := cs0), hcs]
end
end Go.Proofs.YtkhiemkekmdhgaaGreatDoor
namespace Go.Proofs.YtkhiemkekmdhgaaGreatDoor.Ty
open Go.RowKit Go.WideShapes Go.ChangeShapes
theorem post_below {H : Type} {enc : TypeId × Value → H} {P : Program} {f : Func} {s : ChangeSpec} {apart fresh handsOn again : Bool} {W W' : World} {args : Array Value} {v : Value} {ds gs : List (DataW H)} {before pa pv : List MemPlace}
 (hW : DataW.Whole enc P f.params.toList s.vars apart W args.toList ds gs before)
 (hr : ∀ (b : Nat) (sp : Nat → Bool) (hd : Bool), DataW.TrodAll enc P W' b sp hd f.resultTypes.toList (v.resultList f.resultTypes.size) (s.fn H (ds ++ gs)).results [])
 (ha : ∀ sp : Nat → Bool, (∀ p ∈ before, sp p.block = true) → DataW.TrodAll enc P W' 0 sp true f.params.toList args.toList (s.fn H (ds ++ gs)).args pa)
 (hv : ∀ sp : Nat → Bool, (∀ p ∈ before, sp p.block = true) → DataW.TrodVars enc P W' sp s.vars (s.fn H (ds ++ gs)).vars pv)
 (hp : before = pa ++ pv) (hb : Below W.heap.size W W')
 (hok : ∀ (j : Nat) (t : TypeId) (r : Value), f.resultTypes[j]? = some t → (v.resultList f.resultTypes.size)[j]? = some r → Value.okWide P W' .any 0 t r) :
 s.post enc P f apart fresh handsOn again W args v W' := by
 have hl : ∀ p ∈ before, p.block < W.heap.size := fun p h => hW.lt p h
 have hs : ∀ p ∈ before, (fun b => decide (b < W.heap.size)) p.block = true := fun p h => by simpa using hl p h
 have hW0 := hW
 obtain ⟨_, _, _, _, _, hz, hn⟩ := hW0
 refine ⟨ds, gs, before, [], pa, pv, hW, hr _ _ _, ha _ hs, hv _ hs, World.keptBut_mono (fun p h => ⟨h, by rw [hp] at h; exact .inr (List.mem_append.1 h)⟩) (hb.frame (· ∈ before)), fun _ => ⟨hok, _, _, ([] ++ pa) ++ pv, ⟨[] ++ pa, pv, trodAll_append (ha _ (fun _ _ => rfl)) (hr _ _ _), hv _ (fun _ _ => rfl), rfl, ?_, ?_⟩, ?_⟩⟩
 ·intro b off h
  have hin : MemPlace.cell b off ∈ before := by rw [hp]; simpa using h
  rw [hb.frozen (hl _ hin)]
  exact hz b off hin
 ·intro hap
  have := hn hap
  rw [hp] at this
  simpa using this
 ·intro p h _
  rw [hp]
  simpa using h
end Go.Proofs.YtkhiemkekmdhgaaGreatDoor.Ty
namespace Go.Proofs.YtkhiemkekmdhgaaGreatDoor.Ty
open Go.RowKit Go.WideShapes Go.ChangeShapes
theorem all_stay {H : Type} {enc : TypeId × Value → H} {P : Program} (hl : laidOutB P = true) {W W' : World} {sp : Nat → Bool} : ∀ (ts : List TypeId) (vs : List Value) (ds : List (DataW H)) (ps : List MemPlace),
 (ts.all fun t => P.readableRec t && decide (t < P.types.size)) = true → DataW.TrodAll enc P W 0 (fun _ => true) true ts vs ds ps → (∀ p ∈ ps, W.sameAt W' p) → (∀ p ∈ ps, sp p.block = true) → DataW.TrodAll enc P W' 0 sp true ts vs ds ps
 | [], [], [], _, _, h, _, _ => h
 | [], [], _ :: _, _, _, h, _, _ => h.elim
 | [], _ :: _, [], _, _, h, _, _ => h.elim
 | [], _ :: _, _ :: _, _, _, h, _, _ => h.elim
 | _ :: _, [], [], _, _, h, _, _ => h.elim
 | _ :: _, [], _ :: _, _, _, h, _, _ => h.elim
 | _ :: _, _ :: _, [], _, _, h, _, _ => h.elim
 | t :: ts, v :: vs, d :: ds, ps, ht, h, hs, hsp => by
   obtain ⟨p, q, h1, h2, rfl⟩ := h
   simp only [List.all_cons, Bool.and_eq_true, decide_eq_true_eq] at ht
   exact ⟨p, q, WideElems.Trod_stays hl ht.1.1 ht.1.2 h1 (fun x hx => hs x (List.mem_append_left _ hx)) (fun x hx => hsp x (List.mem_append_left _ hx)),
    all_stay hl ts vs ds q ht.2 h2 (fun x hx => hs x (List.mem_append_right _ hx)) (fun x hx => hsp x (List.mem_append_right _ hx)), rfl⟩
end Go.Proofs.YtkhiemkekmdhgaaGreatDoor.Ty
