/-
  
  
  
  
  
  
  
-/
import Derived.Test.YtbelkhkllneifaaGreatDoorWCBB
import Derived.Test.YtbelkhkllneifaaGreatDoorWCBC
import Derived.Test.YtbelkhkllneifaaGreatDoorWCAZ
import Derived.Test.YtbelkhkllneifaaGreatDoorWCAP
import Derived.Test.YtbelkhkllneifaaGreatDoorWCAY
import Derived.Deep.RegionHeld3
import Derived.Test.YtbelkhkllneifaaGreatDoorWCBA
namespace Go.Proofs.YtbelkhkllneifaaGreatDoor
open Go Go.RowKit Go.Shelf
attribute [local go_sem] Oper.semAt_some
def Rn.te (t : Fr.Str) : List Value := [.string (Ty.S t)]
theorem Rn.te_len (t : Fr.Str) : (Rn.te t).length = 1 := rfl
theorem Rn.te_one (t : Fr.Str) : ∀ u ∈ Rn.te t, u.oneCell' = true := fun u hu => by
 simp only [Rn.te, List.mem_cons, List.not_mem_nil, or_false] at hu
 subst hu
 rfl
theorem Rn.infoS : (Tryz.prog.info? 9).map (fun i => (i.zero, i.size, i.bytes)) = some (some (.string ⟨#[]⟩), 1, 16) := by kernel_rfl
theorem Rn.own_at {B : Nat} {w : World} {v : Value} {T : List Fr.Str} (h : Dk.Own 9 1 Rn.te B w v T) : Tx.At w.heap.size w v T := by
 rcases h.form with ⟨rfl, rfl⟩ | ⟨g, c, rfl, h1, _, _, h4⟩
 ·exact Tx.At.nil w
 ·refine ⟨_, c, rfl, h1, Nat.le_refl _, .inr ⟨g, 0, rfl, h4, fun i hi => ?_⟩⟩
  have hx := List.getElem?_eq_getElem hi
  have := h.cell Rn.te_len (g := g) rfl hx (j := 0) (by decide)
  rw [Nat.mul_one, Nat.add_zero] at this
  rw [Nat.zero_add, this]
  unfold Tx.sv Rn.te
  rw [List.getD_eq_getElem?_getD, hx]
  rfl
theorem Rn.ck_ds {w : World} {b o c : Nat} {L : List Dd.D} (h : Bk.Ds w (.slice (some ⟨b, o, none⟩) L.length c) L) {i : Nat} (hi : i < Rn.nb L.length) : Bk.Ds w (Bk.sv (Rn.ck b o L.length i)) (Rn.bk L i) := by
 have h9 := Rn.ds_part h hi
 obtain ⟨a', c', e, h1, h2, h⟩ := h9
 simp only [Bk.sv, Rn.part, Value.slice.injEq] at e
 obtain ⟨rfl, hl, _⟩ := e
 refine ⟨_, (Rn.bk L i).length, by unfold Bk.sv Rn.ck; rw [hl], Nat.le_refl _, by have := (Rn.bk_some hi).2; omega, h⟩
def Rn.tb (s : List Kn.C) (L : List Dd.D) (k : Nat) : List Fr.Str := (List.range k).map fun i => Bk.enc s (Rn.bk L i)
theorem Rn.tb_len (s : List Kn.C) (L : List Dd.D) (k : Nat) : (Rn.tb s L k).length = k := by unfold Rn.tb; simp
theorem Rn.tb_next (s : List Kn.C) (L : List Dd.D) (k : Nat) : Rn.tb s L (k + 1) = Rn.tb s L k ++ [Bk.enc s (Rn.bk L k)] := by
 unfold Rn.tb
 rw [List.range_succ, List.map_append]
 rfl
theorem Rn.tb_at {s : List Kn.C} {L : List Dd.D} {i k : Nat} (h : i < k) : (Rn.tb s L k)[i]? = some (Bk.enc s (Rn.bk L i)) := by
 unfold Rn.tb
 rw [List.getElem?_map, List.getElem?_range h]
 rfl
theorem Rn.tb_all (s : List Kn.C) (L : List Dd.D) : Rn.tb s L (Rn.nb L.length) = (Rn.blocks L).map (Bk.enc s) := by
 unfold Rn.tb Rn.blocks
 rw [List.map_map]
 rfl
def Rn.Ir (D : Nat → Prop) (w3 : World) (m bb : Nat) (s : List Kn.C) (L : List Dd.D) (pre : List (Option Addr × Nat × Nat)) (W : World) : Prop :=
 Rn.Kd D w3 W ∧ ∃ v, W.heap[bb]? = some (.cells #[v] 111 (0, 0)) ∧ Dk.Own 9 1 Rn.te m W v (Rn.tb s L pre.length)
theorem Rn.Ir.own {D : Nat → Prop} {w3 : World} {m bb : Nat} {s : List Kn.C} {L : List Dd.D} (hD : ∀ b, D b → b < w3.heap.size) : OwnFrom w3.heap.size (Rn.Ir D w3 m bb s L) := by
 rintro pre A' B' row ⟨h1, v, h2, h3⟩ hg hr
 exact ⟨h1.grew hD hg hr, v, Rn.blk_own h2 hg hr, Rn.own_own w3.heap.size _ _ _ () _ _ row h3 hg hr⟩
set_option maxHeartbeats 8000000 in
set_option maxRecDepth 100000 in
theorem Rn.encoding_c (vs v : Value) (s : List Kn.C) (L : List Dd.D) (w : World) (hT : Ty.Tabs w) (hs : Dd.Cols w vs s) (hv : Bk.Ds w v L) (hr : Kn.right s = true) (hf : ∀ d ∈ L, Dd.fitE s d = 0) (hso : Bk.sorted L = true) (hz : Bk.Zs L) (hi : ∀ d ∈ L, ∀ x ∈ d.row, Ty.I64 x.n) (hl : L.length ≠ 0) (h2 : L.length ≤ 200) :
 Calls Tryz.prog 36 #[vs, v] w fun e w' => e = .returned (.string (Ty.S (Rn.enc s L))) ∧ Below w.heap.size w w' := by
 obtain ⟨a, c, rfl, hlc, _, h⟩ := id hv
 obtain ⟨⟨sa, sc, rfl, -⟩, -⟩ := id hs
 rcases h with h | ⟨b, o, rfl, hb, -⟩
 ·rw [h] at hl; simp at hl
 have CW := Lib.hid fun (i : Nat) (hi9 : i < Rn.nb L.length) (wz : World) (ht : Ty.Tabs wz) (h1 : Dd.Cols wz (.slice sa s.length sc) s) (h : Bk.Ds wz (.slice (some ⟨b, o, none⟩) L.length c) L) =>
  Bk.pwrite_c (.slice sa s.length sc) (Bk.sv (Rn.ck b o L.length i)) s (Rn.bk L i) wz ht h1 (Rn.ck_ds h hi9) (fun d hd => hz d (Rn.bk_mem hd)) (fun d hd => hi d (Rn.bk_mem hd))
 have HT := Lib.hid hT
 have HS := Lib.hid hs
 have HV := Lib.hid hv
 have HWE := Lib.hid fun i (h : i < Rn.nb L.length) => Rn.bk_wE hr hf hso h
 have HN := Lib.hid (And.intro hlc h2)
 obtain ⟨w2, hw2⟩ : ∃ w2, w2 = (w.alloc (.cells #[.slice sa s.length sc] 22)).alloc (.cells #[.slice none 0 0] 111) := ⟨_, rfl⟩
 have HB2 : Hid (Below w.heap.size w w2 ∧ w2.heap.size = w.heap.size + 2 ∧ w2.heap[w.heap.size]? = some (.cells #[.slice sa s.length sc] 22 (0, 0)) ∧ w2.heap[w.heap.size + 1]? = some (.cells #[.slice none 0 0] 111 (0, 0))) := Lib.hid (by
  rw [hw2]
  refine ⟨Kn.box2 _ _ _, by simp, ?_, ?_⟩
  ·exact (((Below.refl _ (w.alloc (.cells #[.slice sa s.length sc] 22))).alloc (Nat.le_refl _) _).block w.heap.size (by simp)).trans (heap_alloc_new w _)
  ·have := heap_alloc_new (w.alloc (.cells #[.slice sa s.length sc] 22)) (.cells #[.slice none 0 0] 111)
   rwa [World.size_alloc] at this)
 obtain ⟨m, hm⟩ : ∃ m, m = w2.heap.size := ⟨_, rfl⟩
 have CC := Lib.hid (Rn.chunk_c (w := w2) (some ⟨b, o, none⟩) L.length c m hm)
 have HM := Lib.hid hm
 have HL0 := Lib.hid hl
 clear hT hs hv hr hf hso hz hi hl h2 hlc hb hm
 rw [← callsIn_wide (n := 9)]
 refine callsIn_of_wp_marks Tryz.func36 rfl trivial ?_ rfl
 simp only [Tryz.ntmps36, List.size_toArray, List.length_cons, List.length_nil, Nat.reduceAdd, Nat.reduceSub, Array.replicate_succ, Array.replicate_zero, List.push_toArray, List.append_toArray, List.nil_append, List.cons_append]
 gi_upto_region 2 with (fail)
 rw [← hw2]
 clear hw2
 gi_wp2_with (refine ⟨trivial, ?_⟩; gi_at_call 67; refine (callsIn_wide.2 CC.out).mono ?_; rintro e w3 ⟨rfl, c1, c2, g3, hz3⟩)
 obtain ⟨q, hq⟩ : ∃ q, q = w.heap.size := ⟨_, rfl⟩
 have HQ := Lib.hid hq
 have HZ3 := Lib.hid hz3
 have HG3 := Lib.hid g3
 obtain ⟨D, hD⟩ : ∃ D : Nat → Prop, D = fun b => b < m + 2 ∧ b ≠ q + 1 := ⟨_, rfl⟩
 have HD := Lib.hid hD
 have hmq : m = q + 2 := by rw [HM.out, HB2.out.2.1, hq]
 have HMQ := Lib.hid hmq
 have HDl : Hid (∀ b, D b → b < w3.heap.size) := Lib.hid fun b hb => by rw [hD] at hb; omega
 have hseq := Rn.chunk1_seq (D := D) c1 c2 (by rw [hD]; omega) (by rw [hD]; omega) HN.out.1 (by have := HN.out.2; omega)
 have HSEQ := Lib.hid hseq
 have h30 : w3.heap[q]? = some (.cells #[.slice sa s.length sc] 22 (0, 0)) := by rw [hq]; exact (g3.block _ (Array.getElem?_eq_some_iff.1 HB2.out.2.2.1).1).trans HB2.out.2.2.1
 have h31 : w3.heap[q + 1]? = some (.cells #[.slice none 0 0] 111 (0, 0)) := by rw [hq]; exact (g3.block _ (Array.getElem?_eq_some_iff.1 HB2.out.2.2.2).1).trans HB2.out.2.2.2
 have H30 := Lib.hid (And.intro h30 h31)
 have HB3 : Hid (Below w.heap.size w w3) := Lib.hid (HB2.out.1.trans (g3.mono HB2.out.1.size))
 rw [← hq]
 clear c1 c2 g3 hz3 hq hD hmq hseq h30 h31 CC
 refine Rn.range_w (gf := 96) rfl (enters_of Tryz.func96 (by kernel_rfl) rfl)
  HSEQ.out (Below.refl _ _) HDl.out (fun x args W he => by rw [he]; rfl)
  (Rn.Ir D w3 (m + 2) (q + 1) s L) (fun _ _ _ => False) (Rn.Ir.own HDl.out) (fun c s A' B' row h => h.elim) ⟨Rn.Kd.below (Below.refl _ _), _, H30.out.2, Dk.Own.nil _ _⟩
  (fun pre x a' W => a' = { tmps := #[.slice sa s.length sc, .slice (some ⟨b, o, none⟩) L.length c, .pointer (some ⟨q, 0, none⟩), undef, .string ⟨#[]⟩, .pointer (some ⟨q + 1, 0, none⟩), Bk.sv x, undef, undef, undef, undef, undef, .slice (some ⟨b, o, none⟩) L.length c, .func (.func 96) #[] #[.pointer (some ⟨m, 0, none⟩), .pointer (some ⟨m + 1, 0, none⟩)], Bk.sv x, undef, undef, undef, undef, undef, undef, undef, undef, undef, undef, undef, undef, undef, undef, undef, undef, undef, undef, undef, undef, undef, undef, undef, undef, undef], defers := [] } ∧ Rn.Ir D w3 (m + 2) (q + 1) s L pre W) ?ownA ?assign ?body ?done ?stop
 case ownA =>
  rintro pre x a' u A' B' row ⟨h0, h1⟩ hg hr
  exact ⟨h0, Rn.Ir.own HDl.out _ _ _ row h1 hg hr⟩
 case assign =>
  rintro l pre x args W hI rfl hpx hbW
  have HI := Lib.hid hI
  clear hI hpx hbW
  gi_wp2
  exact ⟨Below.refl _ _, by first | rfl | trivial, HI.out⟩
 case body =>
  rintro l pre x a' W hl hlr ⟨rfl, hkd, v, hbk, hown⟩ hpx hkw
  obtain ⟨hi, rfl⟩ := Rn.cks_at hpx
  have HPL : Hid (Rn.tb s L (pre.length + 1) = Rn.tb s L pre.length ++ [Bk.enc s (Rn.bk L pre.length)]) := Lib.hid (Rn.tb_next ..)
  have hlow : Below w.heap.size w3 W := hkd.low (fun b hb => by rw [HD.out]; have := HMQ.out; have := HQ.out; omega) HB3.out.size
  have hBW : Below w.heap.size w W := HB3.out.trans hlow
  have cw := CW.out pre.length hi W (HT.out.below hBW HT.out.two) (HS.out.later hBW) (HV.out.later hBW)
  rw [Bk.wV_ok (HWE.out _ hi)] at cw
  have hq3 : W.heap[q]? = some (.cells #[.slice sa s.length sc] 22 (0, 0)) := (hkd.same q (by rw [HD.out]; have := HMQ.out; omega) (Array.getElem?_eq_some_iff.1 H30.out.1).1).trans H30.out.1
  have c0 : W.cell? ⟨q, 0, none⟩ = some (.slice sa s.length sc) := by rw [cell_of_row _ _ _ _ _ _ hq3]; rfl
  have HW3 : Hid (w3.heap.size ≤ W.heap.size) := Lib.hid hkd.size
  have HTL : Hid ((Rn.tb s L pre.length).length ≤ 25) := Lib.hid (by rw [Rn.tb_len]; have := HN.out.2; unfold Rn.nb at hi; omega)
  have HKD := Lib.hid hkd
  have HBK := Lib.hid hbk
  have HOW := Lib.hid hown
  obtain ⟨va, vn, vc, rfl⟩ : ∃ a n c, v = .slice a n c := by
   rcases hown.form with ⟨e, _⟩ | ⟨g, c, e, _⟩
   ·exact ⟨none, 0, 0, e⟩
   ·exact ⟨_, _, c, e⟩
  have HLL : Hid (∀ y : List (Option Addr × Nat × Nat), y.length = pre.length + 1 → Rn.tb s L y.length = Rn.tb s L (pre.length + 1)) := Lib.hid fun y h => by rw [h]
  have HPX : Hid ((pre ++ [Rn.ck b o L.length pre.length]).length = pre.length + 1) := Lib.hid (by simp)
  generalize Rn.ck b o L.length pre.length = x at cw HPX ⊢
  generalize Bk.enc s (Rn.bk L pre.length) = E at cw HPL
  generalize Rn.tb s L pre.length = TB at HPL HTL HOW
  obtain ⟨x1, x2, x3⟩ := x
  unfold Bk.sv at cw ⊢
  have HCW := Lib.hid cw
  clear hl hlr hkd hbk hown hpx hkw hi hlow hBW hq3 cw
  gi_upto_region 5 with (refine ⟨trivial, ?_⟩; gi_at_call 68; refine (CallsIn.inRound l (callsIn_wide.2 HCW.out)).mono ?_; rintro e w4 ⟨rfl, g4⟩)
  have hbk4 := (g4.block _ (Array.getElem?_eq_some_iff.1 HBK.out).1).trans HBK.out
  have hown4 := HOW.out.kept g4
  have b0 : w4.cell? ⟨q + 1, 0, none⟩ = some (.slice va vn vc) := by rw [cell_of_row _ _ _ _ _ _ hbk4]; rfl
  have HBK4 := Lib.hid hbk4
  have HO4 := Lib.hid hown4
  have HG4 := Lib.hid g4
  clear hbk4 hown4 g4 c0
  refine Rn.list_region (by kernel_rfl) ?_
  go_wp2_with (at_builtin; refine Dk.wpList_append1 111 _ 16 Tryz.underlying111 Rn.infoS rfl (by decide) Rn.te_len Rn.te_one E HO4.out (by have := HG4.out.size; have := HW3.out; have := HZ3.out; omega) (by have := HTL.out; omega) (by have := HTL.out; omega) _ rfl _ rfl (.tmp 21) (.tmp 23) (by rfl) (by rfl) (by rfl) (by rfl) ?_; intro v6 w6 h6 g6; have hp6 := (g6.by_.block (q + 1) (Array.getElem?_eq_some_iff.1 HBK4.out).1 (fun e => by obtain ⟨cs, hc⟩ := HO4.out.typed (q + 1) (by first | exact e | exact e.symm); rw [HBK4.out] at hc; simp only [Option.some.injEq, Obj.cells.injEq] at hc; exact absurd hc.2.1 (by decide))).trans HBK4.out; have d0 := cell_of_row _ _ 0 _ _ _ hp6; have k0 := frozen_of_row _ _ 0 _ _ hp6; simp only [List.getElem?_toArray, List.getElem?_cons_zero] at d0; have H6 := Lib.hid (And.intro h6 (And.intro g6 hp6)); obtain ⟨v6a, v6n, v6c, hv6⟩ : ∃ a n c, v6 = .slice a n c := (by rcases h6.form with ⟨e, _⟩ | ⟨g, c, e, _⟩; exact ⟨none, 0, 0, e⟩; exact ⟨_, _, c, e⟩); clear h6 g6 hp6; subst hv6)
  have HE : Hid (KeepsFrom w3.heap.size W (w6.setCell ⟨q + 1, 0, none⟩ (.slice v6a v6n v6c)) ∧ Rn.Kd D W (w6.setCell ⟨q + 1, 0, none⟩ (.slice v6a v6n v6c)) ∧ Rn.Ir D w3 (m + 2) (q + 1) s L (pre ++ [(x1, x2, x3)]) (w6.setCell ⟨q + 1, 0, none⟩ (.slice v6a v6n v6c))) := Lib.hid (by
   have hk : Rn.Kd D W (w6.setCell ⟨q + 1, 0, none⟩ (.slice v6a v6n v6c)) := (Rn.Kd.below HG4.out).trans ((Rn.Kd.grown H6.out.2.1.by_ fun r hr => by
    rw [HD.out]
    have := HO4.out.base_le r (by first | exact hr | exact hr.symm)
    omega).trans (Rn.Kd.set _ (by rw [HD.out]; simp) _))
   refine ⟨(Rn.kf_below HG4.out).trans ((Rn.kf_grew HO4.out H6.out.2.1).trans ((KeepsOthers.setCell _ _ _).from _)), hk, HKD.out.trans hk, _, heap_setCell_same w6 (q + 1) 0 _ _ _ H6.out.2.2, ?_⟩
   rw [HLL.out _ HPX.out, HPL.out]
   refine H6.out.1.same fun b hb => heap_setCell_other w6 ⟨q + 1, 0, none⟩ b _ fun e => ?_
   obtain ⟨cs, hc⟩ := H6.out.1.typed b hb
   have e9 : b = q + 1 := e
   rw [e9, H6.out.2.2] at hc
   simp only [Option.some.injEq, Obj.cells.injEq] at hc
   exact absurd hc.2.1 (by decide))
  clear b0 d0 k0
  refine Sk.Calm.normal ?_
  gi_wp2
  exact HE.out
 case stop =>
  rintro N c pre W hN hpre hne h hK
  exact h.elim
 case done =>
  rintro N W hN ⟨hkd, v, hbk, hown⟩ hK
  rw [Rn.cks_len] at hown
  obtain ⟨nb, hnb⟩ : ∃ nb, nb = Rn.nb L.length := ⟨_, rfl⟩
  have HNB := Lib.hid hnb
  have hlow : Below w.heap.size w3 W := hkd.low (fun b hb => by rw [HD.out]; have := HMQ.out; have := HQ.out; omega) HB3.out.size
  have HBW : Hid (Below w.heap.size w W) := Lib.hid (HB3.out.trans hlow)
  have HTA := Lib.hid (Rn.own_at hown)
  have hlen := Rn.tb_len s L (Rn.nb L.length)
  rw [← hnb] at hlen hown HTA
  have HIX : Hid (Rn.ix (Rn.tb s L nb) nb = Rn.index s L) := Lib.hid (by
   have := Rn.ix_index s L
   rw [← Rn.tb_all, Rn.tb_len, ← hnb] at this
   exact this)
  have HEI : Hid (Rn.enc s L = Rn.pre s L nb ++ Fr.frm (Rn.index s L)) := Lib.hid (by rw [hnb]; exact Rn.enc_is s L)
  have HPF := Lib.hid fun k (h : k ≤ nb) => Rn.pre_few HWE.out k (by rw [← hnb]; exact h)
  have HTE : Hid (∀ k, k < nb → (Rn.tb s L nb)[k]? = some (Bk.enc s (Rn.bk L k))) := Lib.hid fun k h => Rn.tb_at h
  have HFW : Hid (∀ t ∈ Rn.tb s L nb, t.length ≤ 6291520) := Lib.hid fun t ht => by
   obtain ⟨i, hi, rfl⟩ := List.mem_iff_getElem.1 ht
   rw [Rn.tb_len] at hi
   have := HTE.out i hi
   rw [List.getElem?_eq_getElem (by rw [Rn.tb_len]; exact hi), Option.some.injEq] at this
   rw [this]
   exact Rn.enc_few (HWE.out i (by rw [← hnb]; exact hi))
  have HNL : Hid (nb ≤ 25 ∧ 1 ≤ nb) := Lib.hid (by have := HN.out.2; have := HL0.out; rw [hnb]; unfold Rn.nb; omega)
  generalize Rn.tb s L nb = TB at hown HTA HIX HTE HFW hlen
  have HLEN := Lib.hid hlen
  obtain ⟨g, vc, rfl⟩ : ∃ g c, v = .slice (some ⟨g, 0, none⟩) nb c := by
   rcases hown.form with ⟨_, e⟩ | ⟨g, c, e, _⟩
   ·rw [e] at hlen; simp at hlen; have := HNL.out; omega
   ·exact ⟨g, c, by rw [e, hlen]⟩
  have HOW := Lib.hid hown
  have hbd := Rn.bd_new W
  have HAL : Hid (Below W.heap.size W (W.alloc (.cells #[.pointer none, .slice none 0 0] 124))) := Lib.hid ((Below.refl _ _).alloc (Nat.le_refl _) _)
  have b0 : (W.alloc (.cells #[.pointer none, .slice none 0 0] 124)).cell? ⟨q + 1, 0, none⟩ = some (.slice (some ⟨g, 0, none⟩) nb vc) := by rw [cell_of_row _ _ _ _ _ _ ((HAL.out.block _ (Array.getElem?_eq_some_iff.1 hbk).1).trans hbk)]; rfl
  have HBK := Lib.hid hbk
  have HK := Lib.hid (And.intro hN hK)
  have hnb0 : (0 : Int) ≤ (nb : Int) := by omega
  clear hkd hbk hown hN hK hlow hnb hlen CW HSEQ H30
  gi_upto_region 7 with (fail)
  generalize W.alloc _ = w5 at hbd HAL b0 ⊢
  have HBD := Lib.hid hbd
  clear hbd
  obtain ⟨p, hp⟩ : ∃ p, p = W.heap.size := ⟨_, rfl⟩
  rw [← hp] at HBD ⊢
  have HP := Lib.hid hp
  clear hp
  gi_wp2
  gi_loopw [27] (fun i wr => ∃ k : Nat, k ≤ nb ∧ i = .int .i64 k ∧ Rn.Bd p p (Rn.pre s L k) wr ∧ Below p W wr) (fun i _ => nb - (intOf i).toNat)
  case atStart => exact ⟨0, Nat.zero_le _, rfl, HBD.out, by rw [HP.out]; exact HAL.out⟩
  case round =>
   obtain ⟨k, hk, rfl, hd, hB⟩ := hrel
   have HD9 := Lib.hid hd
   have HB9 : Hid (Below W.heap.size W wr) := Lib.hid (by rw [← HP.out]; exact hB)
   have HPS : Hid (p ≤ wr.heap.size) := Lib.hid (by rw [HP.out]; exact HB9.out.size)
   have HPK := Lib.hid (HPF.out k hk).1
   clear hd hB
   by_cases hl : k < nb
   ·have hx := HTE.out k hl
    have c0 := HOW.out.cell Rn.te_len (g := g) rfl hx (j := 0) (by decide)
    have c0 := (HB9.out.cell (p := ⟨g, k * 1 + 0, none⟩) (HOW.out.lt g rfl)).trans c0
    rw [Nat.mul_one, Nat.add_zero] at c0
    simp only [Rn.te, List.getElem?_cons_zero] at c0
    have HPN := Lib.hid (Rn.pre_next s L k)
    have hel := HFW.out _ (List.mem_of_getElem? hx)
    generalize Bk.enc s (Rn.bk L k) = E at c0 HPN hel hx
    have CF := Lib.hid fun wz => Fr.write_c (Ty.S E) (by rw [Ty.size_S]; omega) wz rfl
    rw [Ty.data_S] at CF
    have hfl := Fr.frm_len E
    generalize Fr.frm E = F at CF HPN hfl
    have HFL : Hid (F.length ≤ 6291528) := Lib.hid (by omega)
    have hkl : (k : Int) < (nb : Int) := by omega
    have hk0 : (0 : Int) ≤ (k : Int) := by omega
    have hk25 : (k : Int) ≤ 25 := by have := HNL.out; omega
    have HKL := Lib.hid hl
    obtain ⟨y, hy⟩ : ∃ y, y = Ty.S E := ⟨_, rfl⟩
    rw [← hy] at c0 CF
    clear hx hel hfl hl hk hy
    gi_wp2_with (first
     | (refine ⟨trivial, ?_⟩; gi_at_call 70; refine (callsIn_wide.2 (CF.out _)).mono ?_; rintro e w7 ⟨rfl, g7⟩
        have HB7 := Lib.hid (HB9.out.trans (g7.mono HB9.out.size))
        have hd7 := HD9.out.kept g7)
     | (refine ⟨trivial, ?_⟩; gi_at_call 69; refine (callsIn_wide.2 (Rn.bwrite_c p p (Rn.pre s L k) F w7 hd7 (by have := HFL.out; have := HPK.out; omega) (by rw [HP.out]; exact HB7.out.size))).mono ?_; rintro e w8 ⟨rfl, hd8, g8⟩
        have HD8 := Lib.hid hd8
        have HB8 : Hid (Below p W w8) := Lib.hid ((HB7.out.mono (by rw [HP.out]; exact Nat.le_refl _)).trans g8)
        clear hd7 hd8 g7 g8))
    go_roundw
    case rel => exact ⟨k + 1, HKL.out, by simp, by rw [HPN.out]; exact HD8.out, HB8.out⟩
    case measure => (have := HKL.out; simp [intOf]; omega)
   ·obtain rfl : k = nb := by omega
    have hkl : ¬ (k : Int) < (k : Int) := by omega
    have hb9 := (HB9.out.block _ (Array.getElem?_eq_some_iff.1 HBK.out).1).trans HBK.out
    have b9 : wr.cell? ⟨q + 1, 0, none⟩ = some (.slice (some ⟨g, 0, none⟩) k vc) := by rw [cell_of_row _ _ _ _ _ _ hb9]; rfl
    have HTW := Lib.hid (HBW.out.trans (HB9.out.mono HBW.out.size))
    have ci := Rn.index_c _ TB wr (HT.out.below HTW.out HT.out.two) ((HTA.out.below HB9.out).mono HB9.out.size (Nat.le_refl _)) (by rw [HLEN.out]; have := HNL.out; omega) HFW.out
    rw [HLEN.out, HIX.out] at ci
    have CI := Lib.hid ci
    have hil : (Rn.index s L).length ≤ 250 := by
     rw [← HIX.out]
     have h1 := Rn.ix_len TB k (by rw [HLEN.out]; exact Nat.le_refl _)
     have := HNL.out
     omega
    have CF := Lib.hid fun wz => Fr.write_c (Ty.S (Rn.index s L)) (by rw [Ty.size_S]; omega) wz rfl
    rw [Ty.data_S] at CF
    have hfl := Fr.frm_len (Rn.index s L)
    generalize Fr.frm (Rn.index s L) = F at CF HEI hfl
    have HFL : Hid (F.length ≤ 258) := Lib.hid (by omega)
    generalize Ty.S (Rn.index s L) = y at CI CF
    clear hk hl hb9 ci hil hfl
    gi_wp2_with (first
     | (refine ⟨trivial, ?_⟩; gi_at_call 61; refine (callsIn_wide.2 CI.out).mono ?_; rintro e w6 ⟨rfl, g6⟩
        have HB6 := Lib.hid (HB9.out.trans (g6.mono HB9.out.size))
        have hd6 := HD9.out.kept g6)
     | (refine ⟨trivial, ?_⟩; gi_at_call 70; refine (callsIn_wide.2 (CF.out _)).mono ?_; rintro e w7 ⟨rfl, g7⟩
        have HB7 := Lib.hid (HB6.out.trans (g7.mono HB6.out.size))
        have hd7 := hd6.kept g7)
     | (refine ⟨trivial, ?_⟩; gi_at_call 69; refine (callsIn_wide.2 (Rn.bwrite_c p p (Rn.pre s L k) F w7 hd7 (by have := HFL.out; have := HPK.out; have := HNL.out; omega) (by rw [HP.out]; exact HB7.out.size))).mono ?_; rintro e w8 ⟨rfl, hd8, g8⟩
        have HB8 : Hid (Below p W w8) := Lib.hid ((HB7.out.mono (by rw [HP.out]; exact Nat.le_refl _)).trans g8)
        clear hd6 hd7)
     | (refine ⟨trivial, ?_⟩; gi_at_call 71; refine (callsIn_wide.2 (Rn.bstring_c p p _ w8 hd8 (by have := HB8.out.size; rw [HP.out]; exact this))).mono ?_; rintro e w9 ⟨rfl, g9⟩
        have HB10 : Hid (Below p W w9) := Lib.hid (HB8.out.trans g9)
        clear hd8 g8 g9))
    have HK9 : Hid (w9.heap[N]? = some (.deferred (some [])) ∧ Below w.heap.size w w9) := Lib.hid (by
     have h1 := HB10.out
     rw [HP.out] at h1
     exact ⟨(h1.block N (Array.getElem?_eq_some_iff.1 HK.out.2).1).trans HK.out.2, HBW.out.trans (h1.mono HBW.out.size)⟩)
    refine ⟨by simp, .inl ⟨_, _, rfl, run_takeDeferred HK9.out.1, ?_⟩⟩
    refine ⟨_, results_tmp rfl _ _ _, ?_, HK9.out.2.trans (belowK_b (Nat.le_refl _) w9 N _ _ (by have := HB3.out.size; have := HK.out.1; omega) HK9.out.1 rfl rfl)⟩
    rw [HEI.out]
    rfl
end Go.Proofs.YtbelkhkllneifaaGreatDoor

namespace Go.Proofs.YtbelkhkllneifaaGreatDoor
open Go Go.RowKit
theorem Rn.fitsE_f {s : List Kn.C} {L : List Dd.D} {q : Int} (h : Bk.firstE s L = q) (hq : q ≠ 0) : Bk.fitsE s L = q := by
 unfold Bk.fitsE
 rw [h, if_neg hq]
theorem Rn.fitsE_s {s : List Kn.C} {L : List Dd.D} (h : Bk.firstE s L = 0) (hs : Bk.sorted L = false) : Bk.fitsE s L = 1 := by
 unfold Bk.fitsE
 rw [if_pos h, if_neg (by rw [hs]; decide)]
theorem Rn.fitsE_g {s : List Kn.C} {L : List Dd.D} (h : Bk.firstE s L = 0) (hs : Bk.sorted L = true) : Bk.fitsE s L = 0 := by
 unfold Bk.fitsE
 rw [if_pos h, if_pos hs]
set_option maxHeartbeats 8000000 in
set_option maxRecDepth 100000 in
theorem Rn.pwrite_c (vs v : Value) (s : List Kn.C) (L : List Dd.D) (w : World) (hT : Ty.Tabs w) (hs : Dd.Cols w vs s) (hv : Bk.Ds w v L) (hz : Bk.Zs L) (hi : ∀ d ∈ L, ∀ x ∈ d.row, Ty.I64 x.n) (h2 : L.length ≤ 200) :
 Calls Tryz.prog 11 #[vs, v] w fun e w' => e = .returned (Rn.wV s L) ∧ Below w.heap.size w w' := by
 obtain ⟨V, hV⟩ : ∃ V, V = Rn.wV s L := ⟨_, rfl⟩
 rw [← hV]
 have HV9 := Lib.hid hV
 have HT := Lib.hid hT
 have HS := Lib.hid hs
 have HV := Lib.hid hv
 have HZ := Lib.hid hz
 have HI := Lib.hid hi
 have H2 := Lib.hid h2
 have cR := Kn.right_c vs s w hs.1
 have CD := Lib.hid fun (u : Value) (d : Dd.D) (wz : World) (h1 : Ty.Tabs wz) (h2 : Dd.Cols wz vs s) (h3 : Kn.Vals wz u d.row) (h4 : ∀ x ∈ d.row, Ty.I64 x.n) => Dd.write_c vs u s d wz h1 h2 h3 h4
 have CS := Lib.hid fun (wz : World) (h : Bk.Ds wz v L) => Bk.psorted_c v L wz h HZ.out
 obtain ⟨a, c, rfl, hlc, hcm, h⟩ := hv
 obtain ⟨⟨sa, sc, rfl, hsa⟩, -⟩ := hs
 have HH := Lib.hid h
 clear hV hT hz hi h hsa hlc hcm
 cases hr : Kn.right s
 ·rw [hr] at cR
  have HE := Lib.hid (HV9.out.trans (Rn.wV_bad (Rn.wE_k (L := L) hr) (by decide)))
  clear hr
  go_enter Tryz.func11, Tryz.ntmps11
  go_wp2_with fail
  with_reducible refine cR.mono ?_
  rintro e w1 ⟨rfl, g1⟩
  have HG := Lib.hid g1
  clear g1
  go_wp2
  go_ret2
  exact ⟨by rw [HE.out]; rfl, HG.out⟩
 rw [hr] at cR
 have HR := Lib.hid hr
 clear hr
 by_cases hlen : L.length = 0
 ·have HE := Lib.hid (HV9.out.trans (Rn.wV_bad (Rn.wE_n HR.out hlen) (by decide)))
  rw [hlen]
  clear hlen
  go_enter Tryz.func11, Tryz.ntmps11
  go_wp2_with fail
  with_reducible refine cR.mono ?_
  rintro e w1 ⟨rfl, g1⟩
  have HG := Lib.hid g1
  clear g1
  go_wp2
  go_ret2
  exact ⟨by rw [HE.out]; rfl, HG.out⟩
 have hi1 : ((L.length : Int) == 0) = false := by rw [beq_eq_false_iff_ne]; omega
 have HLN := Lib.hid hlen
 clear hlen
 go_enter Tryz.func11, Tryz.ntmps11
 go_wp2_with fail
 with_reducible refine cR.mono ?_
 rintro e w1 ⟨rfl, g1⟩
 have HG1 := Lib.hid g1
 clear cR g1
 go_wp2_with fail
 clear hi1
 go_loopw [19] (fun i wr => ∃ k : Nat, k ≤ L.length ∧ i = .int .i64 k ∧ (∀ j x, j < k → L[j]? = some x → Dd.fitE s x = 0) ∧ Below w.heap.size w wr) (fun i _ => L.length - (intOf i).toNat)
 case atStart => exact ⟨0, Nat.zero_le _, rfl, (fun j x hj => by omega), HG1.out⟩
 case round =>
  obtain ⟨k, hk, rfl, hf, hb⟩ := hrel
  have HF := Lib.hid hf
  have HB := Lib.hid hb
  clear hf hb
  by_cases hl : k < L.length
  ·rcases HH.out with rfl | ⟨b, o, rfl, hlt, hc⟩
   ·simp at hl
   ·have hx := List.getElem?_eq_getElem hl
    generalize L[k] = d at hx
    obtain ⟨u, c0, c1, hu⟩ := hc k d hx
    have hu := hu.later HB.out
    have c0 := (HB.out.cell (p := ⟨b, o + k * 2, none⟩) hlt).trans c0
    have c1 := (HB.out.cell (p := ⟨b, o + k * 2 + 1, none⟩) hlt).trans c1
    have HU := Lib.hid hu
    obtain ⟨ua, uc, rfl, -⟩ := hu
    have hkl : (k : Int) < (L.length : Int) := by omega
    have hk0 : (0 : Int) ≤ (k : Int) := by omega
    have hk7 : (k : Int) ≤ 200 := by have := H2.out; omega
    have HX := Lib.hid hx
    have HK := Lib.hid hl
    clear hc hx hl hk
    go_upto_region 8 with (fail)
    have HB0 : Hid (Below wr.heap.size wr (wr.alloc (.cells #[.bool d.gone, .slice ua d.row.length uc] 41))) := Lib.hid ((Below.refl _ _).alloc (Nat.le_refl _) _)
    have x0 := Kn.cell_new wr #[.bool d.gone, .slice ua d.row.length uc] 41 0 _ rfl
    have x1 := Kn.cell_new wr #[.bool d.gone, .slice ua d.row.length uc] 41 1 _ rfl
    simp only [List.getElem_toArray, List.getElem_cons_zero, List.getElem_cons_succ] at x0 x1
    obtain ⟨q, hq⟩ : ∃ q, q = wr.heap.size := ⟨_, rfl⟩
    rw [← hq] at x0 x1 ⊢
    generalize wr.alloc _ = w3 at HB0 x0 x1 ⊢
    have HB3 := Lib.hid (HB.out.trans (HB0.out.mono HB.out.size))
    have cd := CD.out _ d w3 (HT.out.below HB3.out HT.out.two) (HS.out.later HB3.out) (HU.out.later HB0.out) (HI.out d (List.mem_of_getElem? HX.out))
    unfold Dd.wV at cd
    have HFE : Hid (Dd.fitE s d ≠ 0 → V = .tuple #[.string (Ty.S []), .int .i64 (Dd.fitE s d)]) := Lib.hid fun h => by
     have h1 := Rn.fitsE_f (Bk.first_at HX.out HF.out h) h
     exact HV9.out.trans (Rn.wV_bad ((Rn.wE_f HR.out HLN.out (by rw [h1]; exact h)).trans h1) h)
    have HFZ : Hid (Dd.fitE s d = 0 → ∀ j x, j < k + 1 → L[j]? = some x → Dd.fitE s x = 0) := Lib.hid fun h j x hj hx => by
     rcases Nat.lt_or_ge j k with h2 | h2
     ·exact HF.out j x h2 hx
     ·obtain rfl : j = k := by omega
      rw [HX.out] at hx
      cases hx
      exact h
    generalize Dd.fitE s d = E at cd HFE HFZ
    generalize Ty.S (Dd.wS s d) = T9 at cd
    clear hq c0 c1
    go_wp2_with fail
    with_reducible refine cd.mono ?_
    rintro e w4 ⟨rfl, g4⟩
    have HB4 := Lib.hid (HB3.out.trans (g4.mono HB3.out.size))
    clear cd g4 x0 x1
    by_cases hE : E = 0
    ·subst hE
     have HFZ2 := Lib.hid (HFZ.out rfl)
     go_wp2
     go_roundw
     case rel => exact ⟨k + 1, HK.out, by simp, HFZ2.out, HB4.out⟩
     case measure => (have := HK.out; simp [intOf]; omega)
    ·have hEb : (E != 0) = true := by rw [bne_iff_ne]; exact hE
     have HX2 := Lib.hid (HFE.out hE)
     clear hE
     go_wp2
     go_ret2
     exact ⟨by rw [HX2.out]; rfl, HB4.out⟩
  ·obtain rfl : k = L.length := by omega
   have hkl : ¬ (L.length : Int) < (L.length : Int) := by omega
   have HFA : Hid (∀ d ∈ L, Dd.fitE s d = 0) := Lib.hid fun d hd => by
    obtain ⟨j, hj, rfl⟩ := List.mem_iff_getElem.1 hd
    exact HF.out j _ hj (List.getElem?_eq_getElem hj)
   have H0 := Lib.hid (Bk.firstE_0.2 HFA.out)
   have cs := CS.out wr (HV.out.later HB.out)
   clear hk hl HF
   cases hso : Bk.sorted L
   ·rw [hso] at cs
    have HE := Lib.hid (HV9.out.trans (Rn.wV_bad ((Rn.wE_f HR.out HLN.out (by rw [Rn.fitsE_s H0.out hso]; decide)).trans (Rn.fitsE_s H0.out hso)) (by decide)))
    clear hso
    go_wp2_with fail
    with_reducible refine cs.mono ?_
    rintro e w2 ⟨rfl, g2⟩
    have HB2 := Lib.hid (HB.out.trans (g2.mono HB.out.size))
    clear cs g2
    go_wp2
    go_ret2
    exact ⟨by rw [HE.out]; rfl, HB2.out⟩
   rw [hso] at cs
   have CE := Lib.hid fun (wz : World) (h1 : Ty.Tabs wz) (h2 : Dd.Cols wz (.slice sa s.length sc) s) (h3 : Bk.Ds wz (.slice a L.length c) L) => Rn.encoding_c _ _ s L wz h1 h2 h3 HR.out HFA.out hso HZ.out HI.out HLN.out H2.out
   have HFG := Lib.hid (Rn.fitsE_g H0.out hso)
   clear hso
   go_wp2_with fail
   with_reducible refine cs.mono ?_
   rintro e w2 ⟨rfl, g2⟩
   have HB2 := Lib.hid (HB.out.trans (g2.mono HB.out.size))
   have ce := CE.out w2 (HT.out.below HB2.out HT.out.two) (HS.out.later HB2.out) (HV.out.later HB2.out)
   have HXS : Hid ((Ty.S (Rn.enc s L)).size = (Rn.enc s L).length) := Lib.hid (Ty.size_S _)
   obtain ⟨x, hx⟩ : ∃ x, x = Ty.S (Rn.enc s L) := ⟨_, rfl⟩
   rw [← hx] at ce HXS
   have HXE := Lib.hid hx
   clear cs g2 hx hkl
   by_cases hbig : 1048576 < (Rn.enc s L).length
   ·have HE := Lib.hid (HV9.out.trans (Rn.wV_bad (Rn.wE_l HR.out HLN.out HFG.out hbig) (by decide)))
    have hb8 : (1048576 : Int) < (x.size : Int) := by have := HXS.out; omega
    clear hbig
    go_wp2_with fail
    with_reducible refine ce.mono ?_
    rintro e w5 ⟨rfl, g5⟩
    have HB5 := Lib.hid (HB2.out.trans (g5.mono HB2.out.size))
    clear g5
    go_wp2
    go_ret2
    exact ⟨by rw [HE.out]; rfl, HB5.out⟩
   ·have HE := Lib.hid (HV9.out.trans (Rn.wV_ok (Rn.wE_g HR.out HLN.out HFG.out hbig)))
    have hb8 : ¬ (1048576 : Int) < (x.size : Int) := by have := HXS.out; omega
    clear hbig
    go_wp2_with fail
    with_reducible refine ce.mono ?_
    rintro e w5 ⟨rfl, g5⟩
    have HB5 := Lib.hid (HB2.out.trans (g5.mono HB2.out.size))
    clear g5
    go_wp2
    go_ret2
    exact ⟨by rw [HE.out, HXE.out]; rfl, HB5.out⟩
end Go.Proofs.YtbelkhkllneifaaGreatDoor

namespace Go.Proofs.YtbelkhkllneifaaGreatDoor
open Go Go.RowKit
theorem Rn.results_cell2 {fn : Func} {p q : Tmp} {ty tz : TypeId} (h : fn.results = #[.cell p ty, .cell q tz]) (tmps : Array Value) (P : Program) (w : World) :
 (results fn tmps).run P w = ((asAddr (tmps.getD p undef)).run P w).andThen fun a w1 => ((loadVar ty a).run P w1).andThen fun x w2 => ((asAddr (tmps.getD q undef)).run P w2).andThen fun b w3 => ((loadVar tz b).run P w3).andThen fun y w4 => .ok (.tuple #[x, y]) w4 := by
 simp only [results, h]
 simp [Sem.run_bind, Result.andThen]
set_option maxHeartbeats 4000000 in
set_option maxRecDepth 100000 in
theorem Rn.bounds_c {w : World} {p : Nat} {s : List Kn.C} {L : List Dd.D} (h : Rn.P w p s L) (hg : Rn.Gd s L) {x y : Dd.D} (hx : L[0]? = some x) (hy : L[L.length - 1]? = some y) :
 Calls Tryz.prog 14 #[.pointer (some ⟨p, 0, none⟩)] w fun e w' => e = .returned (.tuple #[(Bk.key x).val, (Bk.key y).val]) ∧ Below w.heap.size w w' := by
 have CL := Lib.hid fun (wz : World) (g : Below w.heap.size w wz) => Rn.len_c (h.later g)
 obtain ⟨w1, hw1⟩ : ∃ w1, w1 = (w.alloc (.cells #[.bool false, .int .i64 0, .string ⟨#[]⟩] 33)).alloc (.cells #[.bool false, .int .i64 0, .string ⟨#[]⟩] 33) := ⟨_, rfl⟩
 have HB1 : Hid (Below w.heap.size w w1) := Lib.hid (by rw [hw1]; exact Kn.box2 _ _ _)
 have h0 : w1.heap[w.heap.size]? = some (.cells #[.bool false, .int .i64 0, .string ⟨#[]⟩] 33 (0, 0)) := by
  rw [hw1]
  exact (((Below.refl _ (w.alloc (.cells #[.bool false, .int .i64 0, .string ⟨#[]⟩] 33))).alloc (Nat.le_refl _) _).block w.heap.size (by simp)).trans (heap_alloc_new w _)
 have h1 : w1.heap[w.heap.size + 1]? = some (.cells #[.bool false, .int .i64 0, .string ⟨#[]⟩] 33 (0, 0)) := by
  rw [hw1]
  have := heap_alloc_new (w.alloc (.cells #[.bool false, .int .i64 0, .string ⟨#[]⟩] 33)) (.cells #[.bool false, .int .i64 0, .string ⟨#[]⟩] 33)
  rwa [World.size_alloc] at this
 obtain ⟨q, hq⟩ : ∃ q, q = w.heap.size := ⟨_, rfl⟩
 have HQ := Lib.hid hq
 rw [← hq] at h0 h1
 have a0 : w1.cell? ⟨q, 0, none⟩ = some (.bool false) := by rw [cell_of_row w1 _ _ _ _ _ h0]; rfl
 have a1 : w1.cell? ⟨q, 1, none⟩ = some (.int .i64 0) := by rw [cell_of_row w1 _ _ _ _ _ h0]; rfl
 have a2 : w1.cell? ⟨q, 2, none⟩ = some (.string ⟨#[]⟩) := by rw [cell_of_row w1 _ _ _ _ _ h0]; rfl
 have b0 : w1.cell? ⟨q + 1, 0, none⟩ = some (.bool false) := by rw [cell_of_row w1 _ _ _ _ _ h1]; rfl
 have b1 : w1.cell? ⟨q + 1, 1, none⟩ = some (.int .i64 0) := by rw [cell_of_row w1 _ _ _ _ _ h1]; rfl
 have b2 : w1.cell? ⟨q + 1, 2, none⟩ = some (.string ⟨#[]⟩) := by rw [cell_of_row w1 _ _ _ _ _ h1]; rfl
 have f0 := frozen_of_row w1 _ 0 _ _ h0
 have f1 := frozen_of_row w1 _ 1 _ _ h0
 have f2 := frozen_of_row w1 _ 2 _ _ h0
 have g0 := frozen_of_row w1 _ 0 _ _ h1
 have g1 := frozen_of_row w1 _ 1 _ _ h1
 have g2 := frozen_of_row w1 _ 2 _ _ h1
 obtain ⟨hpl, d, z, c0, _, hds, -⟩ := h
 obtain ⟨a, c, rfl, _, _, hds⟩ := hds
 have hl0 : 0 < L.length := (List.getElem?_eq_some_iff.1 hx).1
 rcases hds with h9 | ⟨b, o, rfl, hb, hc⟩
 ·rw [h9] at hl0; simp at hl0
 obtain ⟨u, _, e1, hu⟩ := hc 0 x hx
 obtain ⟨v, _, e2, hv⟩ := hc (L.length - 1) y hy
 obtain ⟨ua, uc, rfl, -⟩ := id hu
 obtain ⟨va, vc, rfl, -⟩ := id hv
 have nx := hg.ne x (List.mem_of_getElem? hx)
 have ny := hg.ne y (List.mem_of_getElem? hy)
 obtain ⟨_, xb, xo, rfl, hxb, hxa⟩ := Rn.row_at hu (Rn.key_at nx)
 obtain ⟨_, yb, yo, rfl, hyb, hya⟩ := Rn.row_at hv (Rn.key_at ny)
 obtain ⟨x0, x1, x2⟩ := hxa
 obtain ⟨y0, y1, y2⟩ := hya
 simp only [Nat.zero_mul, Nat.add_zero] at e1 x0 x1 x2 y0 y1 y2
 have hnx : (0 : Int) < (x.row.length : Int) := by have := List.length_pos_iff.2 nx; omega
 have hny : (0 : Int) < (y.row.length : Int) := by have := List.length_pos_iff.2 ny; omega
 obtain ⟨n, hn⟩ : ∃ n, n = L.length - 1 := ⟨_, rfl⟩
 have hLn : L.length = n + 1 := by omega
 rw [← hn] at e2
 rw [hLn] at c0
 have hn7 : (n : Int) ≤ 200 := by have := hg.few; omega
 have hn0 : (0 : Int) ≤ (n : Int) := by omega
 have hn1 : (n : Int) < (n : Int) + 1 := by omega
 have hn2 : n < n + 1 := by omega
 have cl := CL.out w1 HB1.out
 rw [hLn] at cl
 have hw : ((n : Int) + 1 == 0) = false := by rw [beq_eq_false_iff_ne]; omega
 have hwr : IntKind.i64.wrap ((n : Int) + 1 - 1) = (n : Int) := by rw [IntKind.wrap_i64]; omega
 have hwr2 : IntKind.i64.wrap (n : Int) = (n : Int) := by rw [IntKind.wrap_i64]; omega
 simp only [Int.natCast_add, Int.natCast_one] at cl
 have hnx2 : 0 < x.row.length := List.length_pos_iff.2 nx
 have hny2 : 0 < y.row.length := List.length_pos_iff.2 ny
 generalize x.row.length = xl at e1 hnx hnx2
 generalize y.row.length = yl at e2 hny hny2
 generalize Bk.key x = X at x0 x1 x2 ⊢
 generalize Bk.key y = Y at y0 y1 y2 ⊢
 obtain ⟨Xn, Xi, Xs⟩ := X
 obtain ⟨Yn, Yi, Ys⟩ := Y
 simp only at x0 x1 x2 y0 y1 y2
 have HS : Hid (∀ W, Below w.heap.size w W → W.cell? ⟨p, 0, none⟩ = some (.slice (some ⟨b, o, none⟩) (n + 1) c) ∧ W.cell? ⟨b, o + 1, none⟩ = some (.slice (some ⟨xb, xo, none⟩) xl uc) ∧ W.cell? ⟨b, o + n * 2 + 1, none⟩ = some (.slice (some ⟨yb, yo, none⟩) yl vc) ∧
  W.cell? ⟨xb, xo, none⟩ = some (.bool Xn) ∧ W.cell? ⟨xb, xo + 1, none⟩ = some (.int .i64 Xi) ∧ W.cell? ⟨xb, xo + 2, none⟩ = some (.string Xs) ∧ W.cell? ⟨yb, yo, none⟩ = some (.bool Yn) ∧ W.cell? ⟨yb, yo + 1, none⟩ = some (.int .i64 Yi) ∧ W.cell? ⟨yb, yo + 2, none⟩ = some (.string Ys)) := Lib.hid fun W g =>
  ⟨(g.cell (p := ⟨p, 0, none⟩) hpl).trans c0, (g.cell (p := ⟨b, o + 1, none⟩) hb).trans e1, (g.cell (p := ⟨b, o + n * 2 + 1, none⟩) hb).trans e2, (g.cell (p := ⟨xb, xo, none⟩) hxb).trans x0, (g.cell (p := ⟨xb, xo + 1, none⟩) hxb).trans x1, (g.cell (p := ⟨xb, xo + 2, none⟩) hxb).trans x2, (g.cell (p := ⟨yb, yo, none⟩) hyb).trans y0, (g.cell (p := ⟨yb, yo + 1, none⟩) hyb).trans y1, (g.cell (p := ⟨yb, yo + 2, none⟩) hyb).trans y2⟩
 have HQ2 : Hid (w.heap.size ≤ q) := Lib.hid (by rw [HQ.out]; exact Nat.le_refl _)
 have HQ3 : Hid (w.heap.size ≤ q + 1) := Lib.hid (by rw [HQ.out]; exact Nat.le_succ _)
 have HH := Lib.hid (And.intro h0 h1)
 clear hg hx hy hpl hl0 hc hu hv nx ny hxb hyb hb hn hLn h0 h1 CL c0 e1 e2 x0 x1 x2 y0 y1 y2
 unfold Kn.V.val
 go_enter Tryz.func14, Tryz.ntmps14
 go_upto_region 1 with (fail)
 rw [← hw1, ← hq]
 clear hw1 hq
 go_wp2_with fail
 with_reducible refine cl.mono ?_
 rintro e w2 ⟨rfl, hw2⟩
 subst hw2
 clear cl
 go_upto_region 4 with (fail)
 have HO := Lib.hid HB1.out.drew
 go_region_held3 (fun W => W.cell? ⟨p, 0, none⟩ = some (.slice (some ⟨b, o, none⟩) (n + 1) c) ∧ W.cell? ⟨b, o + 1, none⟩ = some (.slice (some ⟨xb, xo, none⟩) xl uc) ∧ W.cell? ⟨b, o + n * 2 + 1, none⟩ = some (.slice (some ⟨yb, yo, none⟩) yl vc) ∧
  W.cell? ⟨xb, xo, none⟩ = some (.bool Xn) ∧ W.cell? ⟨xb, xo + 1, none⟩ = some (.int .i64 Xi) ∧ W.cell? ⟨xb, xo + 2, none⟩ = some (.string Xs) ∧ W.cell? ⟨yb, yo, none⟩ = some (.bool Yn) ∧ W.cell? ⟨yb, yo + 1, none⟩ = some (.int .i64 Yi) ∧ W.cell? ⟨yb, yo + 2, none⟩ = some (.string Ys))
  ((refine HS.out _ ?_; repeat' (first | with_reducible exact HO.out | with_reducible exact HB1.out | with_reducible exact HQ2.out | with_reducible exact HQ3.out | (with_reducible refine Below.drew ?_) | (with_reducible refine Zn.below_set ?_ ?_ _ _))))
  (fail)
 all_goals
  have HE : Hid (Below w.heap.size w ((((((w2.setCell ⟨q, 0, none⟩ (.bool Xn)).setCell ⟨q, 1, none⟩ (.int .i64 Xi)).setCell ⟨q, 2, none⟩ (.string Xs)).setCell ⟨q + 1, 0, none⟩ (.bool Yn)).setCell ⟨q + 1, 1, none⟩ (.int .i64 Yi)).setCell ⟨q + 1, 2, none⟩ (.string Ys)).drew) := Lib.hid (Zn.below_set3 (Zn.below_set3 HB1.out HQ2.out _ _ _ _ _ _) HQ3.out _ _ _ _ _ _).drew
  go_wp2
  (try simp only [Exit.inBlock, Exit.then])
  refine bodyPost_ret (v := .tuple #[.agg #[.bool Xn, .int .i64 Xi, .string Xs], .agg #[.bool Yn, .int .i64 Yi, .string Ys]]) ?_ rfl ⟨rfl, HE.out⟩
  rw [Rn.results_cell2 rfl]
  go_simp
end Go.Proofs.YtbelkhkllneifaaGreatDoor

namespace Go.Proofs.YtbelkhkllneifaaGreatDoor
open Go Go.RowKit
def Rn.EarlyD (w : World) (L : List Dd.D) (e : Ending) (w' : World) : Prop := ∃ a n c, e = .returned (.slice a n c) ∧ Bk.Ds w' (.slice a n c) (L.take 200) ∧ Below w.heap.size w w'
set_option maxHeartbeats 2000000 in
set_option maxRecDepth 100000 in
theorem Rn.early_c {w : World} {v : Value} {L : List Dd.D} (h : Bk.Ds w v L) :
 Calls Tryz.prog 10 #[v] w (Rn.EarlyD w L) := by
 have HD := Lib.hid h
 obtain ⟨a, c, rfl, hlc, hcm, hb⟩ := h
 obtain ⟨k, hk⟩ : ∃ k, k = (min (L.length : Int) 200).toNat := ⟨_, rfl⟩
 have HK : Hid (k ≤ L.length ∧ L.take 200 = L.take k) := Lib.hid (by
  refine ⟨by omega, ?_⟩
  rcases Nat.lt_or_ge 200 L.length with h | h
  ·rw [show k = 200 by omega]
  ·rw [show k = L.length by omega, List.take_length, List.take_of_length_le h])
 have HP : Hid (∀ W a n c, Below w.heap.size w W → Bk.Ds W (.slice a n c) (L.take k) → Rn.EarlyD w L (.returned (.slice a n c)) W) := Lib.hid fun W a n c g hd => ⟨a, n, c, rfl, by rw [HK.out.2]; exact hd, g⟩
 generalize Rn.EarlyD w L = post at HP ⊢
 have hm2 : min (L.length : Int) 200 ≤ (c : Int) := by omega
 have hm3 : (0 : Int) ≤ min (L.length : Int) 200 := by omega
 rcases hb with h0 | ⟨b, o, rfl, hlt, -⟩
 ·subst h0
  have HQ : Hid (∀ W, Bk.Ds W (.slice a (min (0 : Int) 200).toNat c) (([] : List Dd.D).take k)) := Lib.hid fun W => by
   rw [List.take_nil]
   exact ⟨a, c, rfl, Nat.zero_le _, hcm, .inl rfl⟩
  clear HK HD
  go_enter Tryz.func10, Tryz.ntmps10
  go_wp2
  exact HP.out _ _ _ _ (Below.refl _ _) (HQ.out _)
 ·have HQ : Hid (∀ W, Below w.heap.size w W → Bk.Ds W (.slice (some ⟨b, o, none⟩) k c) (L.take k)) := Lib.hid fun W g => by
   rcases Nat.eq_zero_or_pos k with h0 | h0
   ·rw [h0, List.take_zero]
    exact ⟨_, c, rfl, Nat.zero_le _, hcm, .inr ⟨b, o, rfl, Nat.lt_of_lt_of_le hlt g.size, fun i x hx => by simp at hx⟩⟩
   ·have := Rn.ds_cut (HD.out.later g) (i := 0) h0 HK.out.1
    simpa using this
  rw [hk] at HQ HP
  clear hlt HK HD hk
  go_enter Tryz.func10, Tryz.ntmps10
  go_wp2
  exact HP.out _ _ _ _ (Below.refl _ _) (HQ.out _ (Below.refl _ _))
def Rn.LdD (w : World) (s : List Kn.C) (L : List Dd.D) (e : Ending) (w' : World) : Prop :=
 ((Rn.wE s L ≠ 0 ∧ e = .returned (.pointer none)) ∨ ∃ p, Rn.wE s L = 0 ∧ e = .returned (.pointer (some ⟨p, 0, none⟩)) ∧ Rn.P w' p s L) ∧ Below w.heap.size w w'
set_option maxHeartbeats 2000000 in
set_option maxRecDepth 100000 in
theorem Rn.loaded_c (vs v : Value) (s : List Kn.C) (L : List Dd.D) (w : World) (hT : Ty.Tabs w) (hs : Dd.Cols w vs s) (hv : Bk.Ds w v L) (hz : Bk.Zs L) (hi : ∀ d ∈ L, ∀ x ∈ d.row, Ty.I64 x.n) (h2 : L.length ≤ 200) :
 Calls Tryz.prog 13 #[vs, v] w (Rn.LdD w s L) := by
 have CW := Rn.pwrite_c vs v s L w hT hs hv hz hi h2
 have CL := Lib.hid fun (wz : World) (g : Below w.heap.size w wz) (h : Rn.wE s L = 0) => Rn.load_c vs s L wz (Ty.Tabs.below hT g (Ty.Tabs.two hT)) (hs.later g).kn h hi h2
 have HPB : Hid (∀ W, Below w.heap.size w W → Rn.wE s L ≠ 0 → Rn.LdD w s L (.returned (.pointer none)) W) := Lib.hid fun W g h => ⟨.inl ⟨h, rfl⟩, g⟩
 have HPG : Hid (∀ W p, Below w.heap.size w W → Rn.wE s L = 0 → Rn.P W p s L → Rn.LdD w s L (.returned (.pointer (some ⟨p, 0, none⟩))) W) := Lib.hid fun W p g h hp => ⟨.inr ⟨p, h, rfl, hp⟩, g⟩
 generalize Rn.LdD w s L = post at HPB HPG ⊢
 obtain ⟨a, c, rfl, -⟩ := hv
 obtain ⟨⟨sa, sc, rfl, -⟩, -⟩ := hs
 clear hT hz hi h2
 by_cases h0 : Rn.wE s L = 0
 ·rw [Rn.wV_ok h0] at CW
  have H0 := Lib.hid h0
  clear h0
  generalize Ty.S (Rn.enc s L) = T at CW CL
  go_enter Tryz.func13, Tryz.ntmps13
  go_wp2_with fail
  with_reducible refine CW.mono ?_
  rintro e w1 ⟨rfl, g1⟩
  have HG1 := Lib.hid g1
  clear g1 CW
  go_wp2_with fail
  with_reducible refine (CL.out w1 HG1.out H0.out).mono ?_
  rintro e w2 ⟨p, rfl, hp, g2⟩
  have HG2 : Hid (Below w.heap.size w w2) := Lib.hid (HG1.out.trans (g2.mono HG1.out.size))
  have HP := Lib.hid hp
  clear g2 hp
  go_wp2
  exact HPG.out _ _ HG2.out H0.out HP.out
 ·rw [Rn.wV_bad rfl h0] at CW
  have H0 := Lib.hid h0
  have hne : ¬ (Rn.wE s L : Int) = 0 := h0
  clear h0 CL
  generalize Rn.wE s L = E at CW HPB HPG H0 hne
  generalize Ty.S [] = T at CW
  go_enter Tryz.func13, Tryz.ntmps13
  go_wp2_with fail
  with_reducible refine CW.mono ?_
  rintro e w1 ⟨rfl, g1⟩
  have HG1 := Lib.hid g1
  clear g1 CW
  go_wp2
  exact HPB.out _ HG1.out H0.out
def Rn.tenL (k : Nat) : List Dd.D := (List.range k).map fun (i : Nat) => ⟨false, [Cl.ofN (i : Int)]⟩
theorem Rn.tenL_next (k : Nat) : Rn.tenL (k + 1) = Rn.tenL k ++ [⟨false, [Cl.ofN (k : Int)]⟩] := by unfold Rn.tenL; rw [List.range_succ, List.map_append]; rfl
theorem Rn.tenL_len (k : Nat) : (Rn.tenL k).length = k := by unfold Rn.tenL; simp
def Rn.Te (B : Nat) (W : World) (v : Value) (l : List Dd.D) : Prop := ∃ M, Dk.Own 41 2 Rn.e2 B W v M ∧ M.length = l.length ∧ ∀ (i : Nat) (x : Dd.D), l[i]? = some x → ∃ y : Bool × (Option Addr × Nat × Nat), M[i]? = some y ∧ y.1 = x.gone ∧ Sk.Rw B W (Bk.sv y.2) x.row
set_option maxHeartbeats 4000000 in
set_option maxRecDepth 100000 in
theorem Rn.ten_c (w : World) : Calls Tryz.prog 30 #[] w fun e w' => ∃ v, e = .returned v ∧ Bk.Ds w' v (Rn.tenL 10) ∧ Below w.heap.size w w' := by
 go_enter Tryz.func30, Tryz.ntmps30
 go_wp2_with fail
 go_loopw [1, 2] (fun v q wr => ∃ k : Nat, k ≤ 10 ∧ q = .int .i64 k ∧ Rn.Te w.heap.size wr v (Rn.tenL k) ∧ Below w.heap.size w wr) (fun _ q _ => 10 - (intOf q).toNat)
 case atStart => exact ⟨0, Nat.zero_le _, rfl, ⟨[], Dk.Own.nil _ _, rfl, fun i x hx => by simp [Rn.tenL] at hx⟩, Below.refl _ _⟩
 case round =>
  obtain ⟨k, hk, rfl, ⟨M, ho, hl, hx⟩, hg⟩ := hrel
  have HG := Lib.hid hg
  have HX := Lib.hid hx
  have HL := Lib.hid hl
  rw [Rn.tenL_len] at hl
  by_cases hkl : k < 10
  ·have HK := Lib.hid hkl
   have dk : (k : Int) < (10 : Int) := by omega
   have dk0 : (0 : Int) ≤ (k : Int) := by omega
   have HAL : Hid (Below wr.heap.size wr (wr.alloc (.cells #[.bool false, .int .i64 (k : Int), .string ⟨#[]⟩] 33))) := Lib.hid ((Below.refl _ _).alloc (Nat.le_refl _) _)
   have HO : Hid (Dk.Own 41 2 Rn.e2 w.heap.size (wr.alloc (.cells #[.bool false, .int .i64 (k : Int), .string ⟨#[]⟩] 33)) _ M) := Lib.hid (ho.kept HAL.out)
   have HR : Hid (Sk.Rw w.heap.size (wr.alloc (.cells #[.bool false, .int .i64 (k : Int), .string ⟨#[]⟩] 33)) (.slice (some ⟨wr.heap.size, 0, none⟩) 1 1) [Cl.ofN (k : Int)]) := Lib.hid (World.ownsRow_lit wr #[.bool false, .int .i64 (k : Int), .string ⟨#[]⟩] 1 hg.size (by decide) rfl)
   have HML : Hid (M.length ≤ 9) := Lib.hid (by omega)
   have HN := Lib.hid (Rn.tenL_next k)
   have HF : Hid (∀ (b : Nat) (cs : Array Value) w5 v5, Ty.Grew (wr.alloc (.cells #[.bool false, .int .i64 (k : Int), .string ⟨#[]⟩] 33)) w5 _ v5 → (wr.alloc (.cells #[.bool false, .int .i64 (k : Int), .string ⟨#[]⟩] 33)).heap[b]? = some (.cells cs 33 (0, 0)) → w5.heap[b]? = (wr.alloc (.cells #[.bool false, .int .i64 (k : Int), .string ⟨#[]⟩] 33)).heap[b]?) := Lib.hid fun b cs w5 v5 g hb => Rn.off HO.out g hb (by decide)
   clear hx hl ho hg hk hkl
   go_upto_region 5 with (fail)
   go_wp2_with (at_builtin; (refine Dk.wpList_append1 23 _ 32 Tryz.underlying23 Rn.infoD rfl (by decide) Rn.e2_len Rn.e2_one (false, (some ⟨wr.heap.size, 0, none⟩, 1, 1)) HO.out (by have := HG.out.size; have := HAL.out.size; omega) (by have := HML.out; omega) (by have := HML.out; omega) (wr.heap.size + 1) (by rw [World.size_alloc]) _ rfl (.tmp 7) (.tmp 12) (by rfl) (by rfl) (by rfl) (by rfl) ?_); intro v5 w5 h5 g5)
   have H5 := Lib.hid h5
   have HG5 := Lib.hid g5
   have HB5 : Hid (Below w.heap.size w w5) := Lib.hid ((HG.out.trans (HAL.out.mono HG.out.size)).trans (g5.below (by have := HG.out.size; have := HAL.out.size; omega) HO.out.base_le))
   clear h5 g5
   go_roundw
   case rel =>
    refine ⟨k + 1, HK.out, by simp, ⟨M ++ [(false, (some ⟨wr.heap.size, 0, none⟩, 1, 1))], H5.out, by rw [HN.out, List.length_append, List.length_append, HL.out]; rfl, fun i x hx => ?_⟩, HB5.out⟩
    have rows : ∀ (u : Value) (r : List Kn.V), Sk.Rw w.heap.size (wr.alloc (.cells #[.bool false, .int .i64 (k : Int), .string ⟨#[]⟩] 33)) u r → Sk.Rw w.heap.size w5 u r := fun u r h => h.same fun b hb => by
     obtain ⟨cs, hc⟩ := h.typed b hb
     exact HF.out b cs w5 _ HG5.out hc
    rw [HN.out, List.getElem?_append] at hx
    rw [List.getElem?_append, HL.out]
    split at hx
    ·rename_i hlt
     rw [if_pos hlt]
     obtain ⟨y, e1, e2, e3⟩ := HX.out i x hx
     exact ⟨y, e1, e2, rows _ _ (e3.kept HAL.out)⟩
    ·rename_i hlt
     rw [if_neg hlt]
     rw [List.getElem?_singleton] at hx ⊢
     split at hx
     ·rename_i h0
      rw [if_pos h0]
      obtain rfl := Option.some.inj hx
      exact ⟨_, rfl, rfl, rows _ _ HR.out⟩
     ·cases hx
   case measure => (have := HK.out; simp [intOf]; omega)
  ·obtain rfl : k = 10 := by omega
   have HD := Lib.hid (Rn.Ga.ds ho HL.out HX.out)
   clear hx hl ho hg hk hkl
   go_wp2
   go_ret
   exact ⟨_, rfl, HD.out, HG.out⟩
end Go.Proofs.YtbelkhkllneifaaGreatDoor

namespace Go.Proofs.YtbelkhkllneifaaGreatDoor
open Go Go.RowKit
theorem Rn.liveE : Rn.wE [⟨1, false⟩] (Rn.tenL 10) = 0 := by kernel_rfl
theorem Rn.liveT : Rn.th (Rn.tenL 10) (Cl.ofN 9) = true := by kernel_rfl
theorem Rn.liveA : Rn.at_ (Rn.tenL 10) (Cl.ofN 9) = 9 := by kernel_rfl
theorem Rn.liveL : (Rn.tenL 10)[9]? = some ⟨false, [Cl.ofN 9]⟩ := by kernel_rfl
theorem Rn.liveI {n : Nat} (hn : n ≤ 10) : ∀ d ∈ Rn.tenL n, ∀ x ∈ d.row, Ty.I64 x.n := by
 intro d hd x hx
 unfold Rn.tenL at hd
 obtain ⟨i, hi, rfl⟩ := List.mem_map.1 hd
 rw [List.mem_singleton] at hx
 subst hx
 have := List.mem_range.1 hi
 unfold Ty.I64 Cl.ofN
 dsimp only
 omega
theorem Rn.liveZ (n : Nat) : Bk.Zs (Rn.tenL n) := by
 intro d hd x hx
 unfold Rn.tenL at hd
 obtain ⟨i, hi, rfl⟩ := List.mem_map.1 hd
 rw [List.mem_singleton] at hx
 subst hx
 exact (show (0 : Nat) ≤ 140737488351232 by decide)
theorem Rn.liveC (w : World) : Dd.Cols (w.alloc (.cells #[.int .i64 1, .bool false] 76)) (.slice (some ⟨w.heap.size, 0, none⟩) 1 1) [⟨1, false⟩] := by
 refine ⟨⟨_, 1, rfl, .inr ⟨w.heap.size, 0, rfl, by simp, by simp, fun i x hx => ?_⟩⟩, fun a l c h => by cases h; exact Nat.le_refl _⟩
 have h0 : i = 0 := by
  have := (List.getElem?_eq_some_iff.1 hx).1
  simp at this
  omega
 subst h0
 obtain rfl : (⟨1, false⟩ : Kn.C) = x := by simpa using hx
 exact ⟨Kn.cell_new w _ _ 0 _ rfl, Kn.cell_new w _ _ 1 _ rfl⟩
set_option maxHeartbeats 4000000 in
set_option maxRecDepth 100000 in
theorem Rn.lives_c (w : World) (hT : Ty.Tabs w) : Calls Tryz.prog 9 #[] w fun e w' => e = .returned (.bool true) ∧ Below w.heap.size w w' := by
 have HG1 : Hid (Below w.heap.size w (w.alloc (.cells #[.int .i64 1, .bool false] 76))) := Lib.hid ((Below.refl _ w).alloc (Nat.le_refl _) _)
 have HC := Lib.hid (Rn.liveC w)
 have HT := Lib.hid hT
 clear hT
 go_enter Tryz.func9, Tryz.ntmps9
 go_upto_region 2 with (fail)
 obtain ⟨q, hq⟩ : ∃ q, q = w.heap.size := ⟨_, rfl⟩
 rw [← hq] at HC ⊢
 generalize w.alloc _ = w1 at HC HG1 ⊢
 clear hq
 go_wp2_with fail
 with_reducible refine (Rn.ten_c w1).mono ?_
 rintro e w2 ⟨v, rfl, hv, g2⟩
 have HG2 : Hid (Below w.heap.size w w2) := Lib.hid (HG1.out.trans (g2.mono HG1.out.size))
 have HC2 := Lib.hid (HC.out.later g2)
 have cw := Rn.pwrite_c _ _ _ _ w2 (Ty.Tabs.below HT.out HG2.out (Ty.Tabs.two HT.out)) HC2.out hv (Rn.liveZ 10) (Rn.liveI (Nat.le_refl _)) (by decide)
 rw [Rn.wV_ok Rn.liveE] at cw
 obtain ⟨va, vc, rfl, -⟩ := hv
 have CL := Lib.hid fun (wz : World) (g : Below w2.heap.size w2 wz) => Rn.load_c _ _ _ wz (Ty.Tabs.below HT.out (HG2.out.trans (g.mono HG2.out.size)) (Ty.Tabs.two HT.out)) (HC2.out.later g).kn Rn.liveE (Rn.liveI (Nat.le_refl _)) (by decide)
 generalize Ty.S (Rn.enc [⟨1, false⟩] (Rn.tenL 10)) = T at cw CL
 simp only [Rn.tenL_len] at cw ⊢
 clear g2
 go_wp2_with fail
 with_reducible refine cw.mono ?_
 rintro e w3 ⟨rfl, g3⟩
 have HG3 : Hid (Below w.heap.size w w3) := Lib.hid (HG2.out.trans (g3.mono HG2.out.size))
 have cl := CL.out w3 g3
 clear cw g3
 go_wp2_with fail
 with_reducible refine cl.mono ?_
 rintro e w4 ⟨p, rfl, hp, g4⟩
 have HG4 : Hid (Below w.heap.size w w4) := Lib.hid (HG3.out.trans (g4.mono HG3.out.size))
 have HP := Lib.hid hp
 have cg := Rn.get_c hp ⟨Rn.liveE, by decide⟩ (Cl.ofN 9)
 clear cl g4 hp CL HC HC2
 unfold Kn.V.val Cl.ofN at cg
 go_wp2_with fail
 with_reducible refine cg.mono ?_
 rintro e w5 ⟨hgot, g5⟩
 rw [show (⟨false, 9, ⟨#[]⟩⟩ : Kn.V) = Cl.ofN 9 from rfl, Rn.liveT, Rn.liveA, Rn.liveL] at hgot
 rcases hgot with ⟨h, _⟩ | ⟨d, a, n, c, _, hd, rfl, hu⟩
 ·cases h
 obtain rfl := Option.some.inj hd
 have HG5 : Hid (Below w.heap.size w w5) := Lib.hid (HG4.out.trans (g5.mono HG4.out.size))
 have HP5 := Lib.hid (HP.out.later g5)
 obtain ⟨w6, hw6⟩ : ∃ w6, w6 = w5.alloc (.cells #[.bool false, .slice a n c] 41) := ⟨_, rfl⟩
 have HAL : Hid (Below w5.heap.size w5 w6) := Lib.hid (by rw [hw6]; exact (Below.refl _ _).alloc (Nat.le_refl _) _)
 obtain ⟨⟨ua, uc, e, hv⟩⟩ := hu.later HAL.out
 clear hu
 simp only [Value.slice.injEq, List.length_singleton] at e
 obtain ⟨rfl, rfl, rfl⟩ := e
 rcases hv with h0 | ⟨b, o, rfl, hb, _, hc⟩
 ·exact absurd h0 (by simp)
 obtain ⟨e0, e1, e2⟩ := hc 0 _ rfl
 simp only [Nat.zero_mul, Nat.add_zero] at e0 e1 e2
 unfold Cl.ofN at e1
 have x1 := Kn.cell_new w5 #[.bool false, .slice (some ⟨b, o, none⟩) 1 c] 41 1 _ rfl
 simp only [List.getElem_toArray, List.getElem_cons_zero, List.getElem_cons_succ] at x1
 rw [← hw6] at x1
 have CB := Lib.hid (Rn.blocks_c (HP5.out.later HAL.out))
 have CN := Lib.hid (Rn.len_c (HP5.out.later HAL.out))
 rw [Rn.tenL_len] at CB CN
 have HG6 : Hid (Below w.heap.size w w6) := Lib.hid (HG5.out.trans (HAL.out.mono HG5.out.size))
 have h2 : Rn.nb 10 = 2 := by decide
 rw [h2] at CB
 clear cg g5 hd hb hc h2
 go_upto_region 7 with (fail)
 rw [← hw6]
 clear hw6
 go_wp2_with (first
  | (with_reducible refine CB.out.mono ?_; rintro e w7 ⟨rfl, hw7⟩; subst hw7)
  | (with_reducible refine CN.out.mono ?_; rintro e w7 ⟨rfl, hw7⟩; subst hw7))
 go_ret
 exact ⟨rfl, HG6.out⟩
end Go.Proofs.YtbelkhkllneifaaGreatDoor

namespace Go.Proofs.YtbelkhkllneifaaGreatDoor
open Go Go.RowKit
theorem Rn.grow {w w' w'' : World} (h : Below w.heap.size w w') (g : Below w'.heap.size w' w'') : Below w.heap.size w w'' := h.trans (g.mono h.size)
theorem Rn.tb2 {w w' : World} (h : Ty.Tabs w) (g : Below w.heap.size w w') : Ty.Tabs w' := Ty.Tabs.below h g (Ty.Tabs.two h)
theorem Rn.take_le {L : List Dd.D} : (L.take 200).length ≤ 200 := by rw [List.length_take]; omega
theorem Rn.zs_take {L : List Dd.D} (h : Bk.Zs L) (n : Nat) : Bk.Zs (L.take n) := fun d hd => h d (List.mem_of_mem_take hd)
theorem Rn.i64_take {L : List Dd.D} (h : ∀ d ∈ L, ∀ x ∈ d.row, Ty.I64 x.n) (n : Nat) : ∀ d ∈ L.take n, ∀ x ∈ d.row, Ty.I64 x.n := fun d hd => h d (List.mem_of_mem_take hd)
end Go.Proofs.YtbelkhkllneifaaGreatDoor

namespace Go.Proofs.YtbelkhkllneifaaGreatDoor
open Go Go.RowKit Go.Shelf
attribute [local go_sem] Oper.semAt_some
theorem Rn.Ga.ds_put {B n0 C N : Nat} {W : World} {l : List Dd.D} {v : Value} {M : List (Bool × (Option Addr × Nat × Nat))} (h3 : Dk.Own 41 2 Rn.e2 B W v M) (h4 : M.length = l.length)
 (h5 : ∀ (i : Nat) (x : Dd.D), l[i]? = some x → ∃ y : Bool × (Option Addr × Nat × Nat), M[i]? = some y ∧ y.1 = x.gone ∧ Sk.Rw n0 W (Bk.sv y.2) x.row) (hN : C ≤ N) (hK : W.heap[N]? = some (.deferred (some []))) : Bk.Ds (W.putObj N (.deferred none)) v l :=
 Rn.Ga.ds (Rn.own_put (B := C) (I := fun W => Dk.Own 41 2 Rn.e2 B W v M) (Rn.own_own C _ _ _) (.deferred none) h3 hN hK rfl) h4 fun i x hx => by
  obtain ⟨y, e1, e2, e3⟩ := h5 i x hx
  exact ⟨y, e1, e2, Rn.own_put (B := C) (I := fun W => Sk.Rw n0 W (Bk.sv y.2) x.row) (Rn.own_own C _ _ _) (.deferred none) e3 hN hK rfl⟩
set_option maxHeartbeats 8000000 in
set_option maxRecDepth 100000 in
theorem Rn.told_c {w : World} {p : Nat} {s : List Kn.C} {L : List Dd.D} (hP : Rn.P w p s L) (hg : Rn.Gd s L) :
 Calls Tryz.prog 16 #[.pointer (some ⟨p, 0, none⟩)] w fun e w' => ∃ v, e = .returned v ∧ Bk.Ds w' v L ∧ Below w.heap.size w w' := by
 obtain ⟨w1, hw1⟩ : ∃ w1, w1 = w.alloc (.cells #[.slice none 0 0] 23) := ⟨_, rfl⟩
 obtain ⟨q, hq⟩ : ∃ q, q = w.heap.size := ⟨_, rfl⟩
 have HB1 : Hid (Below w.heap.size w w1 ∧ w1.heap.size = q + 1 ∧ w1.heap[q]? = some (.cells #[.slice none 0 0] 23 (0, 0))) := Lib.hid (by
  rw [hw1, hq]
  exact ⟨(Below.refl _ w).alloc (Nat.le_refl _) _, by simp, heap_alloc_new w _⟩)
 have CR := Lib.hid (Rn.range_c hP HB1.out.1 hg ⟨false, false, Cl.ofN 0, Cl.ofN 0⟩)
 have HG := Lib.hid hg
 have HQ := Lib.hid hq
 clear hP hg
 unfold Rn.RangeD Cl.ofN Kn.R.val at CR
 rw [← callsIn_wide (n := 9)]
 refine callsIn_of_wp_marks Tryz.func16 rfl trivial ?_ rfl
 simp only [Tryz.ntmps16, List.size_toArray, List.length_cons, List.length_nil, Nat.reduceAdd, Nat.reduceSub, Array.replicate_succ, Array.replicate_zero, List.push_toArray, List.append_toArray, List.nil_append, List.cons_append]
 gi_upto_region 2 with (fail)
 rw [← hw1, ← hq]
 clear hw1 hq
 gi_wp2_with (refine ⟨trivial, ?_⟩; gi_at_call 21; refine (callsIn_wide.2 CR.out).mono ?_; rintro e w3 ⟨m, a, n, c, rfl, hm, hbm, hd, g3⟩)
 rw [show (⟨false, false, ⟨false, 0, ⟨#[]⟩⟩, ⟨false, 0, ⟨#[]⟩⟩⟩ : Kn.R) = ⟨false, false, Cl.ofN 0, Cl.ofN 0⟩ from rfl, Rn.in_all] at hd
 have HB3 : Hid (Below w.heap.size w w3) := Lib.hid (HB1.out.1.trans (g3.mono HB1.out.1.size))
 have HBM := Lib.hid hbm
 have HM : Hid (q + 1 ≤ m ∧ m < w3.heap.size) := Lib.hid ⟨by have := HB1.out.2.1; omega, (Array.getElem?_eq_some_iff.1 hbm).1⟩
 have HMT : Hid (∀ W, Rn.Kd (Rn.Dq q m m) w3 W → ∀ cs, W.heap[m]? ≠ some (.cells cs 41 (0, 0))) := Lib.hid fun W hk cs h => by
  rw [(hk.same m (.inr (.inl rfl)) HM.out.2).trans HBM.out] at h
  simp only [Option.some.injEq, Obj.cells.injEq] at h
  exact absurd h.2.1 (by decide)
 have H0 : Hid (w3.heap[q]? = some (.cells #[.slice none 0 0] 23 (0, 0))) := Lib.hid ((g3.block q (by have := HB1.out.2.1; omega)).trans HB1.out.2.2)
 have hseq := Rn.range1_seq (D := Rn.Dq q m m) hbm hd HB3.out (fun b hb => .inl (by have := HQ.out; omega)) (fun d hd => Rn.fit_s HG.out.rt (HG.out.ft d hd)) (by have := HG.out.few; omega)
 have HSEQ := Lib.hid hseq
 clear hm hbm hd g3 hseq CR
 refine Rn.range_w (gf := 49) rfl (enters_of Tryz.func49 (by kernel_rfl) rfl)
  HSEQ.out (Below.refl _ _) (fun b hb => by have := HM.out; have := HB3.out.size; have := HQ.out; rcases hb with hb | hb | hb <;> omega) (fun x args W he => by obtain ⟨u, rfl, _⟩ := he; rfl)
  (fun pre W => Rn.Ga q m m w3 q w3.heap.size w3.heap.size ([] ++ pre) W) (fun _ _ _ => False) (Rn.Ga.own [] (by have := HM.out; omega) HM.out.2 HM.out.2) (fun c s A' B' row h => h.elim) ⟨Rn.Kd.below (Below.refl _ _), .slice none 0 0, [], H0.out, Dk.Own.nil _ _, rfl, fun i x hx => by cases hx⟩
  (fun pre x a' W => ∃ (bx : Nat) (ua : Option Addr) (cu : Nat), a' = { tmps := #[.pointer (some ⟨p, 0, none⟩), undef, .slice none 0 0, .pointer (some ⟨q, 0, none⟩), .pointer (some ⟨bx, 0, none⟩), .pointer (some ⟨p, 0, none⟩), .agg #[.bool false, .bool false, .bool false, .int .i64 0, .string ⟨#[]⟩, .bool false, .int .i64 0, .string ⟨#[]⟩], .func (.func 49) #[] #[.pointer (some ⟨m, 0, none⟩)], .agg #[.bool x.gone, .slice ua x.row.length cu], undef, undef, undef, undef, undef], defers := [] } ∧ w3.heap.size ≤ bx ∧ W.heap[bx]? = some (.cells #[.bool x.gone, .slice ua x.row.length cu] 41 (0, 0)) ∧ Sk.Rw w3.heap.size W (.slice ua x.row.length cu) x.row ∧ Rn.Ga q m m w3 q w3.heap.size w3.heap.size ([] ++ pre) W) ?ownA ?assign ?body ?done ?stop
 case ownA =>
  rintro pre x a' u A' B' row ⟨bx, ua, cu, h0, hbx, hb, he, h1⟩ hg hr
  exact ⟨bx, ua, cu, h0, hbx, Rn.blk_own hb hg hr, Rn.own_own w3.heap.size _ _ _ () _ _ row he hg hr, Rn.Ga.own [] (by have := HM.out; omega) HM.out.2 HM.out.2 _ _ _ row h1 hg hr⟩
 case assign =>
  rintro l pre x args W hI ⟨u, rfl, hu⟩ hpx hbW
  obtain ⟨ua, cu, rfl⟩ : ∃ ua cu, u = .slice ua x.row.length cu := Rn.own_form hu
  have HI := Lib.hid hI
  have HU := Lib.hid hu
  have HW8 : Hid (w3.heap.size ≤ W.heap.size) := Lib.hid hbW.size
  clear hI hu hpx hbW
  gi_wp2
  have ha : Below W.heap.size W (W.alloc (.cells #[.bool x.gone, .slice ua x.row.length cu] 41)) := (Below.refl _ W).alloc (Nat.le_refl _) _
  exact ⟨ha, W.heap.size, ua, cu, by first | rfl | trivial | exact ⟨rfl, rfl, rfl⟩, HW8.out, heap_alloc_new W _, HU.out.kept ha, Rn.own_below (Rn.Ga.own [] (by have := HM.out; omega) HM.out.2 HM.out.2) HI.out ha⟩
 case body =>
  rintro l pre x a' W hl hlr ⟨bx, ua, cu, rfl, hbx, hbk, hu, hkd, v, M, h2, h3, h4, h5⟩ hpx hkw
  have HX9 : Hid (∀ w6 v6, Dk.Own 41 2 Rn.e2 w3.heap.size w6 v6 (M ++ [(x.gone, (ua, x.row.length, cu))]) → Ty.Grew W w6 v v6 → KeepsFrom w3.heap.size W (w6.setCell ⟨q, 0, none⟩ v6) ∧ Rn.Kd (Rn.Dq q m m) W (w6.setCell ⟨q, 0, none⟩ v6) ∧ Rn.Ga q m m w3 q w3.heap.size w3.heap.size ([] ++ (pre ++ [x])) (w6.setCell ⟨q, 0, none⟩ v6)) := Lib.hid fun w6 v6 ho hg =>
   Rn.Ga.step (C := w3.heap.size) (l := [] ++ pre) (by have := HM.out; omega) (Nat.le_refl _) (by have := HM.out; omega) (by have := HM.out; omega) (HMT.out W hkd) (HMT.out W hkd) hkd h2 h3 h4 h5 ho hg hu
  have HOW := Lib.hid h3
  have HBK := Lib.hid h2
  have HW3 : Hid (w3.heap.size ≤ W.heap.size) := Lib.hid hkd.size
  have HML : Hid (M.length < 200) := Lib.hid (by
   obtain ⟨t, ht⟩ := hpx
   have h9 : (pre ++ [x] ++ t).length = L.length := by rw [ht]
   have := HG.out.few
   simp only [List.length_append, List.length_singleton, List.nil_append] at h9 h4
   omega)
  obtain ⟨va, vn, vc, rfl⟩ := Rn.own_form3 h3
  have b0 : W.cell? ⟨q, 0, none⟩ = some (.slice va vn vc) := by rw [cell_of_row _ _ _ _ _ _ h2]; rfl
  have x0 : W.cell? ⟨bx, 0, none⟩ = some (.bool x.gone) := by rw [cell_of_row _ _ _ _ _ _ hbk]; rfl
  have x1 : W.cell? ⟨bx, 1, none⟩ = some (.slice ua x.row.length cu) := by rw [cell_of_row _ _ _ _ _ _ hbk]; rfl
  generalize x.gone = dg at x0 HX9 ⊢
  generalize x.row.length = dn at x1 HX9 ⊢
  clear hl hlr hbx hbk hu hkd h2 h3 h4 h5 hpx hkw
  gi_upto_region 4 with (fail)
  refine Rn.list_region (by kernel_rfl) ?_
  go_wp2_with (at_builtin; refine Dk.wpList_append1 23 _ 32 Tryz.underlying23 Rn.infoD rfl (by decide) Rn.e2_len Rn.e2_one (dg, (ua, dn, cu)) HOW.out HW3.out (by have := HML.out; omega) (by have := HML.out; omega) _ rfl _ rfl (.tmp 9) (.tmp 11) (by rfl) (by rfl) (by rfl) (by rfl) ?_; intro v6 w6 h6 g6; have hp6 := (Rn.off HOW.out g6 HBK.out (by decide)).trans HBK.out; have d0 := cell_of_row _ _ 0 _ _ _ hp6; have k0 := frozen_of_row _ _ 0 _ _ hp6; simp only [List.getElem?_toArray, List.getElem?_cons_zero] at d0; have HE := Lib.hid (HX9.out w6 v6 h6 g6); obtain ⟨v6a, v6n, v6c, hv6⟩ := Rn.own_form3 h6; clear h6 g6 hp6; subst hv6)
  clear b0 d0 k0 x0 x1
  refine Sk.Calm.normal ?_
  exact HE.out
 case stop =>
  rintro N c pre W hN hpre hne h hK
  exact h.elim
 case done =>
  rintro N W hN ⟨hkd, v, M, h2, h3, h4, h5⟩ hK
  have HD := Lib.hid (Rn.Ga.ds_put h3 h4 h5 hN hK)
  have b0 : W.cell? ⟨q, 0, none⟩ = some v := by rw [cell_of_row _ _ _ _ _ _ h2]; rfl
  have HBW : Hid (Below w.heap.size w W) := Lib.hid (HB3.out.trans (hkd.low (fun b hb => .inl (by have := HQ.out; omega)) HB3.out.size))
  have HK := Lib.hid (And.intro hN hK)
  obtain ⟨va, vn, vc, rfl⟩ := Rn.own_form3 h3
  clear hkd h2 h3 h4 h5 hN hK
  gi_wp2
  refine ⟨by simp, .inl ⟨_, _, rfl, run_takeDeferred HK.out.2, ?_⟩⟩
  refine ⟨_, results_tmp rfl _ _ _, _, rfl, ?_, HBW.out.trans (belowK_b (Nat.le_refl _) W N _ _ (by have := HB3.out.size; have := HK.out.1; omega) HK.out.2 rfl rfl)⟩
  exact HD.out
end Go.Proofs.YtbelkhkllneifaaGreatDoor
