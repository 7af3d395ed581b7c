import Derived.Test.YtikdcmplihgdcaaZAR
namespace Go.Proofs.Ytikdcmplihgdcaa
open Go Go.RowKit
set_option linter.unusedSimpArgs false
def Mg.Rel (w : World) (Ps : List (Option Addr × Nat × Nat)) (LL : List (List Dd.D)) : Prop := Ps.length = LL.length ∧ ∀ (i : Nat) (L : List Dd.D), LL[i]? = some L → ∃ p, Ps[i]? = some p ∧ Bk.Ds w (Bk.sv p) L
theorem Mg.Rel.later {w w' : World} {Ps : List (Option Addr × Nat × Nat)} {LL : List (List Dd.D)} (h : Mg.Rel w Ps LL) (g : Below w.heap.size w w') : Mg.Rel w' Ps LL :=
 ⟨h.1, fun i L hL => by
  obtain ⟨p, e, hd⟩ := h.2 i L hL
  exact ⟨p, e, hd.later g⟩⟩
theorem Mg.Rel.append {w : World} {Ps Qs : List (Option Addr × Nat × Nat)} {LL MM : List (List Dd.D)} (h : Mg.Rel w Ps LL) (k : Mg.Rel w Qs MM) : Mg.Rel w (Ps ++ Qs) (LL ++ MM) := by
 refine ⟨by rw [List.length_append, List.length_append, h.1, k.1], fun i L hL => ?_⟩
 rcases Nat.lt_or_ge i LL.length with hi | hi
 ·rw [List.getElem?_append_left hi] at hL
  obtain ⟨p, e, hd⟩ := h.2 i L hL
  exact ⟨p, by rw [List.getElem?_append_left (by rw [h.1]; exact hi)]; exact e, hd⟩
 ·rw [List.getElem?_append_right hi] at hL
  obtain ⟨p, e, hd⟩ := k.2 _ L hL
  exact ⟨p, by rw [List.getElem?_append_right (by rw [h.1]; exact hi), h.1]; exact e, hd⟩
theorem Mg.Rel.one {w : World} {p : Option Addr × Nat × Nat} {L : List Dd.D} (h : Bk.Ds w (Bk.sv p) L) : Mg.Rel w [p] [L] :=
 ⟨rfl, fun i M hM => by
  cases i with
  | zero => obtain rfl : L = M := by simpa using hM
            exact ⟨p, rfl, h⟩
  | succ i => simp at hM⟩
theorem Mg.Rel.nil (w : World) : Mg.Rel w [] [] := ⟨rfl, fun i M hM => by simp at hM⟩
def Mg.prk (R : Nat → Option Addr × Nat × Nat) (k n : Nat) : List (Option Addr × Nat × Nat) := (List.range (n - k)).map fun j => R (k + j)
theorem Mg.prk_len (R : Nat → Option Addr × Nat × Nat) (k n : Nat) : (Mg.prk R k n).length = n - k := by unfold Mg.prk; simp
theorem Mg.prk_at {R : Nat → Option Addr × Nat × Nat} {k n j : Nat} (h : j < n - k) : (Mg.prk R k n)[j]? = some (R (k + j)) := by
 unfold Mg.prk
 rw [List.getElem?_map, List.getElem?_range h]
 rfl
theorem Mg.rel_take {w : World} {R : Nat → Option Addr × Nat × Nat} {EE : List (List Dd.D)} {i : Nat} (hi : i ≤ EE.length) (h : ∀ i L, EE[i]? = some L → Bk.Ds w (Bk.sv (R i)) L) : Mg.Rel w (Mg.prs R i) (EE.take i) :=
 ⟨by rw [Mg.prs_len, List.length_take, Nat.min_eq_left hi], fun j L hL => by
  rw [List.getElem?_take] at hL
  split at hL
  ·next hj => exact ⟨R j, Mg.prs_at hj, h j L hL⟩
  ·cases hL⟩
theorem Mg.rel_drop {w : World} {R : Nat → Option Addr × Nat × Nat} {EE : List (List Dd.D)} {k : Nat} (h : ∀ i L, EE[i]? = some L → Bk.Ds w (Bk.sv (R i)) L) : Mg.Rel w (Mg.prk R k EE.length) (EE.drop k) :=
 ⟨by rw [Mg.prk_len, List.length_drop], fun j L hL => by
  rw [List.getElem?_drop] at hL
  have := (List.getElem?_eq_some_iff.1 hL).1
  exact ⟨R (k + j), Mg.prk_at (by omega), h _ L hL⟩⟩
theorem Mg.src_prk {w : World} {b k c n : Nat} {R : Nat → Option Addr × Nat × Nat} (h : ∀ i, i < n → w.cell? ⟨b, 0 + i, none⟩ = some (Bk.sv (R i))) : Dk.Src Bk.e1 w (.slice (some ⟨b, k, none⟩) (n - k) c) (Mg.prk R k n) :=
 .inr ⟨⟨b, k, none⟩, c, by rw [Mg.prk_len], Dk.src_cells Bk.e1_len (by decide) fun i j x hx hj => by
  have hi := (List.getElem?_eq_some_iff.1 hx).1
  rw [Mg.prk_len] at hi
  rw [Mg.prk_at hi] at hx
  obtain rfl : R (k + i) = x := by simpa using hx
  obtain rfl : j = 0 := by omega
  have := h (k + i) (by omega)
  rw [Nat.zero_add] at this
  rw [Nat.mul_one, Nat.add_zero, this]
  rfl⟩
theorem Mg.src_zero {w : World} {ad : Addr} {c m : Nat} (hm : m = 0) : Dk.Src Bk.e1 w (.slice (some ad) m c) [] := .inr ⟨ad, c, by rw [hm]; rfl, fun j y hy => by simp at hy⟩
theorem Mg.ls_sub {w : World} {b c : Nat} {EE : List (List Dd.D)} (h : Mg.Ls w (.slice (some ⟨b, 0, none⟩) EE.length c) EE) {i k : Nat} (hik : i ≤ k) (hk : k ≤ EE.length) : Mg.Ls w (.slice (some ⟨b, i, none⟩) (k - i) (c - i)) ((EE.drop i).take (k - i)) := by
 obtain ⟨a', c', e, h1, h2, h⟩ := h
 simp only [Value.slice.injEq] at e
 obtain ⟨rfl, -, rfl⟩ := e
 have hl : ((EE.drop i).take (k - i)).length = k - i := by rw [List.length_take, List.length_drop]; omega
 refine ⟨_, c - i, by rw [hl], by rw [hl]; omega, by omega, ?_⟩
 rcases h with h | ⟨b', o', e, hb, h⟩
 ·rw [h]; exact .inl (by simp)
 ·cases e
  refine .inr ⟨b, i, rfl, hb, fun j L hL => ?_⟩
  rw [List.getElem?_take] at hL
  split at hL
  ·rw [List.getElem?_drop] at hL
   obtain ⟨u, c0, hu⟩ := h (i + j) L hL
   rw [Nat.zero_add] at c0
   exact ⟨u, c0, hu⟩
  ·cases hL
theorem Mg.ls_none {w : World} {a : Option Addr} {n c : Nat} {B : List (List Dd.D)} (hB : B = []) (hn : n = 0) (hc : c ≤ 9223372036854775807) : Mg.Ls w (.slice a n c) B := by
 subst hB hn
 exact ⟨a, c, rfl, Nat.zero_le _, hc, .inl rfl⟩
theorem Mg.cut3 (EE : List (List Dd.D)) {i k : Nat} (h : i ≤ k) : EE.take i ++ ((EE.drop i).take (k - i) ++ EE.drop k) = EE := by
 rw [show EE.drop k = (EE.drop i).drop (k - i) by rw [List.drop_drop]; congr 1; omega, List.take_append_drop, List.take_append_drop]
theorem Mg.sz_app (A B : List (List Dd.D)) : Mg.sz (A ++ B) = Mg.sz A + Mg.sz B := by unfold Mg.sz; rw [List.map_append, List.sum_append]
theorem Mg.steps_facts {EE : List (List Dd.D)} (h : Mg.all EE = true) (hz : ∀ L ∈ EE, Bk.Zs L) (hs : Mg.sz EE ≤ 720) {i k : Nat} (hik : i ≤ k) :
 (∀ L ∈ (EE.drop i).take (k - i), Bk.Zs L) ∧ Mg.Fit ((EE.drop i).take (k - i)) ∧ Mg.err ((EE.drop i).take (k - i)) = 0 ∧ Mg.res ((EE.drop i).take (k - i)) = Mg.nw ((EE.drop i).take (k - i)) ∧
 (∀ L ∈ EE.take i ++ [Mg.nw ((EE.drop i).take (k - i))] ++ EE.drop k, Bk.Zs L) ∧ Mg.Fit (EE.take i ++ [Mg.nw ((EE.drop i).take (k - i))] ++ EE.drop k) ∧
 Mg.err (EE.take i ++ [Mg.nw ((EE.drop i).take (k - i))] ++ EE.drop k) = 0 ∧ Mg.res (EE.take i ++ [Mg.nw ((EE.drop i).take (k - i))] ++ EE.drop k) = Mg.nw EE := by
 have hc := Mg.cut3 EE hik
 generalize EE.take i = A at hc
 generalize (EE.drop i).take (k - i) = B at hc
 generalize EE.drop k = C at hc
 subst hc
 obtain ⟨h1, h2, h3⟩ := Mg.steps h
 have e9 : A ++ [Mg.nw B] ++ C = A ++ (Mg.nw B :: C) := by simp
 rw [e9]
 rw [Mg.sz_app, Mg.sz_app] at hs
 have hzB : ∀ L ∈ B, Bk.Zs L := fun L hL => hz L (by simp [hL])
 refine ⟨hzB, Mg.fit_of (by omega), by unfold Mg.err; rw [if_pos h1], by unfold Mg.res; rw [if_pos h1], fun L hL => ?_, Mg.fit_of ?_, by unfold Mg.err; rw [if_pos h2], by unfold Mg.res; rw [if_pos h2, h3]⟩
 ·rcases List.mem_append.1 hL with h4 | h4
  ·exact hz L (by simp [h4])
  ·rcases List.mem_cons.1 h4 with rfl | h4
   ·intro d hd
    obtain ⟨l, hl, hdl⟩ := Mg.mem_nw hd
    exact hzB l hl d hdl
   ·exact hz L (by simp [h4])
 ·rw [Mg.sz_app]
  have : Mg.sz (Mg.nw B :: C) = (Mg.nw B).length + Mg.sz C := by unfold Mg.sz; rw [List.map_cons, List.sum_cons]
  have := Mg.nw_len B
  omega
theorem Mg.rem_small (x : Int) (n : Nat) (hn : n ≤ 100) : ∃ i : Nat, i ≤ n ∧ wrap64 ((IntKind.u64.wrap x).tmod ((n : Int) + 1)) = (i : Int) := by
 have h0 : 0 ≤ IntKind.u64.wrap x := by rw [IntKind.wrap_u64]; omega
 rw [Int.tmod_eq_emod_of_nonneg h0]
 have h1 := Int.emod_nonneg (IntKind.u64.wrap x) (show (n : Int) + 1 ≠ 0 by omega)
 have h2 := Int.emod_lt_of_pos (IntKind.u64.wrap x) (show (0 : Int) < (n : Int) + 1 by omega)
 generalize IntKind.u64.wrap x % ((n : Int) + 1) = y at h1 h2
 refine ⟨y.toNat, by omega, ?_⟩
 unfold wrap64
 omega
set_option maxHeartbeats 16000000 in
set_option maxRecDepth 100000 in
theorem Mg.steps_w (v : Value) (LL : List (List Dd.D)) (fm tw : Int) (w : World) (hv : Mg.Ls w v LL) (hz : ∀ L ∈ LL, Bk.Zs L) :
 Calls Try.prog 6 #[v, .int .i64 fm, .int .i64 tw] w fun e w' => e = .returned (.bool true) ∧ Below w.heap.size w w' := by
 have HV := Lib.hid hv
 have HZ := Lib.hid (Mg.early_zs hz)
 have HE := Lib.hid (Mg.early_sz LL)
 have HEA := Lib.hid (Mg.early_len LL)
 have CE := Lib.hid fun (W : World) (g : Below w.heap.size w W) => Mg.earlyF_c _ LL W (HV.out.later g)
 obtain ⟨a, c, rfl, -, -, -⟩ := hv
 generalize Mg.early LL = EE at HZ HE HEA CE
 clear hz
 go_enter Try.func6, Try.ntmps6
 go_wp2_with fail
 refine (Mg.lives_c w).mono ?_
 rintro e w1 ⟨rfl, g1⟩
 have HG1 := Lib.hid g1
 have CE1 := Lib.hid (CE.out w1 g1)
 clear g1
 go_wp2_with fail
 refine (CE1.out).mono ?_
 rintro e w2 ⟨u, rfl, hu, g2, hform⟩
 have HG2 := Lib.hid (Mg.grow HG1.out g2)
 have HU := Lib.hid hu
 have HFM := Lib.hid hform
 obtain ⟨a2, c2, rfl, hlc, -, -⟩ := hu
 have HLC := Lib.hid hlc
 clear g2 hlc hform
 go_wp2_with fail
 refine (Mg.newest_c _ EE w2 HU.out HZ.out (Mg.fit_of (by have := HE.out; omega))).mono ?_
 rintro e w3 ⟨x, rfl, hx, g3⟩
 have HG3 := Lib.hid (Mg.grow HG2.out g3)
 have HU3 := Lib.hid (HU.out.later g3)
 clear g3 HU
 obtain ⟨al, hal⟩ : ∃ al, al = Mg.all EE := ⟨_, rfl⟩
 obtain ⟨e1, e2⟩ := Mg.all_of hal.symm
 rw [e2] at hx
 rw [e1]
 clear e1 e2
 cases al
 ·have HX := Lib.hid hx
  obtain ⟨a3, c3, rfl, -, -, -⟩ := hx
  simp only [Bool.false_eq_true, if_false]
  go_wp2
  go_ret
  exact ⟨rfl, HG3.out⟩
 ·simp only [if_true] at hx ⊢
  have HX := Lib.hid hx
  obtain ⟨a3, c3, rfl, -, -, -⟩ := hx
  have HAL : Hid (Mg.all EE = true) := Lib.hid hal.symm
  clear hal
  have hl12 : EE.length ≤ 12 := by have := HEA.out; omega
  have HNL : Hid (EE.length = EE.length) := Lib.hid rfl
  obtain ⟨N, hN⟩ : ∃ N, N = EE.length := ⟨_, rfl⟩
  have HNN := Lib.hid hN
  rw [← hN] at hl12 ⊢
  have hlc9 := HLC.out
  rw [← hN] at hlc9
  clear hN HNL
  have hn1 : (N : Int) ≤ 12 := by omega
  have hn0 : (0 : Int) ≤ (N : Int) := by omega
  go_upto_region 8 with (fail)
  obtain ⟨i, hi, hix⟩ := Mg.rem_small fm N (by omega)
  rw [hix]
  have HI := Lib.hid hi
  have hi0 : (0 : Int) ≤ (i : Int) := by omega
  have hi1 : (i : Int) ≤ 12 := by omega
  have hni : (0 : Int) ≤ (N : Int) - (i : Int) := by omega
  clear hix
  go_upto_region 9 with (fail)
  obtain ⟨m, hm, hmx⟩ := Mg.rem_small tw (N - i) (by omega)
  rw [show (((N - i : Nat) : Int) + 1) = (N : Int) - (i : Int) + 1 by omega] at hmx
  rw [hmx]
  obtain ⟨k, hk⟩ : ∃ k, k = i + m := ⟨_, rfl⟩
  have hwk : wrap64 ((i : Int) + (m : Int)) = (k : Int) := by unfold wrap64; omega
  rw [hwk]
  have HIK : Hid (i ≤ k ∧ k ≤ N) := Lib.hid (by omega)
  clear hmx hwk hm hk hi
  have hik := HIK.out
  have hlc2 := hlc9
  have hk0 : (0 : Int) ≤ (k : Int) := by omega
  have hki : (i : Int) ≤ (k : Int) := by omega
  have hkc : (k : Int) ≤ (c2 : Int) := by omega
  have hic : (i : Int) ≤ (c2 : Int) := by omega
  have HCL : Hid (N ≤ c2) := Lib.hid hlc9
  clear hik hlc2 hlc9
  obtain ⟨g1, g2, g3, g4, g5, g6, g7, g8⟩ := Mg.steps_facts HAL.out HZ.out HE.out HIK.out.1
  have HF1 := Lib.hid g1
  have HF2 := Lib.hid g2
  have HF3 := Lib.hid (And.intro g3 g4)
  have HF4 := Lib.hid g5
  have HF5 := Lib.hid g6
  have HF6 := Lib.hid (And.intro g7 g8)
  obtain ⟨R, hR, hRV⟩ := HU3.out.lr
  have HRA := Lib.hid (Mg.rel_take (i := i) (by have := HIK.out; have := HNN.out; omega) hRV)
  have HRC := Lib.hid (Mg.rel_drop (k := k) hRV)
  have HPA : Hid ((Mg.prs R i).length ≤ 12) := Lib.hid (by rw [Mg.prs_len]; have := HIK.out; omega)
  have HPC : Hid ((Mg.prk R k EE.length).length ≤ 12) := Lib.hid (by rw [Mg.prk_len]; have := HNN.out; omega)
  have HUB : Hid (i ≤ k ∧ k ≤ EE.length) := Lib.hid (by have := HIK.out; have := HNN.out; omega)
  clear g1 g2 g3 g4 g5 g6 g7 g8 hRV
  rcases HFM.out with ⟨h1, h2⟩ | ⟨b, c9, h1⟩
  ·simp only [Value.slice.injEq] at h1
   obtain ⟨rfl, -, rfl⟩ := h1
   have hN0 : N = 0 := by rw [HNN.out, h2]; rfl
   obtain rfl : N = 0 := hN0
   obtain rfl : k = 0 := by have := HIK.out; omega
   obtain rfl : i = 0 := by have := HIK.out; omega
   have HLSB : Hid (Mg.Ls w3 (.slice none 0 0) ((EE.drop 0).take (0 - 0))) := Lib.hid (Mg.ls_none (by simp) rfl (by decide))
   have HSA : Hid (∀ W, Below w3.heap.size w3 W → Dk.Src Bk.e1 W (.slice none 0 0) (Mg.prs R 0)) := Lib.hid fun W _ => .inl ⟨rfl, rfl⟩
   have HSC : Hid (∀ W, Below w3.heap.size w3 W → Dk.Src Bk.e1 W (.slice none 0 0) (Mg.prk R 0 EE.length)) := Lib.hid fun W _ => .inl ⟨rfl, by rw [h2]; rfl⟩
   clear hR h2
   generalize Mg.prs R 0 = PSA at HSA HRA HPA
   generalize Mg.prk R 0 EE.length = PSC at HSC HRC HPC
   go_wp2_with fail
   refine (Mg.newest_c _ _ w3 HLSB.out HF1.out HF2.out).mono ?_
   rintro e w4 ⟨y, rfl, hy, g4⟩
   rw [HF3.out.2] at hy
   rw [HF3.out.1]
   have HG4 := Lib.hid (Mg.grow HG3.out g4)
   have HX4 := Lib.hid (HX.out.later g4)
   have HRA4 := Lib.hid (HRA.out.later g4)
   have HRC4 := Lib.hid (HRC.out.later g4)
   have HSA4 := Lib.hid fun (W : World) (g : Below w4.heap.size w4 W) => HSA.out W (Mg.grow g4 g)
   have HSC4 := Lib.hid fun (W : World) (g : Below w4.heap.size w4 W) => HSC.out W (Mg.grow g4 g)
   obtain ⟨⟨ya, yn, yc⟩, rfl, -, -, -⟩ := Mg.ds_parts hy
   have HRB4 := Lib.hid (Mg.Rel.one hy)
   have HFIN := Lib.hid fun (W : World) (v : Value) (g : Below w4.heap.size w4 W) (h : Dk.Own 25 1 Bk.e1 w4.heap.size W v (PSA ++ [(ya, yn, yc)] ++ PSC)) => (Mg.own_ls h (((HRA4.out.append HRB4.out).append HRC4.out).later g).1 (((HRA4.out.append HRB4.out).append HRC4.out).later g).2 : Mg.Ls W v _)
   simp only [Bk.sv]
   have HDW : Hid (Below w4.heap.size w4 w4.drew) := Lib.hid (Below.refl _ w4).drew
   generalize EE.take 0 ++ [Mg.nw ((EE.drop 0).take (0 - 0))] ++ EE.drop 0 = L9 at HFIN HF4 HF5 HF6
   have hpa := HPA.out
   have hpc := HPC.out
   clear hy g4 HX HRA HRC HSA HSC
   generalize Mg.nw EE = M9 at HX4 HF6 ⊢
   go_upto_region 10 with (fail)
   go_region_held3 (fun W => Below w4.heap.size w4 W)
    (first
    | exact HDW.out
    | exact HDW.out.alloc HDW.out.size _
    | exact HB58.out
    | exact HB58.out.alloc HB58.out.size _
    | exact HB61.out
    | exact HB65.out
    | exact HB66.out)
    (first
    | (refine Dk.step_appendB (enc := Bk.e1) 22 _ 24 Try.underlying22 Rn.infoB rfl (by decide) Bk.e1_len Bk.e1_one PSA (base := w4.heap.size) HDW.out.size (Dk.Own.nil _ _) (by simp only [List.length_append, List.length_singleton, List.length_nil]; omega) (by simp only [List.length_append, List.length_singleton, List.length_nil]; omega) _ _ _ (by rfl) (by rfl) (by rfl) (by rfl) (HSA4.out _ HDW.out) ?_; intro v58 w58 o58 g58; have H58 := Lib.hid (And.intro o58 g58); have HB58 := Lib.hid (Mg.grow_nil HDW.out g58); clear o58 g58)
    | (refine Dk.step_appendB (enc := Bk.e1) 22 _ 24 Try.underlying22 Rn.infoB rfl (by decide) Bk.e1_len Bk.e1_one PSA (base := w4.heap.size) (HDW.out.alloc HDW.out.size _).size (Dk.Own.nil _ _) (by simp only [List.length_append, List.length_singleton, List.length_nil]; omega) (by simp only [List.length_append, List.length_singleton, List.length_nil]; omega) _ _ _ (by rfl) (by rfl) (by rfl) (by rfl) (HSA4.out _ (HDW.out.alloc HDW.out.size _)) ?_; intro v58 w58 o58 g58; have H58 := Lib.hid (And.intro o58 g58); have HB58 := Lib.hid (Mg.grow_nil (HDW.out.alloc HDW.out.size _) g58); clear o58 g58)
    | (refine Dk.step_appendB (enc := Bk.e1) 22 _ 24 Try.underlying22 Rn.infoB rfl (by decide) Bk.e1_len Bk.e1_one [(ya, yn, yc)] (base := w4.heap.size) (HB58.out.alloc HB58.out.size _).size (World.ownsRow.alloc H58.out.1 _) (by simp only [List.length_append, List.length_singleton, List.length_nil]; omega) (by simp only [List.length_append, List.length_singleton, List.length_nil]; omega) _ _ _ (by rfl) (by rfl) (by rfl) (by rfl) (Dk.src_cell (Dk.cell_new rfl)) ?_; intro v61 w61 o61 g61; have H61 := Lib.hid o61; have HB61 := Lib.hid (Dk.own_below (HB58.out.alloc HB58.out.size _) (World.ownsRow.alloc H58.out.1 _) g61); clear o61 g61)
    | (refine Dk.step_appendB (enc := Bk.e1) 22 _ 24 Try.underlying22 Rn.infoB rfl (by decide) Bk.e1_len Bk.e1_one [(ya, yn, yc)] (base := w4.heap.size) HB58.out.size H58.out.1 (by simp only [List.length_append, List.length_singleton, List.length_nil]; omega) (by simp only [List.length_append, List.length_singleton, List.length_nil]; omega) _ _ _ (by rfl) (by rfl) (by rfl) (by rfl) (Dk.src_cell (fun j y hj => Dk.cell_kept H58.out.2 (Dk.cell_new rfl j y hj))) ?_; intro v61 w61 o61 g61; have H61 := Lib.hid o61; have HB61 := Lib.hid (Dk.own_below HB58.out H58.out.1 g61); clear o61 g61)
    | (refine Dk.step_appendB (enc := Bk.e1) 22 _ 24 Try.underlying22 Rn.infoB rfl (by decide) Bk.e1_len Bk.e1_one PSC (base := w4.heap.size) HB61.out.size H61.out (by simp only [List.length_append, List.length_singleton, List.length_nil]; omega) (by simp only [List.length_append, List.length_singleton, List.length_nil]; omega) _ _ _ (by rfl) (by rfl) (by rfl) (by rfl) (HSC4.out _ HB61.out) ?_; intro v65 w65 o65 g65; have HB65 := Lib.hid (Dk.own_below HB61.out H61.out g65); have HLS := Lib.hid (HFIN.out _ _ HB65.out o65); clear o65 g65)
    | (go_at_call 11; (with_reducible refine (Mg.newest_c _ _ _ HLS.out HF4.out HF5.out).mono ?_); rintro e w66 ⟨z, rfl, hz, g66⟩; have HZZ := Lib.hid hz; have HB66 := Lib.hid (Mg.grow HB65.out g66); clear hz g66))
   all_goals
    rw [HF6.out.1]
    have hz := HZZ.out
    rw [HF6.out.2] at hz
    have HSM := Lib.hid (Bk.rsame_c _ _ _ w66 (HX4.out.later HB66.out) hz)
    have HG6 := Lib.hid (Mg.grow HG4.out HB66.out)
    obtain ⟨za, zc, rfl, -, -, -⟩ := hz
    clear HDW hpa hpc
    go_wp2_with fail
    refine (HSM.out).mono ?_
    rintro e w7 ⟨rfl, g7⟩
    have HG7 := Lib.hid (Mg.grow HG6.out g7)
    clear g7
    go_wp2
    go_ret
    exact ⟨rfl, HG7.out⟩
  ·simp only [Value.slice.injEq] at h1
   obtain ⟨rfl, -, rfl⟩ := h1
   obtain ⟨a9, c9, e9, -, -, h9⟩ := hR
   simp only [Value.slice.injEq] at e9
   obtain ⟨rfl, -, rfl⟩ := e9
   have HC : Hid (∀ W, Below w3.heap.size w3 W → ∀ j, j < EE.length → W.cell? ⟨b, 0 + j, none⟩ = some (Bk.sv (R j))) := Lib.hid fun W g j hj => by
    rcases h9 with h9 | ⟨b', o', e, hlt, hc⟩
    ·rw [h9] at hj; simp at hj
    ·cases e
     exact (g.cell (p := ⟨b, 0 + j, none⟩) hlt).trans (hc j _ (List.getElem?_eq_getElem hj))
   have HSA : Hid (∀ W, Below w3.heap.size w3 W → Dk.Src Bk.e1 W (.slice (some ⟨b, 0, none⟩) i c2) (Mg.prs R i)) := Lib.hid fun W g => Mg.src_prs fun j hj => HC.out W g j (by have := HUB.out; omega)
   clear h9
   by_cases hci : c2 = i
   ·subst hci
    obtain rfl : N = c2 := by have := HIK.out; have := HCL.out; omega
    obtain rfl : k = N := by have := HIK.out; omega
    have HLSB : Hid (Mg.Ls w3 (.slice (some ⟨b, 0, none⟩) 0 0) ((EE.drop k).take (k - k))) := Lib.hid (Mg.ls_none (by simp) rfl (by decide))
    have HSC : Hid (∀ W, Below w3.heap.size w3 W → Dk.Src Bk.e1 W (.slice (some ⟨b, 0, none⟩) 0 0) (Mg.prk R k EE.length)) := Lib.hid fun W _ => by
     have e : Mg.prk R k EE.length = [] := List.eq_nil_of_length_eq_zero (by rw [Mg.prk_len, ← HNN.out]; omega)
     rw [e]
     exact Mg.src_zero rfl
    clear HC
    generalize Mg.prs R k = PSA at HSA HRA HPA
    generalize Mg.prk R k EE.length = PSC at HSC HRC HPC
    go_wp2_with fail
    refine (Mg.newest_c _ _ w3 HLSB.out HF1.out HF2.out).mono ?_
    rintro e w4 ⟨y, rfl, hy, g4⟩
    rw [HF3.out.2] at hy
    rw [HF3.out.1]
    have HG4 := Lib.hid (Mg.grow HG3.out g4)
    have HX4 := Lib.hid (HX.out.later g4)
    have HRA4 := Lib.hid (HRA.out.later g4)
    have HRC4 := Lib.hid (HRC.out.later g4)
    have HSA4 := Lib.hid fun (W : World) (g : Below w4.heap.size w4 W) => HSA.out W (Mg.grow g4 g)
    have HSC4 := Lib.hid fun (W : World) (g : Below w4.heap.size w4 W) => HSC.out W (Mg.grow g4 g)
    obtain ⟨⟨ya, yn, yc⟩, rfl, -, -, -⟩ := Mg.ds_parts hy
    have HRB4 := Lib.hid (Mg.Rel.one hy)
    have HFIN := Lib.hid fun (W : World) (v : Value) (g : Below w4.heap.size w4 W) (h : Dk.Own 25 1 Bk.e1 w4.heap.size W v (PSA ++ [(ya, yn, yc)] ++ PSC)) => (Mg.own_ls h (((HRA4.out.append HRB4.out).append HRC4.out).later g).1 (((HRA4.out.append HRB4.out).append HRC4.out).later g).2 : Mg.Ls W v _)
    simp only [Bk.sv]
    have HDW : Hid (Below w4.heap.size w4 w4.drew) := Lib.hid (Below.refl _ w4).drew
    generalize EE.take k ++ [Mg.nw ((EE.drop k).take (k - k))] ++ EE.drop k = L9 at HFIN HF4 HF5 HF6
    have hpa := HPA.out
    have hpc := HPC.out
    clear hy g4 HX HRA HRC HSA HSC
    generalize Mg.nw EE = M9 at HX4 HF6 ⊢
    go_upto_region 10 with (fail)
    go_region_held3 (fun W => Below w4.heap.size w4 W)
     (first
     | exact HDW.out
     | exact HDW.out.alloc HDW.out.size _
     | exact HB58.out
     | exact HB58.out.alloc HB58.out.size _
     | exact HB61.out
     | exact HB65.out
     | exact HB66.out)
     (first
     | (refine Dk.step_appendB (enc := Bk.e1) 22 _ 24 Try.underlying22 Rn.infoB rfl (by decide) Bk.e1_len Bk.e1_one PSA (base := w4.heap.size) HDW.out.size (Dk.Own.nil _ _) (by simp only [List.length_append, List.length_singleton, List.length_nil]; omega) (by simp only [List.length_append, List.length_singleton, List.length_nil]; omega) _ _ _ (by rfl) (by rfl) (by rfl) (by rfl) (HSA4.out _ HDW.out) ?_; intro v58 w58 o58 g58; have H58 := Lib.hid (And.intro o58 g58); have HB58 := Lib.hid (Mg.grow_nil HDW.out g58); clear o58 g58)
     | (refine Dk.step_appendB (enc := Bk.e1) 22 _ 24 Try.underlying22 Rn.infoB rfl (by decide) Bk.e1_len Bk.e1_one PSA (base := w4.heap.size) (HDW.out.alloc HDW.out.size _).size (Dk.Own.nil _ _) (by simp only [List.length_append, List.length_singleton, List.length_nil]; omega) (by simp only [List.length_append, List.length_singleton, List.length_nil]; omega) _ _ _ (by rfl) (by rfl) (by rfl) (by rfl) (HSA4.out _ (HDW.out.alloc HDW.out.size _)) ?_; intro v58 w58 o58 g58; have H58 := Lib.hid (And.intro o58 g58); have HB58 := Lib.hid (Mg.grow_nil (HDW.out.alloc HDW.out.size _) g58); clear o58 g58)
     | (refine Dk.step_appendB (enc := Bk.e1) 22 _ 24 Try.underlying22 Rn.infoB rfl (by decide) Bk.e1_len Bk.e1_one [(ya, yn, yc)] (base := w4.heap.size) (HB58.out.alloc HB58.out.size _).size (World.ownsRow.alloc H58.out.1 _) (by simp only [List.length_append, List.length_singleton, List.length_nil]; omega) (by simp only [List.length_append, List.length_singleton, List.length_nil]; omega) _ _ _ (by rfl) (by rfl) (by rfl) (by rfl) (Dk.src_cell (Dk.cell_new rfl)) ?_; intro v61 w61 o61 g61; have H61 := Lib.hid o61; have HB61 := Lib.hid (Dk.own_below (HB58.out.alloc HB58.out.size _) (World.ownsRow.alloc H58.out.1 _) g61); clear o61 g61)
     | (refine Dk.step_appendB (enc := Bk.e1) 22 _ 24 Try.underlying22 Rn.infoB rfl (by decide) Bk.e1_len Bk.e1_one [(ya, yn, yc)] (base := w4.heap.size) HB58.out.size H58.out.1 (by simp only [List.length_append, List.length_singleton, List.length_nil]; omega) (by simp only [List.length_append, List.length_singleton, List.length_nil]; omega) _ _ _ (by rfl) (by rfl) (by rfl) (by rfl) (Dk.src_cell (fun j y hj => Dk.cell_kept H58.out.2 (Dk.cell_new rfl j y hj))) ?_; intro v61 w61 o61 g61; have H61 := Lib.hid o61; have HB61 := Lib.hid (Dk.own_below HB58.out H58.out.1 g61); clear o61 g61)
     | (refine Dk.step_appendB (enc := Bk.e1) 22 _ 24 Try.underlying22 Rn.infoB rfl (by decide) Bk.e1_len Bk.e1_one PSC (base := w4.heap.size) HB61.out.size H61.out (by simp only [List.length_append, List.length_singleton, List.length_nil]; omega) (by simp only [List.length_append, List.length_singleton, List.length_nil]; omega) _ _ _ (by rfl) (by rfl) (by rfl) (by rfl) (HSC4.out _ HB61.out) ?_; intro v65 w65 o65 g65; have HB65 := Lib.hid (Dk.own_below HB61.out H61.out g65); have HLS := Lib.hid (HFIN.out _ _ HB65.out o65); clear o65 g65)
     | (go_at_call 11; (with_reducible refine (Mg.newest_c _ _ _ HLS.out HF4.out HF5.out).mono ?_); rintro e w66 ⟨z, rfl, hz, g66⟩; have HZZ := Lib.hid hz; have HB66 := Lib.hid (Mg.grow HB65.out g66); clear hz g66))
    all_goals
     rw [HF6.out.1]
     have hz := HZZ.out
     rw [HF6.out.2] at hz
     have HSM := Lib.hid (Bk.rsame_c _ _ _ w66 (HX4.out.later HB66.out) hz)
     have HG6 := Lib.hid (Mg.grow HG4.out HB66.out)
     obtain ⟨za, zc, rfl, -, -, -⟩ := hz
     clear HDW hpa hpc
     go_wp2_with fail
     refine (HSM.out).mono ?_
     rintro e w7 ⟨rfl, g7⟩
     have HG7 := Lib.hid (Mg.grow HG6.out g7)
     clear g7
     go_wp2
     go_ret
     exact ⟨rfl, HG7.out⟩
   ·by_cases hck : c2 = k
    ·have HLSB : Hid (Mg.Ls w3 (.slice (some ⟨b, i, none⟩) (k - i) (c2 - i)) ((EE.drop i).take (k - i))) := Lib.hid (by
      have h := HU3.out
      exact Mg.ls_sub h HUB.out.1 HUB.out.2)
     obtain rfl : c2 = k := hck
     obtain rfl : N = c2 := by have := HIK.out; have := HCL.out; omega
     have HSC : Hid (∀ W, Below w3.heap.size w3 W → Dk.Src Bk.e1 W (.slice (some ⟨b, 0, none⟩) 0 0) (Mg.prk R N EE.length)) := Lib.hid fun W _ => by
      have e : Mg.prk R N EE.length = [] := List.eq_nil_of_length_eq_zero (by rw [Mg.prk_len, ← HNN.out]; omega)
      rw [e]
      exact Mg.src_zero rfl
     clear HC
     generalize Mg.prs R i = PSA at HSA HRA HPA
     generalize Mg.prk R N EE.length = PSC at HSC HRC HPC
     go_wp2_with fail
     refine (Mg.newest_c _ _ w3 HLSB.out HF1.out HF2.out).mono ?_
     rintro e w4 ⟨y, rfl, hy, g4⟩
     rw [HF3.out.2] at hy
     rw [HF3.out.1]
     have HG4 := Lib.hid (Mg.grow HG3.out g4)
     have HX4 := Lib.hid (HX.out.later g4)
     have HRA4 := Lib.hid (HRA.out.later g4)
     have HRC4 := Lib.hid (HRC.out.later g4)
     have HSA4 := Lib.hid fun (W : World) (g : Below w4.heap.size w4 W) => HSA.out W (Mg.grow g4 g)
     have HSC4 := Lib.hid fun (W : World) (g : Below w4.heap.size w4 W) => HSC.out W (Mg.grow g4 g)
     obtain ⟨⟨ya, yn, yc⟩, rfl, -, -, -⟩ := Mg.ds_parts hy
     have HRB4 := Lib.hid (Mg.Rel.one hy)
     have HFIN := Lib.hid fun (W : World) (v : Value) (g : Below w4.heap.size w4 W) (h : Dk.Own 25 1 Bk.e1 w4.heap.size W v (PSA ++ [(ya, yn, yc)] ++ PSC)) => (Mg.own_ls h (((HRA4.out.append HRB4.out).append HRC4.out).later g).1 (((HRA4.out.append HRB4.out).append HRC4.out).later g).2 : Mg.Ls W v _)
     simp only [Bk.sv]
     have HDW : Hid (Below w4.heap.size w4 w4.drew) := Lib.hid (Below.refl _ w4).drew
     generalize EE.take i ++ [Mg.nw ((EE.drop i).take (N - i))] ++ EE.drop N = L9 at HFIN HF4 HF5 HF6
     have hpa := HPA.out
     have hpc := HPC.out
     clear hy g4 HX HRA HRC HSA HSC
     generalize Mg.nw EE = M9 at HX4 HF6 ⊢
     go_upto_region 10 with (fail)
     go_region_held3 (fun W => Below w4.heap.size w4 W)
      (first
      | exact HDW.out
      | exact HDW.out.alloc HDW.out.size _
      | exact HB58.out
      | exact HB58.out.alloc HB58.out.size _
      | exact HB61.out
      | exact HB65.out
      | exact HB66.out)
      (first
      | (refine Dk.step_appendB (enc := Bk.e1) 22 _ 24 Try.underlying22 Rn.infoB rfl (by decide) Bk.e1_len Bk.e1_one PSA (base := w4.heap.size) HDW.out.size (Dk.Own.nil _ _) (by simp only [List.length_append, List.length_singleton, List.length_nil]; omega) (by simp only [List.length_append, List.length_singleton, List.length_nil]; omega) _ _ _ (by rfl) (by rfl) (by rfl) (by rfl) (HSA4.out _ HDW.out) ?_; intro v58 w58 o58 g58; have H58 := Lib.hid (And.intro o58 g58); have HB58 := Lib.hid (Mg.grow_nil HDW.out g58); clear o58 g58)
      | (refine Dk.step_appendB (enc := Bk.e1) 22 _ 24 Try.underlying22 Rn.infoB rfl (by decide) Bk.e1_len Bk.e1_one PSA (base := w4.heap.size) (HDW.out.alloc HDW.out.size _).size (Dk.Own.nil _ _) (by simp only [List.length_append, List.length_singleton, List.length_nil]; omega) (by simp only [List.length_append, List.length_singleton, List.length_nil]; omega) _ _ _ (by rfl) (by rfl) (by rfl) (by rfl) (HSA4.out _ (HDW.out.alloc HDW.out.size _)) ?_; intro v58 w58 o58 g58; have H58 := Lib.hid (And.intro o58 g58); have HB58 := Lib.hid (Mg.grow_nil (HDW.out.alloc HDW.out.size _) g58); clear o58 g58)
      | (refine Dk.step_appendB (enc := Bk.e1) 22 _ 24 Try.underlying22 Rn.infoB rfl (by decide) Bk.e1_len Bk.e1_one [(ya, yn, yc)] (base := w4.heap.size) (HB58.out.alloc HB58.out.size _).size (World.ownsRow.alloc H58.out.1 _) (by simp only [List.length_append, List.length_singleton, List.length_nil]; omega) (by simp only [List.length_append, List.length_singleton, List.length_nil]; omega) _ _ _ (by rfl) (by rfl) (by rfl) (by rfl) (Dk.src_cell (Dk.cell_new rfl)) ?_; intro v61 w61 o61 g61; have H61 := Lib.hid o61; have HB61 := Lib.hid (Dk.own_below (HB58.out.alloc HB58.out.size _) (World.ownsRow.alloc H58.out.1 _) g61); clear o61 g61)
      | (refine Dk.step_appendB (enc := Bk.e1) 22 _ 24 Try.underlying22 Rn.infoB rfl (by decide) Bk.e1_len Bk.e1_one [(ya, yn, yc)] (base := w4.heap.size) HB58.out.size H58.out.1 (by simp only [List.length_append, List.length_singleton, List.length_nil]; omega) (by simp only [List.length_append, List.length_singleton, List.length_nil]; omega) _ _ _ (by rfl) (by rfl) (by rfl) (by rfl) (Dk.src_cell (fun j y hj => Dk.cell_kept H58.out.2 (Dk.cell_new rfl j y hj))) ?_; intro v61 w61 o61 g61; have H61 := Lib.hid o61; have HB61 := Lib.hid (Dk.own_below HB58.out H58.out.1 g61); clear o61 g61)
      | (refine Dk.step_appendB (enc := Bk.e1) 22 _ 24 Try.underlying22 Rn.infoB rfl (by decide) Bk.e1_len Bk.e1_one PSC (base := w4.heap.size) HB61.out.size H61.out (by simp only [List.length_append, List.length_singleton, List.length_nil]; omega) (by simp only [List.length_append, List.length_singleton, List.length_nil]; omega) _ _ _ (by rfl) (by rfl) (by rfl) (by rfl) (HSC4.out _ HB61.out) ?_; intro v65 w65 o65 g65; have HB65 := Lib.hid (Dk.own_below HB61.out H61.out g65); have HLS := Lib.hid (HFIN.out _ _ HB65.out o65); clear o65 g65)
      | (go_at_call 11; (with_reducible refine (Mg.newest_c _ _ _ HLS.out HF4.out HF5.out).mono ?_); rintro e w66 ⟨z, rfl, hz, g66⟩; have HZZ := Lib.hid hz; have HB66 := Lib.hid (Mg.grow HB65.out g66); clear hz g66))
     all_goals
      rw [HF6.out.1]
      have hz := HZZ.out
      rw [HF6.out.2] at hz
      have HSM := Lib.hid (Bk.rsame_c _ _ _ w66 (HX4.out.later HB66.out) hz)
      have HG6 := Lib.hid (Mg.grow HG4.out HB66.out)
      obtain ⟨za, zc, rfl, -, -, -⟩ := hz
      clear HDW hpa hpc
      go_wp2_with fail
      refine (HSM.out).mono ?_
      rintro e w7 ⟨rfl, g7⟩
      have HG7 := Lib.hid (Mg.grow HG6.out g7)
      clear g7
      go_wp2
      go_ret
      exact ⟨rfl, HG7.out⟩
    ·have HLSB : Hid (Mg.Ls w3 (.slice (some ⟨b, i, none⟩) (k - i) (c2 - i)) ((EE.drop i).take (k - i))) := Lib.hid (by
      have h := HU3.out
      exact Mg.ls_sub h HUB.out.1 HUB.out.2)
     have HSC : Hid (∀ W, Below w3.heap.size w3 W → Dk.Src Bk.e1 W (.slice (some ⟨b, k, none⟩) (N - k) (c2 - k)) (Mg.prk R k EE.length)) := Lib.hid fun W g => by
      rw [HNN.out]
      exact Mg.src_prk fun j hj => HC.out W g j hj
     clear HC
     generalize Mg.prs R i = PSA at HSA HRA HPA
     generalize Mg.prk R k EE.length = PSC at HSC HRC HPC
     go_wp2_with fail
     refine (Mg.newest_c _ _ w3 HLSB.out HF1.out HF2.out).mono ?_
     rintro e w4 ⟨y, rfl, hy, g4⟩
     rw [HF3.out.2] at hy
     rw [HF3.out.1]
     have HG4 := Lib.hid (Mg.grow HG3.out g4)
     have HX4 := Lib.hid (HX.out.later g4)
     have HRA4 := Lib.hid (HRA.out.later g4)
     have HRC4 := Lib.hid (HRC.out.later g4)
     have HSA4 := Lib.hid fun (W : World) (g : Below w4.heap.size w4 W) => HSA.out W (Mg.grow g4 g)
     have HSC4 := Lib.hid fun (W : World) (g : Below w4.heap.size w4 W) => HSC.out W (Mg.grow g4 g)
     obtain ⟨⟨ya, yn, yc⟩, rfl, -, -, -⟩ := Mg.ds_parts hy
     have HRB4 := Lib.hid (Mg.Rel.one hy)
     have HFIN := Lib.hid fun (W : World) (v : Value) (g : Below w4.heap.size w4 W) (h : Dk.Own 25 1 Bk.e1 w4.heap.size W v (PSA ++ [(ya, yn, yc)] ++ PSC)) => (Mg.own_ls h (((HRA4.out.append HRB4.out).append HRC4.out).later g).1 (((HRA4.out.append HRB4.out).append HRC4.out).later g).2 : Mg.Ls W v _)
     simp only [Bk.sv]
     have HDW : Hid (Below w4.heap.size w4 w4.drew) := Lib.hid (Below.refl _ w4).drew
     have hkN : (k : Int) ≤ (N : Int) := by have := HIK.out; omega
     have hNc : (N : Int) ≤ (c2 : Int) := by have := HCL.out; omega
     have hck2 : ¬ (c2 : Int) = (k : Int) := by omega
     have hck3 : ¬ c2 - k = 0 := by have := HIK.out; have := HCL.out; omega
     generalize EE.take i ++ [Mg.nw ((EE.drop i).take (k - i))] ++ EE.drop k = L9 at HFIN HF4 HF5 HF6
     have hpa := HPA.out
     have hpc := HPC.out
     clear hy g4 HX HRA HRC HSA HSC
     generalize Mg.nw EE = M9 at HX4 HF6 ⊢
     go_upto_region 10 with (fail)
     go_region_held3 (fun W => Below w4.heap.size w4 W)
      (first
      | exact HDW.out
      | exact HDW.out.alloc HDW.out.size _
      | exact HB58.out
      | exact HB58.out.alloc HB58.out.size _
      | exact HB61.out
      | exact HB65.out
      | exact HB66.out)
      (first
      | (refine Dk.step_appendB (enc := Bk.e1) 22 _ 24 Try.underlying22 Rn.infoB rfl (by decide) Bk.e1_len Bk.e1_one PSA (base := w4.heap.size) HDW.out.size (Dk.Own.nil _ _) (by simp only [List.length_append, List.length_singleton, List.length_nil]; omega) (by simp only [List.length_append, List.length_singleton, List.length_nil]; omega) _ _ _ (by rfl) (by rfl) (by rfl) (by rfl) (HSA4.out _ HDW.out) ?_; intro v58 w58 o58 g58; have H58 := Lib.hid (And.intro o58 g58); have HB58 := Lib.hid (Mg.grow_nil HDW.out g58); clear o58 g58)
      | (refine Dk.step_appendB (enc := Bk.e1) 22 _ 24 Try.underlying22 Rn.infoB rfl (by decide) Bk.e1_len Bk.e1_one PSA (base := w4.heap.size) (HDW.out.alloc HDW.out.size _).size (Dk.Own.nil _ _) (by simp only [List.length_append, List.length_singleton, List.length_nil]; omega) (by simp only [List.length_append, List.length_singleton, List.length_nil]; omega) _ _ _ (by rfl) (by rfl) (by rfl) (by rfl) (HSA4.out _ (HDW.out.alloc HDW.out.size _)) ?_; intro v58 w58 o58 g58; have H58 := Lib.hid (And.intro o58 g58); have HB58 := Lib.hid (Mg.grow_nil (HDW.out.alloc HDW.out.size _) g58); clear o58 g58)
      | (refine Dk.step_appendB (enc := Bk.e1) 22 _ 24 Try.underlying22 Rn.infoB rfl (by decide) Bk.e1_len Bk.e1_one [(ya, yn, yc)] (base := w4.heap.size) (HB58.out.alloc HB58.out.size _).size (World.ownsRow.alloc H58.out.1 _) (by simp only [List.length_append, List.length_singleton, List.length_nil]; omega) (by simp only [List.length_append, List.length_singleton, List.length_nil]; omega) _ _ _ (by rfl) (by rfl) (by rfl) (by rfl) (Dk.src_cell (Dk.cell_new rfl)) ?_; intro v61 w61 o61 g61; have H61 := Lib.hid o61; have HB61 := Lib.hid (Dk.own_below (HB58.out.alloc HB58.out.size _) (World.ownsRow.alloc H58.out.1 _) g61); clear o61 g61)
      | (refine Dk.step_appendB (enc := Bk.e1) 22 _ 24 Try.underlying22 Rn.infoB rfl (by decide) Bk.e1_len Bk.e1_one [(ya, yn, yc)] (base := w4.heap.size) HB58.out.size H58.out.1 (by simp only [List.length_append, List.length_singleton, List.length_nil]; omega) (by simp only [List.length_append, List.length_singleton, List.length_nil]; omega) _ _ _ (by rfl) (by rfl) (by rfl) (by rfl) (Dk.src_cell (fun j y hj => Dk.cell_kept H58.out.2 (Dk.cell_new rfl j y hj))) ?_; intro v61 w61 o61 g61; have H61 := Lib.hid o61; have HB61 := Lib.hid (Dk.own_below HB58.out H58.out.1 g61); clear o61 g61)
      | (refine Dk.step_appendB (enc := Bk.e1) 22 _ 24 Try.underlying22 Rn.infoB rfl (by decide) Bk.e1_len Bk.e1_one PSC (base := w4.heap.size) HB61.out.size H61.out (by simp only [List.length_append, List.length_singleton, List.length_nil]; omega) (by simp only [List.length_append, List.length_singleton, List.length_nil]; omega) _ _ _ (by rfl) (by rfl) (by rfl) (by rfl) (HSC4.out _ HB61.out) ?_; intro v65 w65 o65 g65; have HB65 := Lib.hid (Dk.own_below HB61.out H61.out g65); have HLS := Lib.hid (HFIN.out _ _ HB65.out o65); clear o65 g65)
      | (go_at_call 11; (with_reducible refine (Mg.newest_c _ _ _ HLS.out HF4.out HF5.out).mono ?_); rintro e w66 ⟨z, rfl, hz, g66⟩; have HZZ := Lib.hid hz; have HB66 := Lib.hid (Mg.grow HB65.out g66); clear hz g66))
     all_goals
      rw [HF6.out.1]
      have hz := HZZ.out
      rw [HF6.out.2] at hz
      have HSM := Lib.hid (Bk.rsame_c _ _ _ w66 (HX4.out.later HB66.out) hz)
      have HG6 := Lib.hid (Mg.grow HG4.out HB66.out)
      obtain ⟨za, zc, rfl, -, -, -⟩ := hz
      clear HDW hpa hpc
      go_wp2_with fail
      refine (HSM.out).mono ?_
      rintro e w7 ⟨rfl, g7⟩
      have HG7 := Lib.hid (Mg.grow HG6.out g7)
      clear g7
      go_wp2
      go_ret
      exact ⟨rfl, HG7.out⟩
end Go.Proofs.Ytikdcmplihgdcaa
