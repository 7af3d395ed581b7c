import Derived.Test.YtikdcmplihgdcaaZAP
import Derived.Deep.RegionHeld3
namespace Go.Proofs.Ytikdcmplihgdcaa
open Go Go.RowKit
structure Mg.G2 (w0 W : World) (v u : Value) (Ps : List (Option Addr × Nat × Nat)) (Es : List Mg.Y) : Prop where
 o : Dk.Own 25 1 Bk.e1 w0.heap.size W v Ps
 r : Dk.Own 41 2 Rn.e2 w0.heap.size W u Es
 ne : ∀ b g, v.ownBlock = some b → u.ownBlock = some g → b ≠ g
 bw : Below w0.heap.size w0 W
theorem Mg.G2.kept {w0 W W' : World} {v u : Value} {Ps : List (Option Addr × Nat × Nat)} {Es : List Mg.Y} (h : Mg.G2 w0 W v u Ps Es) (g : Below W.heap.size W W') : Mg.G2 w0 W' v u Ps Es := ⟨h.o.kept g, h.r.kept g, h.ne, h.bw.trans (g.mono h.bw.size)⟩
theorem Mg.G2.put {w0 W : World} {v u : Value} {Ps : List (Option Addr × Nat × Nat)} {Es : List Mg.Y} (h : Mg.G2 w0 W v u Ps Es) (x : Obj) : Mg.G2 w0 (W.alloc x) v u Ps Es := h.kept ((Below.refl _ W).alloc (Nat.le_refl _) x)
theorem Mg.G2.first {w0 W1 W2 W3 : World} {v u : Value} {Ps : List (Option Addr × Nat × Nat)} {Es : List Mg.Y} (hb : Below w0.heap.size w0 W1) (h : Dk.Own 25 1 Bk.e1 W1.heap.size W2 v Ps ∧ Ty.Grew W1 W2 (.slice none 0 0) v)
 (k : Dk.Own 41 2 Rn.e2 W2.heap.size W3 u Es ∧ Below W2.heap.size W2 W3) : Mg.G2 w0 W3 v u Ps Es := by
 have g : Below W1.heap.size W1 W2 := h.2.below (Nat.le_refl _) fun k hk => by simp [Value.ownBlock] at hk
 have hb2 := hb.trans (g.mono hb.size)
 refine ⟨(Mg.own_mono h.1 hb.size).kept k.2, Mg.own_mono k.1 hb2.size, fun b c hv hu => ?_, hb2.trans (k.2.mono hb2.size)⟩
 have := h.1.lt b hv
 have := k.1.base_le c hu
 omega
theorem Mg.G2.behind {w0 W1 W2 : World} {v u : Value} {Ps : List (Option Addr × Nat × Nat)} {Es : List Mg.Y} (hb : Below w0.heap.size w0 W1) (k : Dk.Own 41 2 Rn.e2 w0.heap.size W1 u Es) (h : Dk.Own 25 1 Bk.e1 W1.heap.size W2 v Ps ∧ Ty.Grew W1 W2 (.slice none 0 0) v) : Mg.G2 w0 W2 v u Ps Es := by
 have g : Below W1.heap.size W1 W2 := h.2.below (Nat.le_refl _) fun k hk => by simp [Value.ownBlock] at hk
 refine ⟨Mg.own_mono h.1 hb.size, k.kept g, fun b c hv hu => ?_, hb.trans (g.mono hb.size)⟩
 have := k.lt c hu
 have := h.1.base_le b hv
 omega
theorem Mg.G2.grown {w0 W W' : World} {v v' u : Value} {Ps Ps' : List (Option Addr × Nat × Nat)} {Es : List Mg.Y} (h : Mg.G2 w0 W v u Ps Es) (o : Dk.Own 25 1 Bk.e1 w0.heap.size W' v' Ps') (g : Ty.Grew W W' v v') : Mg.G2 w0 W' v' u Ps' Es := by
 refine ⟨o, h.r.same fun b hb => g.by_.block b (h.r.lt b hb) fun e => h.ne b b e.symm hb rfl, fun b c hv hu => ?_, Dk.own_below h.bw h.o g⟩
 rcases g.own with e | ⟨k, e, hk⟩
 ·exact h.ne b c (e ▸ hv) hu
 ·rw [e] at hv
  obtain rfl : k = b := by simpa using hv
  have := h.r.lt c hu
  omega
theorem Mg.grow {w w' w'' : World} (h : Below w.heap.size w w') (g : Below w'.heap.size w' w'') : Below w.heap.size w w'' := h.trans (g.mono h.size)
theorem Mg.grow_nil {w0 W W' : World} {v : Value} (hb : Below w0.heap.size w0 W) (g : Ty.Grew W W' (.slice none 0 0) v) : Below w0.heap.size w0 W' :=
 hb.trans (g.below hb.size fun k hk => by simp [Value.ownBlock] at hk)
def Mg.prs (R : Nat → Option Addr × Nat × Nat) (n : Nat) : List (Option Addr × Nat × Nat) := (List.range n).map R
theorem Mg.prs_len (R : Nat → Option Addr × Nat × Nat) (n : Nat) : (Mg.prs R n).length = n := by unfold Mg.prs; simp
theorem Mg.prs_at {R : Nat → Option Addr × Nat × Nat} {n i : Nat} (h : i < n) : (Mg.prs R n)[i]? = some (R i) := by
 unfold Mg.prs
 rw [List.getElem?_map, List.getElem?_range h]
 rfl
theorem Mg.gone_ls {w0 W : World} {v : Value} {u : Option Addr × Nat × Nat} {R : Nat → Option Addr × Nat × Nat} {A : List (List Dd.D)} {l : List Dd.D} {Es : List Mg.Y} (h : Mg.G2 w0 W v (Bk.sv u) (Mg.prs R A.length ++ [u]) Es) (hr : ∀ i L, A[i]? = some L → Bk.Ds w0 (Bk.sv (R i)) L) (hu : Mg.Rd W Es l) : Mg.Ls W v (A ++ [l]) := by
 refine Mg.own_ls h.o (by rw [List.length_append, List.length_append, Mg.prs_len]; rfl) fun i L hL => ?_
 rcases Nat.lt_or_ge i A.length with hi | hi
 ·rw [List.getElem?_append_left hi] at hL
  exact ⟨R i, by rw [List.getElem?_append_left (by rw [Mg.prs_len]; exact hi)]; exact Mg.prs_at hi, (hr i L hL).later h.bw⟩
 ·rw [List.getElem?_append_right hi] at hL
  cases hq : i - A.length with
  | zero =>
    rw [hq] at hL
    obtain rfl : l = L := by simpa using hL
    exact ⟨u, by rw [List.getElem?_append_right (by rw [Mg.prs_len]; exact hi), Mg.prs_len, hq]; rfl, Mg.own_rd h.r hu (Below.refl _ _)⟩
  | succ q => rw [hq] at hL; simp at hL
theorem Mg.src_prs {w : World} {b o c n : Nat} {R : Nat → Option Addr × Nat × Nat} (h : ∀ i, i < n → w.cell? ⟨b, o + i, none⟩ = some (Bk.sv (R i))) : Dk.Src Bk.e1 w (.slice (some ⟨b, o, none⟩) n c) (Mg.prs R n) :=
 .inr ⟨⟨b, o, none⟩, c, by rw [Mg.prs_len], Dk.src_cells Bk.e1_len (by decide) fun i j x hx hj => by
  have hi := (List.getElem?_eq_some_iff.1 hx).1
  rw [Mg.prs_len] at hi
  rw [Mg.prs_at hi] at hx
  obtain rfl : R i = x := by simpa using hx
  obtain rfl : j = 0 := by omega
  rw [Nat.mul_one, Nat.add_zero, h i hi]
  rfl⟩
theorem Mg.early_ne {LL : List (List Dd.D)} (h : LL ≠ []) : ∃ A l, Mg.early LL = A ++ [l] := by
 have hl := Mg.early_len LL
 have := List.length_pos_iff.2 h
 have hne : Mg.early LL ≠ [] := fun e => by rw [e, List.length_nil] at hl; omega
 exact ⟨_, _, (List.dropLast_concat_getLast hne).symm⟩
set_option maxHeartbeats 16000000 in
set_option maxRecDepth 100000 in
theorem Mg.gone_w (v : Value) (LL : List (List Dd.D)) (w : World) (hv : Mg.Ls w v LL) (hz : ∀ L ∈ LL, Bk.Zs L) (hrr : ∀ L ∈ LL, Mg.Rl L) :
 Calls Try.prog 7 #[v] w fun e w' => e = .returned (.bool true) ∧ Below w.heap.size w w' := by
 have HV := Lib.hid hv
 have HZ := Lib.hid (Mg.early_zs hz)
 have HRR : Hid (∀ L ∈ Mg.early LL, Mg.Rl L) := Lib.hid fun L hL => by
  obtain ⟨i, hi, e⟩ := List.getElem_of_mem hL
  obtain ⟨M, hM, rfl⟩ := Mg.early_at (by rw [List.getElem?_eq_getElem hi, e])
  exact fun d hd => hrr M (List.mem_of_getElem? hM) d (List.mem_of_mem_take hd)
 by_cases hne : LL = []
 ·subst hne
  obtain ⟨a, c, rfl, -, -, -⟩ := hv
  simp only [List.length_nil]
  clear hz hrr HRR
  go_enter Try.func7, Try.ntmps7
  go_wp2_with fail
  refine (Mg.lives_c w).mono ?_
  rintro e w1 ⟨rfl, g1⟩
  have HG1 := Lib.hid g1
  clear g1
  go_wp2_with fail
  refine (Mg.lives_c w1).mono ?_
  rintro e w2 ⟨rfl, g2⟩
  have HG2 := Lib.hid (HG1.out.trans (g2.mono HG1.out.size))
  clear g2
  go_wp2
  go_ret
  exact ⟨rfl, HG2.out⟩
 ·obtain ⟨a, c, rfl, -, -, -⟩ := hv
  have hll : ((LL.length : Int) == 0) = false := by
   rw [beq_eq_false_iff_ne]
   have := List.length_pos_iff.2 hne
   omega
  obtain ⟨A, l, hA⟩ := Mg.early_ne hne
  have HE := Lib.hid (Mg.early_sz LL)
  have HEA := Lib.hid (Mg.early_len LL)
  have CE := Lib.hid fun (W : World) (g : Below w.heap.size w W) => Mg.early_c _ LL W (HV.out.later g)
  rw [hA] at HE HEA HZ CE HRR
  clear hz hA hne hrr
  go_enter Try.func7, Try.ntmps7
  go_wp2_with fail
  refine (Mg.lives_c w).mono ?_
  rintro e w1 ⟨rfl, g1⟩
  have HG1 := Lib.hid g1
  have CE1 := Lib.hid (CE.out w1 g1)
  clear g1
  go_wp2_with fail
  refine (CE1.out).mono ?_
  rintro e w2 ⟨u, rfl, hu, g2⟩
  have HG2 := Lib.hid (HG1.out.trans (g2.mono HG1.out.size))
  have HU := Lib.hid hu
  obtain ⟨a2, c2, rfl, -, -, -⟩ := hu
  clear g2
  rw [show (A ++ [l]).length = A.length + 1 by rw [List.length_append]; rfl] at HU HEA ⊢
  go_wp2_with fail
  refine (Mg.newest_c _ (A ++ [l]) w2 HU.out HZ.out (Mg.fit_of (by have := HE.out; omega))).mono ?_
  rintro e w3 ⟨x, rfl, hx, g3⟩
  have HG3 := Lib.hid (HG2.out.trans (g3.mono HG2.out.size))
  have HU3 := Lib.hid (HU.out.later g3)
  clear g3 HU
  obtain ⟨al, hal⟩ : ∃ al, al = Mg.all (A ++ [l]) := ⟨_, rfl⟩
  obtain ⟨e1, e2⟩ := Mg.all_of hal.symm
  rw [e2] at hx
  rw [e1]
  clear e1 e2
  cases al
  ·have HX := Lib.hid hx
   obtain ⟨a3, c3, rfl, -, -, -⟩ := hx
   simp only [Bool.false_eq_true, if_false]
   go_wp2
   go_ret
   exact ⟨rfl, HG3.out⟩
  ·simp only [if_true] at hx ⊢
   have HX := Lib.hid hx
   obtain ⟨a3, c3, rfl, -, -, -⟩ := hx
   obtain ⟨R, ⟨a9, c9, e9, hlc, -, h9⟩, hRV⟩ := HU3.out.lr
   simp only [Value.slice.injEq] at e9
   obtain ⟨rfl, -, rfl⟩ := e9
   have hcc : A.length + 1 ≤ c2 := by rw [List.length_append] at hlc; exact hlc
   clear hlc
   rcases h9 with h9 | ⟨b, o, rfl, hlt, hc⟩
   ·simp at h9
   have HC : Hid (∀ W, Below w3.heap.size w3 W → ∀ i, i < A.length + 1 → W.cell? ⟨b, o + i, none⟩ = some (Bk.sv (R i))) := Lib.hid fun W g i hi => by
    have hx : (A ++ [l])[i]? = some ((A ++ [l])[i]'(by rw [List.length_append]; exact hi)) := List.getElem?_eq_getElem _
    exact (g.cell (p := ⟨b, o + i, none⟩) hlt).trans (hc i _ hx)
   have hds := hRV A.length l (by rw [List.getElem?_append_right (Nat.le_refl _), Nat.sub_self]; rfl)
   have HRV : Hid (∀ (i : Nat) (L : List Dd.D), A[i]? = some L → Bk.Ds w3 (Bk.sv (R i)) L) := Lib.hid fun i L hL => hRV i L (by rw [List.getElem?_append_left (List.getElem?_eq_some_iff.1 hL).1]; exact hL)
   have HSRC := Lib.hid fun (W : World) (g : Below w3.heap.size w3 W) => Mg.src_prs (c := c2) fun i hi => HC.out W g i (Nat.lt_succ_of_lt hi)
   have HGO := Lib.hid (Mg.gone hal.symm)
   have HLL : Hid (l.length ≤ 720 ∧ Mg.sz A + l.length ≤ 720) := Lib.hid (by
    have h1 := HE.out
    unfold Mg.sz at h1 ⊢
    rw [List.map_append, List.sum_append] at h1
    simp only [List.map_cons, List.map_nil, List.sum_cons, List.sum_nil] at h1
    omega)
   have HNW := Lib.hid fun (W : World) (u : Value) (h : Mg.Ls W u (A ++ [Mg.live l])) => Mg.newest_c u (A ++ [Mg.live l]) W h (fun L hL => by
    rcases List.mem_append.1 hL with h1 | h1
    ·exact HZ.out L (List.mem_append_left _ h1)
    ·obtain rfl : L = Mg.live l := by simpa using h1
     exact fun d hd => HZ.out l (by simp) d (Mg.mem_live.1 hd).1) (Mg.fit_of (by
    have h1 := HLL.out
    have h2 : (Mg.live l).length ≤ l.length := List.length_filter_le ..
    unfold Mg.sz at h1 ⊢
    rw [List.map_append, List.sum_append]
    simp only [List.map_cons, List.map_nil, List.sum_cons, List.sum_nil]
    omega))
   obtain ⟨e1, e2⟩ := Mg.all_of HGO.out.1
   rw [if_pos rfl] at e1 e2
   have HGLS := Lib.hid fun (W : World) (v : Value) (u : Option Addr × Nat × Nat) (Es : List Mg.Y) (h : Mg.G2 w3 W v (Bk.sv u) (Mg.prs R A.length ++ [u]) Es) (hu : Mg.Rd W Es (Mg.live l)) => Mg.gone_ls h HRV.out hu
   have HLEN : Hid ((Mg.prs R A.length).length ≤ 12) := Lib.hid (by rw [Mg.prs_len]; have := HEA.out; omega)
   have HAN : Hid (A.length ≤ 11) := Lib.hid (by have := HEA.out; omega)
   generalize Mg.prs R A.length = PS at HSRC HGLS HLEN
   have HML : Hid ((Mg.nw (A ++ [l])).length ≤ 4398046511104 ∧ (Mg.nw (A ++ [Mg.live l])).length ≤ 4398046511104) := Lib.hid (by
    have h1 := Mg.nw_len (A ++ [l])
    have h2 := Mg.nw_len (A ++ [Mg.live l])
    have h3 := HE.out
    have h4 := HLL.out
    have h5 : (Mg.live l).length ≤ l.length := List.length_filter_le ..
    have h6 : Mg.sz (A ++ [Mg.live l]) ≤ 720 := by
     unfold Mg.sz at h4 ⊢
     rw [List.map_append, List.sum_append]
     simp only [List.map_cons, List.map_nil, List.sum_cons, List.sum_nil]
     omega
    omega)
   have HRN : Hid (Mg.Rl (Mg.nw (A ++ [l])) ∧ Mg.Rl (Mg.nw (A ++ [Mg.live l]))) := Lib.hid ⟨Mg.rl_nw HRR.out, Mg.rl_nw fun L hL => by
    rcases List.mem_append.1 hL with h1 | h1
    ·exact HRR.out L (List.mem_append_left _ h1)
    ·obtain rfl : L = Mg.live l := by simpa using h1
     exact Mg.rl_live (HRR.out l (by simp))⟩
   have HE12 := Lib.hid (And.intro e1 e2)
   generalize A ++ [Mg.live l] = B9 at HNW HE12 HGLS HGO HML HRN
   generalize A.length = N at HC HSRC hds HAN hcc ⊢
   have c8 := HC.out w3 (Below.refl _ _) N (Nat.lt_succ_self N)
   have HC8 := Lib.hid fun (W : World) (g : Below w3.heap.size w3 W) => HC.out W g N (Nat.lt_succ_self N)
   generalize R N = p9 at hds c8 HC8
   obtain ⟨la, ln, lc⟩ := p9
   simp only [Bk.sv] at hds c8 HC8
   have HRL1 : Hid (Mg.Rl l) := Lib.hid (HRR.out l (by simp))
   have HLV := Lib.hid fun (W : World) (g : Below w3.heap.size w3 W) => Mg.liveN_c _ l W (hds.later g) HRL1.out (by have := HLL.out; omega)
   unfold Mg.LvD at HLV
   have hN := HAN.out
   have hn0 : (0 : Int) ≤ (N : Int) := by omega
   have hn1 : (N : Int) ≤ 11 := by omega
   have hnc : (N : Int) ≤ (c2 : Int) := by omega
   have hn2 : (N : Int) < (N : Int) + 1 := by omega
   have hw9 : IntKind.i64.wrap (N : Int) = (N : Int) := by rw [IntKind.wrap_i64]; omega
   have HDW : Hid (Below w3.heap.size w3 w3.drew) := Lib.hid (Below.refl _ w3).drew
   have hal2 := hal
   clear e1 e2 hRV hc hlt hal hal2 HU3 HE HEA HC HZ hcc hN
   go_upto_region 8 with (fail)
   generalize Mg.nw (A ++ [l]) = M9 at HX HGO HML HRN ⊢
   have hps := HLEN.out
   clear hw9 hll
   go_region_held3 (fun W => W.cell? ⟨b, o + N, none⟩ = some (.slice la ln lc))
    (first
    | exact HC8.out _ HDW.out
    | exact HC8.out _ HB37.out
    | exact HC8.out _ (HB37.out.alloc HB37.out.size _)
    | exact HC8.out _ HB32.out
    | exact HC8.out _ HG39.out.bw
    | exact HC8.out _ HB40.out)
    (first
    | (refine Dk.step_appendB (enc := Bk.e1) 22 _ 24 Try.underlying22 Rn.infoB rfl (by decide) Bk.e1_len Bk.e1_one PS (base := _) (Nat.le_refl _) (Dk.Own.nil _ _) (by simp only [List.length_nil]; omega) (by simp only [List.length_nil]; omega) _ _ _ (by rfl) (by rfl) (by rfl) (by rfl) (HSRC.out _ HDW.out) ?_; intro v32 w32 o32 g32; have H32 := Lib.hid (And.intro o32 g32); have HB32 := Lib.hid (Mg.grow_nil HDW.out g32); clear o32 g32)
    | (go_at_call 16; (with_reducible refine (HLV.out _ HB32.out).mono ?_); rintro e w37 ⟨⟨ua, un, uc⟩, Es, rfl, ou, ru, g37⟩; have H37 := Lib.hid (And.intro ou g37); have HRU := Lib.hid ru; have HB37 := Lib.hid (Mg.grow HB32.out g37); clear ou ru g37; simp only [Bk.sv])
    | (go_at_call 11; (with_reducible refine (HNW.out _ _ HLS.out).mono ?_); rintro e w40 ⟨y, rfl, hy, g40⟩; have HY := Lib.hid hy; have HB40 := Lib.hid (Mg.grow HG39.out.bw g40); clear hy g40)
    | (refine Dk.step_appendB (enc := Bk.e1) 22 _ 24 Try.underlying22 Rn.infoB rfl (by decide) Bk.e1_len Bk.e1_one [(ua, un, uc)] (base := w3.heap.size) ((Mg.G2.first HDW.out H32.out H37.out).put _).bw.size ((Mg.G2.first HDW.out H32.out H37.out).put _).o (by simp only [List.length_singleton, List.nil_append]; omega) (by simp only [List.length_singleton, List.nil_append]; omega) _ _ _ (by rfl) (by rfl) (by rfl) (by rfl) (Dk.src_cell (Dk.cell_new rfl)) ?_; intro v39 w39 o39 g39; have HG39 := Lib.hid (((Mg.G2.first HDW.out H32.out H37.out).put _).grown o39 g39); have HLS := Lib.hid (HGLS.out _ _ _ _ HG39.out ((HRU.out.kept ((Below.refl _ _).alloc (Nat.le_refl _) _)).grew ((Mg.G2.first HDW.out H32.out H37.out).put _).o g39 (by decide)).rd); clear o39 g39))
   rw [HE12.out.1]
   have hy := HY.out
   rw [HE12.out.2] at hy
   have HY2 := Lib.hid hy
   obtain ⟨ya, yc, rfl, -, -, -⟩ := hy
   have HX4 := Lib.hid (HX.out.later HB40.out)
   have HG4 := Lib.hid (Mg.grow HG3.out HB40.out)
   clear HX HY
   generalize Mg.nw B9 = M7 at HGO HML HY2 HRN ⊢
   clear HDW hps hnc hn0 hn1 hn2 c8
   go_wp2_with fail
   refine (Mg.live_c _ M9 w40 HX4.out HRN.out.1 HML.out.1).mono ?_
   rintro e w5 ⟨u5, rfl, hu5, g5⟩
   have HU5 := Lib.hid hu5
   have HG5 := Lib.hid (Mg.grow HG4.out g5)
   have HY5 := Lib.hid (HY2.out.later g5)
   obtain ⟨a5, c5, rfl, -, -, -⟩ := hu5
   clear g5
   go_wp2_with fail
   refine (Mg.live_c _ M7 w5 HY5.out HRN.out.2 HML.out.2).mono ?_
   rintro e w6 ⟨u6, rfl, hu6, g6⟩
   rw [HGO.out.2] at hu6
   have HG6 := Lib.hid (Mg.grow HG5.out g6)
   have HSM := Lib.hid (Bk.rsame_c _ _ _ w6 (HU5.out.later g6) hu6)
   obtain ⟨a6, c6, rfl, -, -, -⟩ := hu6
   clear g6
   go_wp2_with fail
   refine (HSM.out).mono ?_
   rintro e w7 ⟨rfl, g7⟩
   have HG7 := Lib.hid (Mg.grow HG6.out g7)
   clear g7
   go_wp2
   go_ret
   exact ⟨rfl, HG7.out⟩
end Go.Proofs.Ytikdcmplihgdcaa
