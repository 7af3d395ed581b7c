/-
  The document's answers for package disk: a directory with a name; with a change.
  The document's answers for package disk: a directory with a change; which name is right.
-/
import Derived.Test.YtfkdkdkdpenblaaZK
import Derived.Test.YtfkdkdkdpenblaaZH
namespace Go.Proofs.Ytfkdkdkdpenblaa
open Go.RowKit
theorem Dk.while_at (p : (Dk.Str × Nat) → Bool) : ∀ (l : Dk.Dir) (q : Nat), q ≤ l.length → (∀ j, j < q → p (l.getD j ([], 0)) = true) → (q < l.length → p (l.getD q ([], 0)) = false) → l.takeWhile p = l.take q ∧ l.dropWhile p = l.drop q
  | [], q, h, _, _ => by
    obtain rfl : q = 0 := by simpa using h
    exact ⟨rfl, rfl⟩
  | a :: l, 0, _, _, h => by
    have ha : p a = false := h (by simp)
    rw [List.takeWhile_cons_of_neg (by simp [ha]), List.dropWhile_cons_of_neg (by simp [ha])]
    exact ⟨rfl, rfl⟩
  | a :: l, q + 1, hq, hp, h => by
    have ha : p a = true := hp 0 (by omega)
    obtain ⟨h1, h2⟩ := Dk.while_at p l q (by simpa using hq) (fun j hj => hp (j + 1) (by omega)) (fun hl => h (by simpa using hl))
    rw [List.takeWhile_cons_of_pos ha, List.dropWhile_cons_of_pos ha, h1, h2]
    exact ⟨rfl, rfl⟩
theorem Dk.wi_at {l : Dk.Dir} {x : Dk.Str × Nat} {q : Nat} (hq : q ≤ (Dk.wo l x.1).length) (hp : ∀ j, j < q → Dk.lt ((Dk.wo l x.1).getD j ([], 0)).1 x.1 = true) (h : q < (Dk.wo l x.1).length → Dk.lt ((Dk.wo l x.1).getD q ([], 0)).1 x.1 = false) :
    Dk.wi l x = [] ++ (Dk.wo l x.1).take q ++ [x] ++ (Dk.wo l x.1).drop q := by
  obtain ⟨h1, h2⟩ := Dk.while_at (fun y => Dk.lt y.1 x.1) (Dk.wo l x.1) q hq hp h
  unfold Dk.wi
  rw [h1, h2]
  simp
theorem Dk.rAhead_c (a b : Dk.Str) (ha : a.length ≤ 1048576) (hb : b.length ≤ 1048576) (w : World) :
    Calls Try.prog 78 #[.agg #[.bool false, .int .i64 0, .string (Ty.S a)], .agg #[.bool false, .int .i64 0, .string (Ty.S b)]] w fun e w' => e = .returned (.bool (Dk.lt a b)) ∧ Below w.heap.size w w' := by
  have h := Kn.rAhead_c ⟨false, 0, Ty.S a⟩ ⟨false, 0, Ty.S b⟩ (by unfold Kn.Z; rw [Ty.size_S]; omega) (by unfold Kn.Z; rw [Ty.size_S]; omega) w
  rw [Tx.cmp_lt] at h
  exact h
abbrev Dk.TN : TypeId := 64
theorem Dk.step_name {wo w0 : World} {v : Value} {M : Dk.Dir} (K : Dk.Dir) (hbW : Below wo.heap.size wo w0) (hown : Dk.Down wo.heap.size w0 v M)
    (hl : M.length + K.length ≤ 4194304)
    {ops : Array Oper} {o : Oper} {a : Act} {Kx : Act → World → Prop} {Q : Exit → Act → World → Prop} {E : Prop} (s x : Operand) (u : Value) (hgd : o.guard = none)
    (ho : o.op = .call { callee := .builtin .append, args := #[s, x], argTypes := #[64, 64] })
    (hs : a.eval s = v) (hx : a.eval x = u) (hu : Dk.Src Dk.encN w0 u K)
    (h : ∀ v' w', Dk.Down wo.heap.size w' v' (M ++ K) → Below wo.heap.size wo w' → Ty.Grew w0 w' v v' → Kx (a.put o.dst v') w') :
    if Region.wanted o (yielded ops a.tmps) = true then Oper.wp Try.prog o a w0 Kx Q else E :=
  Dk.step_append 64 _ 24 Try.underlying64 Dk.infoN rfl (by decide) Dk.encN_len Dk.encN_one K hbW hown (by omega) (by omega) s x u hgd ho hs hx hu h
set_option maxHeartbeats 4000000 in
set_option maxRecDepth 100000 in
theorem Dk.rwith_c {P : Nat → Prop} (v : Value) (l : Dk.Dir) (x : Dk.Str × Nat) (w : World) (hv : Dk.Dat P w v l) (hn : l.length ≤ 1048576) (hx : x.1.length ≤ 1048576) (hy : ∀ y ∈ l, y.1.length ≤ 1048576) :
    Calls Try.prog 74 #[v, .agg #[.string (Ty.S x.1), .int .i64 (x.2 : Int)]] w fun e w' => ∃ u, e = .returned u ∧ Dk.Down w.heap.size w' u (Dk.wi l x) ∧ Below w.heap.size w w' := by
  obtain ⟨n, f⟩ := x
  simp only at hx ⊢
  obtain ⟨wb, hwb⟩ : ∃ wb, wb = w.alloc (.cells #[.string (Ty.S n), .int .i64 (f : Int)] 71) := ⟨_, rfl⟩
  have hb0 : Below w.heap.size w wb := by rw [hwb]; exact (Below.refl _ w).alloc (Nat.le_refl _) _
  have cw := Dk.rwithout_c (P := P) v l n wb (hv.kept hb0) hn
  have d0 : wb.cell? ⟨w.heap.size, 0, none⟩ = some (.string (Ty.S n)) := by rw [hwb]; exact Kn.cell_new w _ _ 0 _ rfl
  have d1 : wb.cell? ⟨w.heap.size, 1, none⟩ = some (.int .i64 (f : Int)) := by rw [hwb]; exact Kn.cell_new w _ _ 1 _ rfl
  have HWI := Lib.hid fun q => Dk.wi_at (l := l) (x := (n, f)) (q := q)
  have hD : ∀ y ∈ Dk.wo l n, y.1.length ≤ 1048576 := fun y h => hy y (Dk.mem_wo.1 h).1
  have hDl := Nat.le_trans (Dk.len_wo l n) hn
  simp only at HWI
  generalize Dk.wo l n = D at cw HWI hD hDl
  generalize Dk.wi l (n, f) = R at HWI ⊢
  have hsz : wb.heap.size = w.heap.size + 1 := by rw [hwb]; exact World.size_alloc ..
  have HB0 := Lib.hid hb0
  have HD0 := Lib.hid d0
  have HD1 := Lib.hid d1
  have HDY := Lib.hid hD
  have HXL := Lib.hid hx
  obtain ⟨sn, hsn⟩ : ∃ sn, sn = Ty.S n := ⟨_, rfl⟩
  rw [← hsn] at cw HD0 hwb ⊢
  have HSN := Lib.hid hsn
  clear hv hb0 hD hx hy d0 d1 hsn
  go_enter Try.func74, Try.ntmps74
  go_wp2_with fail
  rw [← hwb]
  with_reducible refine cw.mono ?_
  rintro e w1 ⟨u, rfl, hO1, g1⟩
  have hs1 := g1.size
  have HG1 := Lib.hid g1
  clear cw hwb
  rcases hO1.form with ⟨rfl, rfl⟩ | ⟨b2, c2, rfl, hc2, hcm, hbb, hlt2⟩
  · have HO1 := Lib.hid hO1
    clear hO1 g1
    go_wp2_with fail
    go_loopw [5] (fun i wr => i = .int .i64 0 ∧ wr = w1) (fun _ _ => 0)
    case atStart => exact ⟨rfl, rfl⟩
    case round =>
      obtain ⟨rfl, rfl⟩ := hrel
      go_wp2_with fail
      go_quiet (fail)
      generalize hwq : wr.drewN nq = wq
      have HB2 : Hid (Below wr.heap.size wr wq) := Lib.hid (by rw [← hwq]; exact Bt.drewN_below _ _)
      clear hwq
      have HNM : Hid (([] : Dk.Dir).length ≤ 1048576 ∧ (([] : Dk.Dir).take 0).length ≤ 1048576 ∧ (([] : Dk.Dir).drop 0).length ≤ 1048576) := Lib.hid ⟨hDl, by rw [List.length_take]; omega, by rw [List.length_drop]; omega⟩
      have HD0q : Hid (Below wq.heap.size wq wq.drew) := Lib.hid (Bt.drewN_below wq 1)
      have HBW := Lib.hid (HG1.out.trans (HB2.out.mono HG1.out.size))
      have HZ : Hid (∀ W, Below wq.heap.size wq W → W.cell? ⟨w.heap.size, 0, none⟩ = some (.string sn) ∧ W.cell? ⟨w.heap.size, 1, none⟩ = some (.int .i64 (f : Int))) := Lib.hid fun W g => by
        have hlt : w.heap.size < wq.heap.size := by have := HBW.out.size; omega
        exact ⟨(g.cell (p := ⟨w.heap.size, 0, none⟩) hlt).trans ((HBW.out.cell (p := ⟨w.heap.size, 0, none⟩) (by show w.heap.size < wb.heap.size; omega)).trans HD0.out), (g.cell (p := ⟨w.heap.size, 1, none⟩) hlt).trans ((HBW.out.cell (p := ⟨w.heap.size, 1, none⟩) (by show w.heap.size < wb.heap.size; omega)).trans HD1.out)⟩
      have hq0 := (HZ.out wq (Below.refl _ _)).1
      have hq1 := (HZ.out wq (Below.refl _ _)).2
      have hoz : True ∨ False := .inl trivial
      have HSN2 : Hid (∀ W, Below wq.heap.size wq W → Dk.Src Dk.encN W (.slice none 0 0) (([] : Dk.Dir).take 0)) := Lib.hid fun _ _ => .inl ⟨rfl, rfl⟩
      have HSN3 : Hid (∀ W, Below wq.heap.size wq W → Dk.Src Dk.encN W (.slice none 0 0) (([] : Dk.Dir).drop 0)) := Lib.hid fun _ _ => .inl ⟨rfl, rfl⟩
      have HRR : Hid (R = [] ++ ([] : Dk.Dir).take 0 ++ [(n, f)] ++ ([] : Dk.Dir).drop 0) := Lib.hid (HWI.out 0 (Nat.le_refl _) (fun j hj => by omega) (fun h => by simp at h))
      have HCS : Hid (#[Value.string sn, .int .i64 (f : Int)] = (Dk.encN (n, f)).toArray) := Lib.hid (by rw [HSN.out]; rfl)
      clear hoz
      go_wp2_with fail
      generalize ([] : Dk.Dir).take 0 = K1 at HSN2 HNM HRR
      generalize ([] : Dk.Dir).drop 0 = K3 at HSN3 HNM HRR
      go_region_held3 (fun wx => wx.cell? ⟨w.heap.size, 0, none⟩ = some (.string sn) ∧ wx.cell? ⟨w.heap.size, 1, none⟩ = some (.int .i64 (f : Int)))
        (first
          | exact HZ.out _ HD0q.out
          | exact HZ.out _ (HD0q.out.alloc HD0q.out.size _)
          | exact HZ.out _ b4
          | exact HZ.out _ b3
          | exact HZ.out _ b1
          | exact HZ.out _ (b1.alloc b1.size _))
        (first
          | (refine Dk.step_name (M := []) K1 HD0q.out (Dk.Own.nil _ _) (by have := HNM.out; simp only [List.length_nil]; omega) _ _ _ (by rfl) (by rfl) (by rfl) (by rfl) (HSN2.out _ HD0q.out) ?_; intro v1 wv1 o1 b1 g1)
          | (refine Dk.step_name (M := []) K1 (HD0q.out.alloc HD0q.out.size _) (Dk.Own.nil _ _) (by have := HNM.out; simp only [List.length_nil]; omega) _ _ _ (by rfl) (by rfl) (by rfl) (by rfl) (HSN2.out _ (HD0q.out.alloc HD0q.out.size _)) ?_; intro v1 wv1 o1 b1 g1)
          | (refine Dk.step_name (M := [] ++ K1) [(n, f)] (b1.alloc b1.size _) (World.ownsRow.alloc o1 _) (by have := HNM.out; simp only [List.nil_append, List.length_singleton]; omega) _ _ _ (by rfl) (by rfl) (by rfl) (by rfl) (Dk.src_cell (Dk.cell_new HCS.out)) ?_; intro v3 wv3 o3 b3 g3)
          | (refine Dk.step_name (M := [] ++ K1) [(n, f)] b1 o1 (by have := HNM.out; simp only [List.nil_append, List.length_singleton]; omega) _ _ _ (by rfl) (by rfl) (by rfl) (by rfl) (Dk.src_cell fun j y hj => Dk.cell_kept g1 (Dk.cell_new HCS.out j y hj)) ?_; intro v3 wv3 o3 b3 g3)
          | (refine Dk.step_name (M := [] ++ K1 ++ [(n, f)]) K3 b3 o3 (by have := HNM.out; simp only [List.nil_append, List.length_append, List.length_singleton]; omega) _ _ _ (by rfl) (by rfl) (by rfl) (by rfl) (HSN3.out _ b3) ?_; intro v4 wv4 o4 b4 g4))
      all_goals
        have HB4 := Lib.hid (HB0.out.trans ((HBW.out.trans (b4.mono HBW.out.size)).mono HB0.out.size))
        have HO4 := Lib.hid (World.ownsRow.mono o4 (show w.heap.size ≤ wq.heap.size by have := HBW.out.size; omega))
        clear o1 o3 o4 g1 g3 g4 b1 b3 b4
        go_wp2
        go_ret
        exact ⟨_, rfl, by rw [HRR.out]; exact HO4.out, HB4.out⟩
  · have HCC : Hid (∀ i j y, D[i]? = some y → j < 2 → w1.cell? ⟨b2, i * 2 + j, none⟩ = (Dk.encN y)[j]?) := Lib.hid fun i j y hi hj => hO1.cell Dk.encN_len rfl hi hj
    clear hO1 g1
    go_wp2_with fail
    go_loopw [5] (fun i wr => ∃ k : Nat, k ≤ D.length ∧ i = .int .i64 k ∧ (∀ j, j < k → Dk.lt (D.getD j ([], 0)).1 n = true) ∧ Below w1.heap.size w1 wr) (fun i _ => D.length - (intOf i).toNat)
    case atStart => exact ⟨0, by omega, rfl, fun j hj => by omega, Below.refl _ _⟩
    case round =>
      obtain ⟨q, hq, rfl, hp, hbi⟩ := hrel
      have HP := Lib.hid hp
      have HBI := Lib.hid hbi
      have hws := hbi.size
      have dq0 : (0 : Int) ≤ (q : Int) := by omega
      have dq1 : (q : Int) < 140737488355328 := by omega
      clear hp
      by_cases hqd : q < D.length
      · have hkx := Dk.getD_at (l := D) (k := q) hqd
        have hc := (hbi.cell (p := ⟨b2, q * 2, none⟩) hlt2).trans (HCC.out q 0 _ hkx (by omega))
        have hc' : wr.cell? ⟨b2, q * 2, none⟩ = some (.string (Ty.S (D.getD q ([], 0)).1)) := hc
        have hc3 : wr.cell? ⟨w.heap.size, 0, none⟩ = some (.string sn) := (hbi.cell (p := ⟨w.heap.size, 0, none⟩) (by show w.heap.size < w1.heap.size; omega)).trans ((HG1.out.cell (p := ⟨w.heap.size, 0, none⟩) (by show w.heap.size < wb.heap.size; omega)).trans HD0.out)
        have dq : (q : Int) < (D.length : Int) := by omega
        have hdq : decide ((q : Int) < (D.length : Int)) = true := by simpa using dq
        have HDQ : Hid ((D.getD q ([], 0)).1.length ≤ 1048576) := Lib.hid (HDY.out _ (List.mem_of_getElem? hkx))
        have CA : Hid (∀ p : Regrown, Calls Try.prog 78 #[.agg #[.bool false, .int .i64 0, .string (Ty.S (D.getD q ([], 0)).1)], .agg #[.bool false, .int .i64 0, .string sn]] (Sort.grow (redrawn wr p.d) p.os) fun e w'' => e = .returned (.bool (Dk.lt (D.getD q ([], 0)).1 n)) ∧ ∃ p : Regrown, w'' = Sort.grow (redrawn wr p.d) p.os) := Lib.hid fun p => by
          rw [HSN.out]
          exact Calls.regrown_of (Dk.rAhead_c _ _ HDQ.out HXL.out _)
        have E0 := fun d os => cell_regrown hc' d os
        have E1 := fun d os => cell_regrown hc3 d os
        generalize Ty.S (D.getD q ([], 0)).1 = ds at CA E0 hc'
        have HQ := Lib.hid hqd
        clear hc hkx HDQ
        cases hx : Dk.lt (D.getD q ([], 0)).1 n
        · rw [hx] at CA
          have HX := Lib.hid hx
          clear hx
          go_wp2_with fail
          refine wp_region_quiet_below (by kernel_rfl) (by kernel_rfl) ?_
          repeat (go_big_quiet_step (first | with_reducible exact CA.out _))
          refine wpQuiet_nil ?_
          intro wq hw'
          have HB2 := Lib.hid (HBI.out.trans ((Ig.below_reg hw').mono HBI.out.size))
          clear hw' CA E0 E1 hc' hc3 hdq hbi
          have HNM : Hid (D.length ≤ 1048576 ∧ (D.take q).length ≤ 1048576 ∧ (D.drop q).length ≤ 1048576) := Lib.hid ⟨hDl, by rw [List.length_take]; omega, by rw [List.length_drop]; omega⟩
          have HD0q : Hid (Below wq.heap.size wq wq.drew) := Lib.hid (Bt.drewN_below wq 1)
          have HBW := Lib.hid (HG1.out.trans (HB2.out.mono HG1.out.size))
          have HZ : Hid (∀ W, Below wq.heap.size wq W → W.cell? ⟨w.heap.size, 0, none⟩ = some (.string sn) ∧ W.cell? ⟨w.heap.size, 1, none⟩ = some (.int .i64 (f : Int))) := Lib.hid fun W g => by
            have hlt : w.heap.size < wq.heap.size := by have := HBW.out.size; omega
            exact ⟨(g.cell (p := ⟨w.heap.size, 0, none⟩) hlt).trans ((HBW.out.cell (p := ⟨w.heap.size, 0, none⟩) (by show w.heap.size < wb.heap.size; omega)).trans HD0.out), (g.cell (p := ⟨w.heap.size, 1, none⟩) hlt).trans ((HBW.out.cell (p := ⟨w.heap.size, 1, none⟩) (by show w.heap.size < wb.heap.size; omega)).trans HD1.out)⟩
          have hq0 := (HZ.out wq (Below.refl _ _)).1
          have hq1 := (HZ.out wq (Below.refl _ _)).2
          have HCW : Hid (∀ W, Below wq.heap.size wq W → ∀ i j y, D[i]? = some y → j < 2 → W.cell? ⟨b2, i * 2 + j, none⟩ = (Dk.encN y)[j]?) := Lib.hid fun W g i j y hi hj => (g.cell (p := ⟨b2, i * 2 + j, none⟩) (by show b2 < wq.heap.size; have := HB2.out.size; omega)).trans ((HB2.out.cell (p := ⟨b2, i * 2 + j, none⟩) hlt2).trans (HCC.out i j y hi hj))
          have HSA : Hid (∀ W, Below wq.heap.size wq W → Dk.Src Dk.encN W (.slice (some ⟨b2, 0, none⟩) q c2) (D.take q)) := Lib.hid fun W g => Dk.src_take Dk.encN_len (by decide) (HCW.out W g) (by omega) c2
          obtain ⟨oz, hoz, HSC⟩ : ∃ oz, ((c2 = q ∧ oz = 0) ∨ (¬ c2 = q ∧ oz = q * 2)) ∧ Hid (∀ W, Below wq.heap.size wq W → ∀ m c, m = D.length - q → Dk.Src Dk.encN W (.slice (some ⟨b2, oz, none⟩) m c) (D.drop q)) := by
            by_cases hcq : c2 = q
            · exact ⟨0, .inl ⟨hcq, rfl⟩, Lib.hid fun W g m c hm => Dk.src_none b2 0 c m (List.drop_of_length_le (by omega)) (by omega)⟩
            · exact ⟨q * 2, .inr ⟨hcq, rfl⟩, Lib.hid fun W g m c hm => by rw [hm]; exact Dk.src_drop Dk.encN_len (by decide) rfl (HCW.out W g) c⟩
          have dq4 : ((q : Nat) : Int) ≤ (c2 : Int) := by omega
          have dq5 : ((q : Nat) : Int) ≤ (D.length : Int) := by omega
          have dq6 : (D.length : Int) ≤ (c2 : Int) := by omega
          have HRR : Hid (R = [] ++ D.take q ++ [(n, f)] ++ D.drop q) := Lib.hid (HWI.out q (by omega) HP.out (fun _ => HX.out))
          have HCS : Hid (#[Value.string sn, .int .i64 (f : Int)] = (Dk.encN (n, f)).toArray) := Lib.hid (by rw [HSN.out]; rfl)
          clear HCW HBI HP dq1
          go_wp2_with fail
          generalize D.take q = K1 at HSA HNM HRR
          generalize D.drop q = K3 at HSC HNM HRR
          rcases hoz with ⟨rfl, rfl⟩ | ⟨hcq, rfl⟩
          all_goals
            go_region_held3 (fun wx => wx.cell? ⟨w.heap.size, 0, none⟩ = some (.string sn) ∧ wx.cell? ⟨w.heap.size, 1, none⟩ = some (.int .i64 (f : Int)))
              (first
                | exact HZ.out _ HD0q.out
                | exact HZ.out _ (HD0q.out.alloc HD0q.out.size _)
                | exact HZ.out _ b4
                | exact HZ.out _ b3
                | exact HZ.out _ b1
                | exact HZ.out _ (b1.alloc b1.size _))
              (first
                | (refine Dk.step_name (M := []) K1 HD0q.out (Dk.Own.nil _ _) (by have := HNM.out; simp only [List.length_nil]; omega) _ _ _ (by rfl) (by rfl) (by rfl) (by rfl) (HSA.out _ HD0q.out) ?_; intro v1 wv1 o1 b1 g1)
                | (refine Dk.step_name (M := []) K1 (HD0q.out.alloc HD0q.out.size _) (Dk.Own.nil _ _) (by have := HNM.out; simp only [List.length_nil]; omega) _ _ _ (by rfl) (by rfl) (by rfl) (by rfl) (HSA.out _ (HD0q.out.alloc HD0q.out.size _)) ?_; intro v1 wv1 o1 b1 g1)
                | (refine Dk.step_name (M := [] ++ K1) [(n, f)] (b1.alloc b1.size _) (World.ownsRow.alloc o1 _) (by have := HNM.out; simp only [List.nil_append, List.length_singleton]; omega) _ _ _ (by rfl) (by rfl) (by rfl) (by rfl) (Dk.src_cell (Dk.cell_new HCS.out)) ?_; intro v3 wv3 o3 b3 g3)
                | (refine Dk.step_name (M := [] ++ K1) [(n, f)] b1 o1 (by have := HNM.out; simp only [List.nil_append, List.length_singleton]; omega) _ _ _ (by rfl) (by rfl) (by rfl) (by rfl) (Dk.src_cell fun j y hj => Dk.cell_kept g1 (Dk.cell_new HCS.out j y hj)) ?_; intro v3 wv3 o3 b3 g3)
                | (refine Dk.step_name (M := [] ++ K1 ++ [(n, f)]) K3 b3 o3 (by have := HNM.out; simp only [List.nil_append, List.length_append, List.length_singleton]; omega) _ _ _ (by rfl) (by rfl) (by rfl) (by rfl) (HSC.out _ b3 _ _ (by first | rfl | omega | simp)) ?_; intro v4 wv4 o4 b4 g4))
            all_goals
              have HB4 := Lib.hid (HB0.out.trans ((HBW.out.trans (b4.mono HBW.out.size)).mono HB0.out.size))
              have HO4 := Lib.hid (World.ownsRow.mono o4 (show w.heap.size ≤ wq.heap.size by have := HBW.out.size; omega))
              clear o1 o3 o4 g1 g3 g4 b1 b3 b4
              go_wp2
              go_ret
              exact ⟨_, rfl, by rw [HRR.out]; exact HO4.out, HB4.out⟩
        · rw [hx] at CA
          have HX := Lib.hid hx
          clear hx
          go_wp2_with fail
          refine wp_region_quiet_below (by kernel_rfl) (by kernel_rfl) ?_
          repeat (go_big_quiet_step (first | with_reducible exact CA.out _))
          refine wpQuiet_nil ?_
          intro wq hw'
          have HB2 := Lib.hid (HBI.out.trans ((Ig.below_reg hw').mono HBI.out.size))
          clear hw' CA E0 E1
          go_wp2
          go_roundw
          case rel => exact ⟨q + 1, by omega, by simp, fun j hj => by
            by_cases e : j = q
            · rw [e]; exact HX.out
            · exact HP.out j (by omega), HB2.out⟩
          case measure => simp [intOf]; omega
      · obtain rfl : q = D.length := by omega
        have dq : ¬ (D.length : Int) < (D.length : Int) := by omega
        have hdq : decide ((D.length : Int) < (D.length : Int)) = false := by simp
        go_wp2_with fail
        go_quiet (fail)
        generalize hwq : wr.drewN nq = wq
        have HB2 : Hid (Below w1.heap.size w1 wq) := Lib.hid (HBI.out.trans (by rw [← hwq]; exact (Bt.drewN_below _ _).mono HBI.out.size))
        clear hwq hdq hbi
        have HNM : Hid (D.length ≤ 1048576 ∧ (D.take D.length).length ≤ 1048576 ∧ (D.drop D.length).length ≤ 1048576) := Lib.hid ⟨hDl, by rw [List.length_take]; omega, by rw [List.length_drop]; omega⟩
        have HD0q : Hid (Below wq.heap.size wq wq.drew) := Lib.hid (Bt.drewN_below wq 1)
        have HBW := Lib.hid (HG1.out.trans (HB2.out.mono HG1.out.size))
        have HZ : Hid (∀ W, Below wq.heap.size wq W → W.cell? ⟨w.heap.size, 0, none⟩ = some (.string sn) ∧ W.cell? ⟨w.heap.size, 1, none⟩ = some (.int .i64 (f : Int))) := Lib.hid fun W g => by
          have hlt : w.heap.size < wq.heap.size := by have := HBW.out.size; omega
          exact ⟨(g.cell (p := ⟨w.heap.size, 0, none⟩) hlt).trans ((HBW.out.cell (p := ⟨w.heap.size, 0, none⟩) (by show w.heap.size < wb.heap.size; omega)).trans HD0.out), (g.cell (p := ⟨w.heap.size, 1, none⟩) hlt).trans ((HBW.out.cell (p := ⟨w.heap.size, 1, none⟩) (by show w.heap.size < wb.heap.size; omega)).trans HD1.out)⟩
        have hq0 := (HZ.out wq (Below.refl _ _)).1
        have hq1 := (HZ.out wq (Below.refl _ _)).2
        have HCW : Hid (∀ W, Below wq.heap.size wq W → ∀ i j y, D[i]? = some y → j < 2 → W.cell? ⟨b2, i * 2 + j, none⟩ = (Dk.encN y)[j]?) := Lib.hid fun W g i j y hi hj => (g.cell (p := ⟨b2, i * 2 + j, none⟩) (by show b2 < wq.heap.size; have := HB2.out.size; omega)).trans ((HB2.out.cell (p := ⟨b2, i * 2 + j, none⟩) hlt2).trans (HCC.out i j y hi hj))
        have HSA : Hid (∀ W, Below wq.heap.size wq W → Dk.Src Dk.encN W (.slice (some ⟨b2, 0, none⟩) D.length c2) (D.take D.length)) := Lib.hid fun W g => Dk.src_take Dk.encN_len (by decide) (HCW.out W g) (by omega) c2
        obtain ⟨oz, hoz, HSC⟩ : ∃ oz, ((c2 = D.length ∧ oz = 0) ∨ (¬ c2 = D.length ∧ oz = D.length * 2)) ∧ Hid (∀ W, Below wq.heap.size wq W → ∀ m c, m = D.length - D.length → Dk.Src Dk.encN W (.slice (some ⟨b2, oz, none⟩) m c) (D.drop D.length)) := by
          by_cases hcq : c2 = D.length
          · exact ⟨0, .inl ⟨hcq, rfl⟩, Lib.hid fun W g m c hm => Dk.src_none b2 0 c m (List.drop_of_length_le (by omega)) (by omega)⟩
          · exact ⟨D.length * 2, .inr ⟨hcq, rfl⟩, Lib.hid fun W g m c hm => by rw [hm]; exact Dk.src_drop Dk.encN_len (by decide) rfl (HCW.out W g) c⟩
        have dq4 : ((D.length : Nat) : Int) ≤ (c2 : Int) := by omega
        have dq5 : ((D.length : Nat) : Int) ≤ (D.length : Int) := by omega
        have dq6 : (D.length : Int) ≤ (c2 : Int) := by omega
        have HRR : Hid (R = [] ++ D.take D.length ++ [(n, f)] ++ D.drop D.length) := Lib.hid (HWI.out D.length (by omega) HP.out (fun h => absurd h (Nat.lt_irrefl _)))
        have HCS : Hid (#[Value.string sn, .int .i64 (f : Int)] = (Dk.encN (n, f)).toArray) := Lib.hid (by rw [HSN.out]; rfl)
        clear HCW HBI HP dq1
        go_wp2_with fail
        generalize D.take D.length = K1 at HSA HNM HRR
        generalize D.drop D.length = K3 at HSC HNM HRR
        rcases hoz with ⟨rfl, rfl⟩ | ⟨hcq, rfl⟩
        all_goals
          go_region_held3 (fun wx => wx.cell? ⟨w.heap.size, 0, none⟩ = some (.string sn) ∧ wx.cell? ⟨w.heap.size, 1, none⟩ = some (.int .i64 (f : Int)))
            (first
              | exact HZ.out _ HD0q.out
              | exact HZ.out _ (HD0q.out.alloc HD0q.out.size _)
              | exact HZ.out _ b4
              | exact HZ.out _ b3
              | exact HZ.out _ b1
              | exact HZ.out _ (b1.alloc b1.size _))
            (first
              | (refine Dk.step_name (M := []) K1 HD0q.out (Dk.Own.nil _ _) (by have := HNM.out; simp only [List.length_nil]; omega) _ _ _ (by rfl) (by rfl) (by rfl) (by rfl) (HSA.out _ HD0q.out) ?_; intro v1 wv1 o1 b1 g1)
              | (refine Dk.step_name (M := []) K1 (HD0q.out.alloc HD0q.out.size _) (Dk.Own.nil _ _) (by have := HNM.out; simp only [List.length_nil]; omega) _ _ _ (by rfl) (by rfl) (by rfl) (by rfl) (HSA.out _ (HD0q.out.alloc HD0q.out.size _)) ?_; intro v1 wv1 o1 b1 g1)
              | (refine Dk.step_name (M := [] ++ K1) [(n, f)] (b1.alloc b1.size _) (World.ownsRow.alloc o1 _) (by have := HNM.out; simp only [List.nil_append, List.length_singleton]; omega) _ _ _ (by rfl) (by rfl) (by rfl) (by rfl) (Dk.src_cell (Dk.cell_new HCS.out)) ?_; intro v3 wv3 o3 b3 g3)
              | (refine Dk.step_name (M := [] ++ K1) [(n, f)] b1 o1 (by have := HNM.out; simp only [List.nil_append, List.length_singleton]; omega) _ _ _ (by rfl) (by rfl) (by rfl) (by rfl) (Dk.src_cell fun j y hj => Dk.cell_kept g1 (Dk.cell_new HCS.out j y hj)) ?_; intro v3 wv3 o3 b3 g3)
              | (refine Dk.step_name (M := [] ++ K1 ++ [(n, f)]) K3 b3 o3 (by have := HNM.out; simp only [List.nil_append, List.length_append, List.length_singleton]; omega) _ _ _ (by rfl) (by rfl) (by rfl) (by rfl) (HSC.out _ b3 _ _ (by first | rfl | omega | simp)) ?_; intro v4 wv4 o4 b4 g4))
          all_goals
            have HB4 := Lib.hid (HB0.out.trans ((HBW.out.trans (b4.mono HBW.out.size)).mono HB0.out.size))
            have HO4 := Lib.hid (World.ownsRow.mono o4 (show w.heap.size ≤ wq.heap.size by have := HBW.out.size; omega))
            clear o1 o3 o4 g1 g3 g4 b1 b3 b4
            go_wp2
            go_ret
            exact ⟨_, rfl, by rw [HRR.out]; exact HO4.out, HB4.out⟩
end Go.Proofs.Ytfkdkdkdpenblaa

namespace Go.Proofs.Ytfkdkdkdpenblaa
open Go.RowKit
theorem Dk.right_step {s : ByteArray} {k : Nat} (h : k < s.size) : (s.data.toList.take (k + 1)).all Dk.okc = ((s.data.toList.take k).all Dk.okc && Dk.okc s[k]) := by
  have hl : k < s.data.toList.length := by rw [Ty.length_data]; exact h
  rw [List.take_succ_eq_append_getElem hl, List.all_append]
  simp only [List.all_cons, List.all_nil, Bool.and_true]
  rfl
theorem Dk.okc_ways (b : UInt8) : (Dk.okc b = true ∧ ((97 ≤ b.toNat ∧ b.toNat ≤ 122) ∨ (48 ≤ b.toNat ∧ b.toNat ≤ 57) ∨ b.toNat = 46)) ∨
    (Dk.okc b = false ∧ (b.toNat < 46 ∨ b.toNat = 47 ∨ (58 ≤ b.toNat ∧ b.toNat < 97) ∨ 122 < b.toNat)) := by
  unfold Dk.okc
  simp only [Bool.or_eq_true, Bool.and_eq_true, decide_eq_true_eq, beq_iff_eq, Bool.or_eq_false_iff, Bool.and_eq_false_iff, decide_eq_false_iff_not, beq_eq_false_iff_ne]
  omega
set_option maxHeartbeats 2000000 in
set_option maxRecDepth 100000 in
theorem Dk.rright_c (s : ByteArray) (hs : s.size ≤ 140737488355328) (w : World) :
    Calls Try.prog 33 #[.string s] w fun e w' => e = .returned (.bool (Dk.right s.data.toList)) ∧ w' = w := by
  have HS := Lib.hid hs
  have HST : Hid (∀ k (h : k < s.size), (s.data.toList.take (k + 1)).all Dk.okc = ((s.data.toList.take k).all Dk.okc && Dk.okc s[k])) := Lib.hid fun k h => Dk.right_step h
  have HR : Hid (Dk.right s.data.toList = (s.data.toList.all Dk.okc && (decide (1 ≤ s.size) && decide (s.size ≤ 12)))) := Lib.hid (by unfold Dk.right; rw [Ty.length_data])
  have HB : Hid (∀ k, (s.data.toList.take k).all Dk.okc = false → s.data.toList.all Dk.okc = false) := Lib.hid fun k h => by
    cases ha : s.data.toList.all Dk.okc with
    | false => rfl
    | true =>
      have : (s.data.toList.take k).all Dk.okc = true := List.all_eq_true.2 fun x hx => List.all_eq_true.1 ha x (List.mem_of_mem_take hx)
      rw [this] at h
      cases h
  go_enter Try.func33, Try.ntmps33
  go_wp2
  go_loop [3] (fun i => ∃ k : Nat, k ≤ s.size ∧ i = .int .i64 k ∧ (s.data.toList.take k).all Dk.okc = true) (fun i => s.size - (intOf i).toNat)
  case atStart => exact ⟨0, by omega, rfl, by simp⟩
  case round =>
    obtain ⟨k, hk, rfl, hp⟩ := hrel
    have HP := Lib.hid hp
    have hk0 : (0 : Int) ≤ (k : Int) := by omega
    clear hp
    by_cases hl : k < s.size
    · have hki : (k : Int) < (s.size : Int) := by omega
      have hks : (k : Int) < 9223372036854775807 := by have := HS.out; omega
      have HN := Lib.hid (HST.out k hl)
      have hw := Dk.okc_ways s[k]
      generalize hbb : s[k] = b at HN hw
      rcases hw with ⟨ho, hw⟩ | ⟨ho, hw⟩
      · rw [ho, HP.out] at HN
        rcases hw with ⟨h1, h2⟩ | ⟨h1, h2⟩ | h1
        · have i1 : ¬ (b.toNat : Int) < 97 := by omega
          have i2 : ¬ (b.toNat : Int) > 122 := by omega
          clear h1 h2 hs
          go_wp2
          go_round
          case rel => exact ⟨k + 1, by omega, by simp, HN.out⟩
          case measure => simp [intOf]; omega
        · have i1 : (b.toNat : Int) < 97 := by omega
          have i2 : ¬ (b.toNat : Int) < 48 := by omega
          have i3 : ¬ (b.toNat : Int) > 57 := by omega
          clear h1 h2 hs
          go_wp2
          go_round
          case rel => exact ⟨k + 1, by omega, by simp, HN.out⟩
          case measure => simp [intOf]; omega
        · have i0 : (b.toNat : Int) = 46 := by omega
          have i1 : (b.toNat : Int) < 97 := by omega
          have i2 : (b.toNat : Int) < 48 := by omega
          clear h1 hs
          go_wp2
          go_round
          case rel => exact ⟨k + 1, by omega, by simp, HN.out⟩
          case measure => simp [intOf]; omega
      · rw [ho, Bool.and_false] at HN
        have HE : Hid (Dk.right s.data.toList = false) := Lib.hid (by rw [HR.out, HB.out _ HN.out]; rfl)
        rcases hw with h1 | h1 | ⟨h1, h2⟩ | h1
        · have i0 : ((b.toNat : Int) != 46) = true := by rw [bne_iff_ne]; omega
          have i1 : (b.toNat : Int) < 97 := by omega
          have i2 : (b.toNat : Int) < 48 := by omega
          clear h1 hs
          go_wp2
          go_ret
          exact ⟨by rw [HE.out]; rfl, rfl⟩
        · have i0 : ((b.toNat : Int) != 46) = true := by rw [bne_iff_ne]; omega
          have i1 : (b.toNat : Int) < 97 := by omega
          have i2 : (b.toNat : Int) < 48 := by omega
          clear h1 hs
          go_wp2
          go_ret
          exact ⟨by rw [HE.out]; rfl, rfl⟩
        · have i0 : ((b.toNat : Int) != 46) = true := by rw [bne_iff_ne]; omega
          have i1 : (b.toNat : Int) < 97 := by omega
          have i2 : ¬ (b.toNat : Int) < 48 := by omega
          have i3 : (b.toNat : Int) > 57 := by omega
          clear h1 h2 hs
          go_wp2
          go_ret
          exact ⟨by rw [HE.out]; rfl, rfl⟩
        · have i0 : ((b.toNat : Int) != 46) = true := by rw [bne_iff_ne]; omega
          have i1 : ¬ (b.toNat : Int) < 97 := by omega
          have i2 : ¬ (b.toNat : Int) < 48 := by omega
          have i3 : (b.toNat : Int) > 57 := by omega
          have i4 : (b.toNat : Int) > 122 := by omega
          clear h1 hs
          go_wp2
          go_ret
          exact ⟨by rw [HE.out]; rfl, rfl⟩
    · obtain rfl : k = s.size := by omega
      have hki : ¬ (s.size : Int) < (s.size : Int) := by omega
      have HP2 : Hid (s.data.toList.all Dk.okc = true) := Lib.hid (by
        have := HP.out
        rwa [List.take_of_length_le (by rw [Ty.length_data]; exact Nat.le_refl _)] at this)
      by_cases h1 : 1 ≤ s.size
      · have j1 : (s.size : Int) ≥ 1 := by omega
        by_cases h2 : s.size ≤ 12
        · have j2 : (s.size : Int) ≤ 12 := by omega
          have HE : Hid (Dk.right s.data.toList = true) := Lib.hid (by rw [HR.out, HP2.out]; simp [h1, h2])
          clear h1 h2 hs
          go_wp2
          go_ret
          exact ⟨by rw [HE.out]; rfl, rfl⟩
        · have j2 : ¬ (s.size : Int) ≤ 12 := by omega
          have HE : Hid (Dk.right s.data.toList = false) := Lib.hid (by rw [HR.out, HP2.out]; simp [h2])
          clear h1 h2 hs
          go_wp2
          go_ret
          exact ⟨by rw [HE.out]; rfl, rfl⟩
      · have j1 : ¬ (s.size : Int) ≥ 1 := by omega
        have HE : Hid (Dk.right s.data.toList = false) := Lib.hid (by rw [HR.out, HP2.out]; simp [h1])
        clear h1 hs
        go_wp2
        go_ret
        exact ⟨by rw [HE.out]; rfl, rfl⟩
/-- A change, as the program has it. -/
def Dk.encC (c : Dk.Ch) : List Value := [.string (Ty.S c.a), .string (Ty.S c.b), .int .i64 c.f]
theorem Dk.encC_len (c : Dk.Ch) : (Dk.encC c).length = 3 := rfl
theorem Dk.encC_one (c : Dk.Ch) : ∀ u ∈ Dk.encC c, u.oneCell' = true := by
  intro u hu
  simp only [Dk.encC, List.mem_cons, List.not_mem_nil, or_false] at hu
  rcases hu with rfl | rfl | rfl <;> rfl
theorem Dk.infoC : (Try.prog.info? 88).map (fun i => (i.zero, i.size, i.bytes)) = some (some (.agg #[.string ⟨#[]⟩, .string ⟨#[]⟩, .int .i64 0]), 3, 40) := by kernel_rfl
/-- So long at most. -/
structure Dk.Short (l : Dk.Dir) : Prop where
  len : l.length ≤ 1048576
  names : ∀ y ∈ l, y.1.length ≤ 1048576
theorem Dk.Dat.of_own {base : Nat} {w : World} {v : Value} {l : Dk.Dir} {P : Nat → Prop} (h : Dk.Down base w v l) (hb : ∀ b, base ≤ b → P b) : Dk.Dat P w v l := (Dk.Own.at Dk.encN_len h).imp fun b hb' => hb b hb'.1
set_option maxHeartbeats 2000000 in
set_option maxRecDepth 100000 in
theorem Dk.rapply_c {P : Nat → Prop} (v : Value) (l : Dk.Dir) (c : Dk.Ch) (w : World) (hv : Dk.Dat P w v l) (hl : Dk.Short l) (ha : c.a.length ≤ 1048576) (hb : c.b.length ≤ 1048576) :
    Calls Try.prog 67 #[v, .agg #[.string (Ty.S c.a), .string (Ty.S c.b), .int .i64 c.f]] w fun e w' => ∃ u, e = .returned u ∧ Dk.Dat (fun b => P b ∨ w.heap.size ≤ b) w' u (Dk.apply l c) ∧ Below w.heap.size w w' := by
  obtain ⟨a, b, f⟩ := c
  simp only at ha hb ⊢
  obtain ⟨wb, hwb⟩ : ∃ wb, wb = w.alloc (.cells #[.string (Ty.S a), .string (Ty.S b), .int .i64 f] 88) := ⟨_, rfl⟩
  have hb0 : Below w.heap.size w wb := by rw [hwb]; exact (Below.refl _ w).alloc (Nat.le_refl _) _
  have d0 : wb.cell? ⟨w.heap.size, 0, none⟩ = some (.string (Ty.S a)) := by rw [hwb]; exact Kn.cell_new w _ _ 0 _ rfl
  have d1 : wb.cell? ⟨w.heap.size, 1, none⟩ = some (.string (Ty.S b)) := by rw [hwb]; exact Kn.cell_new w _ _ 1 _ rfl
  have d2 : wb.cell? ⟨w.heap.size, 2, none⟩ = some (.int .i64 f) := by rw [hwb]; exact Kn.cell_new w _ _ 2 _ rfl
  have hsz : wb.heap.size = w.heap.size + 1 := by rw [hwb]; exact World.size_alloc ..
  have hvb := hv.kept hb0
  have HA : Hid (∀ W, Below wb.heap.size wb W → W.cell? ⟨w.heap.size, 0, none⟩ = some (.string (Ty.S a)) ∧ W.cell? ⟨w.heap.size, 1, none⟩ = some (.string (Ty.S b)) ∧ W.cell? ⟨w.heap.size, 2, none⟩ = some (.int .i64 f)) := Lib.hid fun W g => by
    have hlt : w.heap.size < wb.heap.size := by omega
    exact ⟨(g.cell (p := ⟨w.heap.size, 0, none⟩) hlt).trans d0, (g.cell (p := ⟨w.heap.size, 1, none⟩) hlt).trans d1, (g.cell (p := ⟨w.heap.size, 2, none⟩) hlt).trans d2⟩
  have HB0 := Lib.hid hb0
  have HV := Lib.hid hvb
  have HLL := Lib.hid hl
  have HAL := Lib.hid ha
  have HBL := Lib.hid hb
  by_cases hbe : b = []
  · have hx : (Ty.S b).toList.isEmpty = true := by rw [Tx.S_toList, hbe]; rfl
    by_cases hf : f < 0
    · have HE : Hid (Dk.apply l ⟨a, b, f⟩ = Dk.wo l a) := Lib.hid (by unfold Dk.apply; rw [if_neg (by simpa using hbe), if_pos hf])
      have cw := Dk.rwithout_c v l a wb hvb hl.len
      generalize Ty.S a = sa at HA d0 hwb cw ⊢
      generalize Ty.S b = sb at HA d1 hwb hx ⊢
      clear hv hb0 hvb hl ha hb hbe
      go_enter Try.func67, Try.ntmps67
      go_wp2_with fail
      rw [← hwb]
      with_reducible refine cw.mono ?_
      rintro e w1 ⟨u, rfl, hO1, g1⟩
      have HG := Lib.hid (HB0.out.trans (g1.mono HB0.out.size))
      have HO := Lib.hid (Dk.Dat.of_own (P := fun b => P b ∨ w.heap.size ≤ b) hO1 fun b hb => .inr (by omega))
      clear cw hO1 g1 hwb d0 d1 d2
      go_wp2
      go_ret
      exact ⟨_, rfl, by rw [HE.out]; exact HO.out, HG.out⟩
    · obtain ⟨g, rfl⟩ : ∃ g : Nat, f = (g : Int) := ⟨f.toNat, by omega⟩
      have HE : Hid (Dk.apply l ⟨a, b, (g : Int)⟩ = Dk.wi l (a, g)) := Lib.hid (by
        unfold Dk.apply
        rw [if_neg (by simpa using hbe), if_neg hf]
        rfl)
      have cw := Dk.rwith_c v l (a, g) wb hvb hl.len ha hl.names
      simp only at cw
      have hg0 : (0 : Int) ≤ (g : Int) := by omega
      generalize Ty.S a = sa at HA d0 hwb cw ⊢
      generalize Ty.S b = sb at HA d1 hwb hx ⊢
      clear hv hb0 hvb hl ha hb hbe hf
      go_enter Try.func67, Try.ntmps67
      go_wp2_with fail
      rw [← hwb]
      with_reducible refine cw.mono ?_
      rintro e w1 ⟨u, rfl, hO1, g1⟩
      have HG := Lib.hid (HB0.out.trans (g1.mono HB0.out.size))
      have HO := Lib.hid (Dk.Dat.of_own (P := fun b => P b ∨ w.heap.size ≤ b) hO1 fun b hb => .inr (by omega))
      clear cw hO1 g1 hwb d0 d1 d2
      go_wp2
      go_ret
      exact ⟨_, rfl, by rw [HE.out]; exact HO.out, HG.out⟩
  · have hx : (Ty.S b).toList.isEmpty = false := by
      rw [Tx.S_toList]
      cases b with
      | nil => exact absurd rfl hbe
      | cons _ _ => rfl
    have ca := Dk.rat_c v l a wb hvb hl.len
    cases hlk : Dk.look l a with
    | none =>
      have HE : Hid (Dk.apply l ⟨a, b, f⟩ = l) := Lib.hid (by unfold Dk.apply; rw [if_pos (by simpa using hbe)]; simp only; rw [hlk])
      have HV2 := Lib.hid (hvb.imp (P' := fun b => P b ∨ w.heap.size ≤ b) fun _ h => .inl h)
      have HW : Hid (∀ e, Dk.Where l a e → e = .returned (.int .i64 (-1))) := Lib.hid fun e h => by
        rcases h with ⟨i, g, _, _, h, _⟩ | ⟨_, h⟩
        · rw [hlk] at h; cases h
        · exact h
      generalize Ty.S a = sa at HA d0 hwb ca ⊢
      generalize Ty.S b = sb at HA d1 hwb hx ⊢
      clear hv hb0 hvb hl ha hb hbe hlk
      go_enter Try.func67, Try.ntmps67
      go_wp2_with fail
      rw [← hwb]
      with_reducible refine ca.mono ?_
      rintro e w1 ⟨hW, h1⟩
      subst w1
      obtain rfl := HW.out e hW
      clear ca hW hwb d0 d1 d2
      go_wp2
      go_ret
      exact ⟨_, rfl, by rw [HE.out]; exact HV2.out, HB0.out⟩
    | some g =>
      have HE : Hid (Dk.apply l ⟨a, b, f⟩ = Dk.wi (Dk.wo l a) (b, g)) := Lib.hid (by unfold Dk.apply; rw [if_pos (by simpa using hbe)]; simp only; rw [hlk])
      have HW : Hid (∀ e, Dk.Where l a e → ∃ i : Nat, i < l.length ∧ l[i]? = some (a, g) ∧ e = .returned (.int .i64 (i : Int))) := Lib.hid fun e h => by
        rcases h with ⟨i, g', hi, hl', h, he⟩ | ⟨h, _⟩
        · rw [hlk] at h
          cases h
          exact ⟨i, hi, hl', he⟩
        · rw [hlk] at h; cases h
      have cw := Dk.rwithout_c v l a wb hvb hl.len
      have CX : Hid (∀ (v2 : Value) (w2 : World), Dk.Down wb.heap.size w2 v2 (Dk.wo l a) → Calls Try.prog 74 #[v2, .agg #[.string (Ty.S b), .int .i64 (g : Int)]] w2 fun e w' => ∃ u, e = .returned u ∧ Dk.Down w2.heap.size w' u (Dk.wi (Dk.wo l a) (b, g)) ∧ Below w2.heap.size w2 w') := Lib.hid fun v2 w2 h =>
        Dk.rwith_c v2 (Dk.wo l a) (b, g) w2 (Dk.Own.at Dk.encN_len h) (Nat.le_trans (Dk.len_wo _ _) HLL.out.len) HBL.out fun y hy => HLL.out.names y (Dk.mem_wo.1 hy).1
      generalize Dk.wi (Dk.wo l a) (b, g) = R at HE CX
      generalize Dk.wo l a = D at cw CX
      generalize hsa : Ty.S a = sa at HA d0 hwb ca cw ⊢
      generalize Ty.S b = sb at HA d1 hwb hx CX ⊢
      clear hv hb0 hl ha hb hbe hlk
      go_enter Try.func67, Try.ntmps67
      go_wp2_with fail
      rw [← hwb]
      with_reducible refine ca.mono ?_
      rintro e w1 ⟨hW, h1⟩
      subst w1
      obtain ⟨i, hi, hig, rfl⟩ := HW.out e hW
      obtain ⟨ad, cp, rfl, hcp, hh⟩ := hvb
      rcases hh with ⟨h0, _⟩ | ⟨b2, o2, cs, fr, rfl, hP2, hb2, hcl⟩
      · rw [h0] at hi; exact absurd hi (by simp)
      · have hc : wb.cell? ⟨b2, o2 + i * 2 + 1, none⟩ = some (.int .i64 (g : Int)) := hcl i 1 _ hig (by omega)
        have hi0 : (0 : Int) ≤ (i : Int) := by omega
        have hi1 : ¬ (i : Int) < 0 := by omega
        have hi2 : (i : Int) < (l.length : Int) := by omega
        have HHC := Lib.hid (And.intro hc hwb)
        clear ca hW hcl hb2 hig hsa hwb
        go_wp2_with fail
        with_reducible refine cw.mono ?_
        rintro e w1 ⟨u, rfl, hO1, g1⟩
        obtain ⟨d0', d1', d2'⟩ := HA.out w1 g1
        have cx := CX.out u w1 hO1
        have hs1 := g1.size
        have HG := Lib.hid (HB0.out.trans (g1.mono HB0.out.size))
        clear cw hO1 g1 d0 d1 d2 CX hc
        go_wp2_with fail
        with_reducible refine cx.mono ?_
        rintro e w2 ⟨u2, rfl, hO2, g2⟩
        have HG2 := Lib.hid (HG.out.trans (g2.mono HG.out.size))
        have HO := Lib.hid (Dk.Dat.of_own (P := fun b => P b ∨ w.heap.size ≤ b) hO2 fun b hb => .inr (by omega))
        clear cx hO2 g2 d0' d1' d2'
        go_wp2
        go_ret
        exact ⟨_, rfl, by rw [HE.out]; exact HO.out, HG2.out⟩
end Go.Proofs.Ytfkdkdkdpenblaa
