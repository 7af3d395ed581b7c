/-
  Contracts of the document's answers for kinds: rows and keys.
-/
import Derived.Test.YtccjfmjgkkpndaaDoorK6
namespace Go.Proofs.YtccjfmjgkkpndaaDoor
open Go.RowKit
theorem Kn.right_all {s : List Kn.C} (h : Kn.right s = true) : s.all Kn.C.good = true := by
  unfold Kn.right at h
  simp only [Bool.and_eq_true] at h
  exact h.2
/-- What the document's test of a value comes to, way by way. -/
theorem Kn.test_ways (c : Kn.C) (v : Kn.V) (h : c.good = true) : (Kn.isK c.k v = false ∧ Kn.fits c v = false) ∨ (Kn.isK c.k v = true ∧ v.null = false ∧ Kn.fits c v = true) ∨ (Kn.isK c.k v = true ∧ v.null = true ∧ c.null = true ∧ Kn.fits c v = true) ∨ (Kn.isK c.k v = true ∧ v.null = true ∧ c.null = false ∧ Kn.fits c v = false) := by
  have := Kn.isK_fits c v h
  rw [this]
  cases Kn.isK c.k v <;> cases v.null <;> cases c.null <;> simp
set_option maxHeartbeats 1000000 in
set_option maxRecDepth 100000 in
theorem Kn.rfits_c (v u : Value) (s : List Kn.C) (r : List Kn.V) (w : World) (hs : Kn.Cols w v s) (hr : Kn.Vals w u r) :
    Calls Tryd.prog 38 #[v, u] w fun e w' => e = .returned (.int .i64 (Kn.fitsE s r)) ∧ Below w.heap.size w w' := by
  have cR := Kn.rRight_c v s
  cases hR : Kn.right s
  · rw [Kn.fitsE_bad hR]
    rw [hR] at cR
    go_enter Tryd.func38, Tryd.ntmps38
    go_wp2_with fail
    refine (cR _ hs).mono ?_
    rintro e w1 ⟨rfl, rfl⟩
    go_wp2
    go_ret
    exact ⟨rfl, Below.refl _ _⟩
  · rw [hR] at cR
    have hl := Kn.right_len hR
    have hall := Kn.right_all hR
    by_cases hn : r.length = s.length
    · have k0 := fun hf => Kn.fitsE_ok (s := s) (r := r) hR hn hf
      have k6 := fun hf => Kn.fitsE_kind (s := s) (r := r) hR hn hf
      generalize hE : Kn.fitsE s r = E at *
      clear hE
      have hs0 := hs
      obtain ⟨a, c, rfl, h⟩ := hs
      obtain ⟨a2, c2, rfl, h2⟩ := hr
      rcases h with rfl | ⟨b, o, rfl, hlt, hm, hc⟩
      · simp at hl
      · rcases h2 with rfl | ⟨b2, o2, rfl, hlt2, hm2, hc2⟩
        · simp at hn; omega
        · rw [hn]
          have HA := Lib.hid hall
          clear hall
          go_enter Tryd.func38, Tryd.ntmps38
          go_wp2_with fail
          refine (cR _ hs0).mono ?_
          rintro e w1 ⟨rfl, rfl⟩
          have hz : ((s.length : Int) != (s.length : Int)) = false := by simp
          go_wp2_with fail
          go_loopw [5] (fun i wr => ∃ k : Nat, k ≤ s.length ∧ i = .int .i64 k ∧ Kn.fitsAll s r = Kn.fitsAll (s.drop k) (r.drop k) ∧ Below w1.heap.size w1 wr) (fun i _ => s.length - (intOf i).toNat)
          case atStart => exact ⟨0, by omega, rfl, rfl, Below.refl _ _⟩
          case round =>
            obtain ⟨k, hk, rfl, hg, hb⟩ := hrel
            have HG := Lib.hid hg
            clear hg
            by_cases hkl : k < s.length
            · have hx := List.getElem?_eq_getElem hkl
              have hy := List.getElem?_eq_getElem (show k < r.length by omega)
              generalize s[k] = x at hx
              generalize r[k] = y at hy
              have HS := Lib.hid (Kn.fitsAll_step s r k x y hx hy)
              have hgood := List.all_eq_true.1 HA.out x (List.mem_of_getElem? hx)
              have e0 := (hb.cell (p := ⟨b, o + k * 2, none⟩) hlt).trans (hc k x hx).1
              have e1 := (hb.cell (p := ⟨b, o + k * 2 + 1, none⟩) hlt).trans (hc k x hx).2
              have hy2 := hc2 k y hy
              have f0 := (hb.cell (p := ⟨b2, o2 + k * 3, none⟩) hlt2).trans hy2.c0
              have f1 := (hb.cell (p := ⟨b2, o2 + k * 3 + 1, none⟩) hlt2).trans hy2.c1
              have f2 := (hb.cell (p := ⟨b2, o2 + k * 3 + 2, none⟩) hlt2).trans hy2.c2
              have dk : (k : Int) < (s.length : Int) := by omega
              have dk0 : (0 : Int) ≤ (k : Int) := by omega
              have hW := Kn.test_ways x y hgood
              have cI : ∀ p : Regrown, Calls Tryd.prog 52 #[.int .i64 x.k, .agg #[.bool y.null, .int .i64 y.n, .string y.s]] (Sort.grow (redrawn wr p.d) p.os) fun e w'' => e = .returned (.bool (Kn.isK x.k y)) ∧ ∃ p : Regrown, w'' = Sort.grow (redrawn wr p.d) p.os := fun p => Calls.regrown_of (Kn.rIs_c x.k y _)
              clear hgood hx hy hy2
              have HK6 := Lib.hid k6
              have HK0 := Lib.hid k0
              have HC := Lib.hid hc
              have HC2 := Lib.hid hc2
              clear k6 k0 hc hc2
              rcases hW with ⟨w1', w2'⟩ | ⟨w1', w2', w3'⟩ | ⟨w1', w2', w3', w4'⟩ | ⟨w1', w2', w3', w4'⟩
              · rw [w1'] at cI
                have HF := Lib.hid w2'
                clear w1' w2'
                have E0 := fun d os => cell_regrown e0 d os
                have E1 := fun d os => cell_regrown e1 d os
                have F0 := fun d os => cell_regrown f0 d os
                have F1 := fun d os => cell_regrown f1 d os
                have F2 := fun d os => cell_regrown f2 d os
                have CI := Lib.hid cI
                clear cI
                go_wp2_with fail
                refine wp_region_quiet_below (by kernel_rfl) (by kernel_rfl) ?_
                repeat (go_big_quiet_step (exact CI.out _))
                refine wpQuiet_nil ?_
                intro _ hw'
                obtain ⟨⟨dq, osq⟩, hw''⟩ := hw'
                subst hw''
                go_wp2
                go_ret
                have he := HK6.out (by rw [HG.out, HS.out, HF.out]; rfl)
                subst he
                exact ⟨rfl, hb.trans ((below_regrown wr dq osq).mono hb.size)⟩
              · rw [w1', w2'] at cI
                rw [w2'] at f0
                have HF := Lib.hid w3'
                clear w1' w2' w3'
                have E0 := fun d os => cell_regrown e0 d os
                have E1 := fun d os => cell_regrown e1 d os
                have F0 := fun d os => cell_regrown f0 d os
                have F1 := fun d os => cell_regrown f1 d os
                have F2 := fun d os => cell_regrown f2 d os
                have CI := Lib.hid cI
                clear cI
                go_wp2_with fail
                refine wp_region_quiet_below (by kernel_rfl) (by kernel_rfl) ?_
                repeat (go_big_quiet_step (exact CI.out _))
                refine wpQuiet_nil ?_
                intro _ hw'
                obtain ⟨⟨dq, osq⟩, hw''⟩ := hw'
                subst hw''
                go_wp2
                go_roundw
                case rel => exact ⟨k + 1, by omega, by simp, by rw [HG.out, HS.out, HF.out]; rfl, hb.trans ((below_regrown wr dq osq).mono hb.size)⟩
                case measure => simp [intOf]; omega
              · rw [w1', w2'] at cI
                rw [w2'] at f0
                rw [w3'] at e1
                have HF := Lib.hid w4'
                clear w1' w2' w3' w4'
                have E0 := fun d os => cell_regrown e0 d os
                have E1 := fun d os => cell_regrown e1 d os
                have F0 := fun d os => cell_regrown f0 d os
                have F1 := fun d os => cell_regrown f1 d os
                have F2 := fun d os => cell_regrown f2 d os
                have CI := Lib.hid cI
                clear cI
                go_wp2_with fail
                refine wp_region_quiet_below (by kernel_rfl) (by kernel_rfl) ?_
                repeat (go_big_quiet_step (exact CI.out _))
                refine wpQuiet_nil ?_
                intro _ hw'
                obtain ⟨⟨dq, osq⟩, hw''⟩ := hw'
                subst hw''
                go_wp2
                go_roundw
                case rel => exact ⟨k + 1, by omega, by simp, by rw [HG.out, HS.out, HF.out]; rfl, hb.trans ((below_regrown wr dq osq).mono hb.size)⟩
                case measure => simp [intOf]; omega
              · rw [w1', w2'] at cI
                rw [w2'] at f0
                rw [w3'] at e1
                have HF := Lib.hid w4'
                clear w1' w2' w3' w4'
                have E0 := fun d os => cell_regrown e0 d os
                have E1 := fun d os => cell_regrown e1 d os
                have F0 := fun d os => cell_regrown f0 d os
                have F1 := fun d os => cell_regrown f1 d os
                have F2 := fun d os => cell_regrown f2 d os
                have CI := Lib.hid cI
                clear cI
                go_wp2_with fail
                refine wp_region_quiet_below (by kernel_rfl) (by kernel_rfl) ?_
                repeat (go_big_quiet_step (exact CI.out _))
                refine wpQuiet_nil ?_
                intro _ hw'
                obtain ⟨⟨dq, osq⟩, hw''⟩ := hw'
                subst hw''
                go_wp2
                go_ret
                have he := HK6.out (by rw [HG.out, HS.out, HF.out]; rfl)
                subst he
                exact ⟨rfl, hb.trans ((below_regrown wr dq osq).mono hb.size)⟩
            · obtain rfl : k = s.length := by omega
              have dk : ¬ (s.length : Int) < (s.length : Int) := by omega
              have he := k0 (HG.out.trans (Kn.fitsAll_end s r _ (by omega)))
              clear k6 k0
              subst he
              go_wp2
              go_ret
              exact ⟨rfl, hb⟩
    · rw [Kn.fitsE_len hR hn]
      obtain ⟨a2, c2, rfl, h2⟩ := hr
      have hs0 := hs
      obtain ⟨a, c, rfl, h⟩ := hs
      have hz : ((r.length : Int) != (s.length : Int)) = true := by rw [bne_iff_ne]; omega
      go_enter Tryd.func38, Tryd.ntmps38
      go_wp2_with fail
      refine (cR _ hs0).mono ?_
      rintro e w1 ⟨rfl, rfl⟩
      go_wp2
      go_ret
      exact ⟨rfl, Below.refl _ _⟩
set_option maxHeartbeats 1000000 in
set_option maxRecDepth 100000 in
theorem Kn.rkey_c (v : Value) (s : List Kn.C) (y : Kn.V) (w : World) (hs : Kn.Cols w v s) :
    Calls Tryd.prog 39 #[v, y.val] w fun e w' => e = .returned (.int .i64 (Kn.keyE s y)) ∧ Below w.heap.size w w' := by
  have cR := Kn.rRight_c v s
  cases hR : Kn.right s
  · have hE : Kn.keyE s y = 4 := by unfold Kn.keyE; rw [hR]; rfl
    rw [hE]
    rw [hR] at cR
    clear hE
    go_enter Tryd.func39, Tryd.ntmps39
    go_wp2_with fail
    refine (cR _ (hs.later ((Below.refl _ _).alloc (Nat.le_refl _) _))).mono ?_
    rintro e w1 ⟨rfl, rfl⟩
    go_wp2
    go_ret
    exact ⟨rfl, (Below.refl _ w).alloc (Nat.le_refl _) _⟩
  · rw [hR] at cR
    obtain ⟨x, t, rfl, hxn, hxg⟩ := Kn.right_head hR
    have hE : Kn.keyE (x :: t) y = if Kn.fits x y = true then 0 else 6 := by unfold Kn.keyE; rw [hR]; rfl
    rw [hE]
    clear hE
    have hW : (y.null = true ∧ (if Kn.fits x y = true then (0 : Int) else 6) = 6) ∨ (y.null = false ∧ Kn.isK x.k y = false ∧ (if Kn.fits x y = true then (0 : Int) else 6) = 6) ∨ (y.null = false ∧ Kn.isK x.k y = true ∧ (if Kn.fits x y = true then (0 : Int) else 6) = 0) := by
      have := Kn.isK_fits x y hxg
      rw [this, hxn]
      cases Kn.isK x.k y <;> cases y.null <;> simp
    have hs0 := hs
    obtain ⟨a, c, rfl, h⟩ := hs
    rcases h with h | ⟨b, o, rfl, hlt, hm, hc⟩
    · cases h
    · obtain ⟨c0, c1⟩ := hc 0 x rfl
      rw [Nat.zero_mul, Nat.add_zero] at c0 c1
      have d0 : (0 : Int) < ((x :: t).length : Int) := by rw [List.length_cons]; omega
      have d00 : 0 < (x :: t).length := by rw [List.length_cons]; omega
      have gN : Below w.heap.size w (w.alloc (.cells #[.bool y.null, .int .i64 y.n, .string y.s] 43)) := (Below.refl _ _).alloc (Nat.le_refl _) _
      have hy := Kn.At.new w y 43
      have hs1 := hs0.later gN
      clear hxn hxg hc hs0
      generalize (x :: t).length = m at *
      have e0 := (gN.cell (p := ⟨b, o, none⟩) hlt).trans c0
      have cI := Kn.rIs_c x.k y
      unfold Kn.V.val at cI ⊢
      rcases hW with ⟨hn, hE⟩ | ⟨hn, hi, hE⟩ | ⟨hn, hi, hE⟩
      · obtain ⟨f0, f1, f2⟩ := hy
        rw [hE]
        rw [hn] at f0 gN hs1 e0 f1 f2 ⊢
        clear hE c0 c1 cI hn
        go_enter Tryd.func39, Tryd.ntmps39
        go_wp2_with fail
        refine (cR _ hs1).mono ?_
        rintro e w1 ⟨rfl, rfl⟩
        go_wp2_with fail
        go_quiet (fail)
        go_wp2
        go_ret
        exact ⟨rfl, Kn.below_drewN gN _⟩
      all_goals
        obtain ⟨f0, f1, f2⟩ := hy
        rw [hE]
        rw [hi] at cI
        rw [hn] at f0 gN hs1 e0 f1 f2 cI ⊢
        clear hE c0 c1 hn hi
        go_enter Tryd.func39, Tryd.ntmps39
        go_wp2_with fail
        refine (cR _ hs1).mono ?_
        rintro e w1 ⟨rfl, rfl⟩
        go_wp2_with fail
        generalize w.alloc (.cells #[.bool false, .int .i64 y.n, .string y.s] 43) = wn at f0 f1 f2 e0 gN ⊢
        have E0 := fun d os => cell_regrown e0 d os
        have F0 := fun d os => cell_regrown f0 d os
        have F1 := fun d os => cell_regrown f1 d os
        have F2 := fun d os => cell_regrown f2 d os
        have CI : Hid (∀ p : Regrown, _) := Lib.hid fun p : Regrown => Calls.regrown_of (d := p.d) (os := p.os) (w := wn) (cI _)
        clear cI
        refine wp_region_quiet_below (by kernel_rfl) (by kernel_rfl) ?_
        repeat (go_big_quiet_step (exact CI.out _))
        refine wpQuiet_nil ?_
        intro _ hw'
        obtain ⟨⟨dq, osq⟩, hw''⟩ := hw'
        subst hw''
        go_wp2
        go_ret
        exact ⟨rfl, gN.trans ((below_regrown wn dq osq).mono gN.size)⟩
end Go.Proofs.YtccjfmjgkkpndaaDoor
