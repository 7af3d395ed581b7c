/-
  The walk of the law KindsCols.
-/
import Derived.Test.YtaignjeokophlaaL21
import Derived.Deep.RegionHeld3
namespace Go.Proofs.Ytaignjeokophlaa
open Go.RowKit
/-- The least error of so many columns. -/
def Kn.upTo (s : List Kn.C) (r : List Kn.V) (k : Nat) : Int := if Kn.fitsAll (s.take k) (r.take k) = true then 0 else 6
theorem Kn.fitsAll_snoc : ∀ (s : List Kn.C) (r : List Kn.V) (c : Kn.C) (v : Kn.V), s.length = r.length → Kn.fitsAll (s ++ [c]) (r ++ [v]) = (Kn.fitsAll s r && Kn.fits c v)
  | [], [], c, v, _ => by simp [Kn.fitsAll]
  | [], _ :: _, _, _, h => by simp at h
  | _ :: _, [], _, _, h => by simp at h
  | x :: s, y :: r, c, v, h => by
    simp only [List.cons_append, Kn.fitsAll]
    rw [Kn.fitsAll_snoc s r c v (by simpa using h), Bool.and_assoc]
theorem Kn.upTo_step (s : List Kn.C) (r : List Kn.V) (k : Nat) (c : Kn.C) (v : Kn.V) (hc : s[k]? = some c) (hv : r[k]? = some v) (hn : s.length = r.length) : Kn.upTo s r (k + 1) = if Kn.fits c v = true then Kn.upTo s r k else 6 := by
  have e : Kn.fitsAll (s.take (k + 1)) (r.take (k + 1)) = (Kn.fitsAll (s.take k) (r.take k) && Kn.fits c v) := by
    rw [List.take_add_one, List.take_add_one, hc, hv]
    exact Kn.fitsAll_snoc _ _ _ _ (by simp [hn])
  unfold Kn.upTo
  rw [e]
  cases Kn.fits c v <;> simp
theorem Kn.upTo_end (s : List Kn.C) (r : List Kn.V) (hn : s.length = r.length) : Kn.upTo s r s.length = if Kn.fitsAll s r = true then 0 else 6 := by
  unfold Kn.upTo
  rw [List.take_length, hn, List.take_length]
/-- One value behind a key. -/
theorem Kn.fitsE_two (c : Kn.C) (v : Kn.V) (h : c.good = true) : Kn.fitsE [⟨1, false⟩, c] [⟨false, 1, ⟨#[]⟩⟩, v] = if Kn.fits c v = true then 0 else 6 := by
  have hR : Kn.right [⟨1, false⟩, c] = true := by
    unfold Kn.right
    simp only [List.all_cons, h, Kn.headOk, List.all_nil]
    rfl
  unfold Kn.fitsE
  rw [hR]
  have h1 : Kn.fits ⟨1, false⟩ ⟨false, 1, ⟨#[]⟩⟩ = true := by simp [Kn.fits]
  simp [Kn.fitsAll, h1]
theorem Kn.cols_vals (w : World) (x y : Kn.C) (a b : Kn.V) (t t' : TypeId) :
    (Kn.Cols ((w.alloc (.cells #[.int .i64 x.k, .bool x.null, .int .i64 y.k, .bool y.null] t)).alloc (.cells #[.bool a.null, .int .i64 a.n, .string a.s, .bool b.null, .int .i64 b.n, .string b.s] t')) (.slice (some ⟨w.heap.size, 0, none⟩) 2 2) [x, y] ∧
     Kn.Vals ((w.alloc (.cells #[.int .i64 x.k, .bool x.null, .int .i64 y.k, .bool y.null] t)).alloc (.cells #[.bool a.null, .int .i64 a.n, .string a.s, .bool b.null, .int .i64 b.n, .string b.s] t')) (.slice (some ⟨w.heap.size + 1, 0, none⟩) 2 2) [a, b]) ∧
    (Kn.Cols ((w.alloc (.cells #[.bool a.null, .int .i64 a.n, .string a.s, .bool b.null, .int .i64 b.n, .string b.s] t')).alloc (.cells #[.int .i64 x.k, .bool x.null, .int .i64 y.k, .bool y.null] t)) (.slice (some ⟨w.heap.size + 1, 0, none⟩) 2 2) [x, y] ∧
     Kn.Vals ((w.alloc (.cells #[.bool a.null, .int .i64 a.n, .string a.s, .bool b.null, .int .i64 b.n, .string b.s] t')).alloc (.cells #[.int .i64 x.k, .bool x.null, .int .i64 y.k, .bool y.null] t)) (.slice (some ⟨w.heap.size, 0, none⟩) 2 2) [a, b]) := by
  refine ⟨⟨(Kn.cols2 w x y t).alloc _, ?_⟩, ?_, (Kn.vals2 w a b t').alloc _⟩
  · have := Kn.vals2 (w.alloc (.cells #[.int .i64 x.k, .bool x.null, .int .i64 y.k, .bool y.null] t)) a b t'
    rwa [World.size_alloc] at this
  · have := Kn.cols2 (w.alloc (.cells #[.bool a.null, .int .i64 a.n, .string a.s, .bool b.null, .int .i64 b.n, .string b.s] t')) x y t
    rwa [World.size_alloc] at this
set_option maxHeartbeats 4000000 in
theorem Kn.lawCols_w (v u : Value) (s : List Kn.C) (r : List Kn.V) (w : World) (hs : Kn.Cols w v s) (hr : Kn.Vals w u r) :
    Calls Try.prog 9 #[v, u] w fun e w' => e = .returned (.bool true) ∧ Below w.heap.size w w' := by
  have cR := Kn.right_c v s
  have hvs := hs
  have hur := hr
  cases hR : Kn.right s
  · rw [hR] at cR
    obtain ⟨a, c, rfl, h⟩ := hs
    obtain ⟨a2, c2, rfl, h2⟩ := hr
    go_enter Try.func9, Try.ntmps9
    go_wp2_with fail
    refine (Kn.lives_c _).mono ?_
    rintro e w1 ⟨rfl, g1⟩
    go_wp2_with fail
    refine (cR _ (hvs.later g1)).mono ?_
    rintro e w2 ⟨rfl, g2⟩
    have g12 := g1.trans (g2.mono g1.size)
    go_wp2_with fail
    refine (Kn.lives_c _).mono ?_
    rintro e w3 ⟨rfl, g3⟩
    go_wp2
    go_ret
    exact ⟨rfl, g12.trans (g3.mono g12.size)⟩
  · rw [hR] at cR
    obtain ⟨a, c, rfl, h⟩ := hs
    obtain ⟨a2, c2, rfl, h2⟩ := hr
    by_cases hn : s.length = r.length
    · have hz : ((s.length : Int) != (s.length : Int)) = false := by simp
      have hl := Kn.right_len hR
      have HA := Lib.hid (Kn.right_all hR)
      have HRT := Lib.hid hR
      rcases h with rfl | ⟨b, o, rfl, hlt, hm, hc⟩
      · simp at hl
      · rcases h2 with rfl | ⟨b2, o2, rfl, hlt2, hm2, hc2⟩
        · simp at hn; simp [hn] at hl
        · have HC := Lib.hid hc
          have HC2 := Lib.hid hc2
          have HVS := Lib.hid hvs
          have HUR := Lib.hid hur
          have HL := Lib.hid hn
          have hln : r.length = s.length := hn.symm
          rw [hln]
          rw [hln] at hm2
          clear hR hc hc2 hvs hur hn hln
          go_enter Try.func9, Try.ntmps9
          go_wp2_with fail
          refine (Kn.lives_c _).mono ?_
          rintro e w1 ⟨rfl, g1⟩
          go_wp2_with fail
          refine (cR _ (HVS.out.later g1)).mono ?_
          rintro e w2 ⟨rfl, g2⟩
          have g12 := g1.trans (g2.mono g1.size)
          clear g1 g2 cR
          go_wp2_with fail
          go_loopw [5, 6] (fun all i wr => ∃ k : Nat, k ≤ s.length ∧ all = .int .i64 (Kn.upTo s r k) ∧ i = .int .i64 k ∧ Below w.heap.size w wr) (fun _ i _ => s.length - (intOf i).toNat)
          case atStart => exact ⟨0, by omega, rfl, rfl, g12⟩
          case round =>
            obtain ⟨k, hk, rfl, rfl, hb⟩ := hrel
            by_cases hkl : k < s.length
            · have hx := List.getElem?_eq_getElem hkl
              have hy := List.getElem?_eq_getElem (show k < r.length by have := HL.out; omega)
              generalize s[k] = x at hx
              generalize r[k] = y at hy
              have HU := Lib.hid (Kn.upTo_step s r k x y hx hy HL.out)
              have hgood := List.all_eq_true.1 HA.out x (List.mem_of_getElem? hx)
              have e0 := (hb.cell (p := ⟨b, o + k * 2, none⟩) hlt).trans (HC.out k x hx).1
              have e1 := (hb.cell (p := ⟨b, o + k * 2 + 1, none⟩) hlt).trans (HC.out k x hx).2
              have hy2 := HC2.out k y hy
              have f0 := (hb.cell (p := ⟨b2, o2 + k * 3, none⟩) hlt2).trans hy2.c0
              have f1 := (hb.cell (p := ⟨b2, o2 + k * 3 + 1, none⟩) hlt2).trans hy2.c1
              have f2 := (hb.cell (p := ⟨b2, o2 + k * 3 + 2, none⟩) hlt2).trans hy2.c2
              have dk : (k : Int) < (s.length : Int) := by omega
              have dk0 : (0 : Int) ≤ (k : Int) := by omega
              have hltr : b < wr.heap.size := Nat.lt_of_lt_of_le hlt hb.size
              have hlt2r : b2 < wr.heap.size := Nat.lt_of_lt_of_le hlt2 hb.size
              have hcv := Kn.cols_vals wr ⟨1, false⟩ x ⟨false, 1, ⟨#[]⟩⟩ y 43 26
              have cF := fun v u wx h1 h2 => Kn.fits_c v u [⟨1, false⟩, x] [⟨false, 1, ⟨#[]⟩⟩, y] wx h1 h2
              rw [Kn.fitsE_two x y hgood] at cF
              obtain ⟨q, hq, hqw⟩ : ∃ q : Int, (if Kn.fits x y = true then (0 : Int) else 6) = q ∧ ((q = 0 ∧ Kn.upTo s r (k + 1) = Kn.upTo s r k) ∨ (q = 6 ∧ Kn.upTo s r (k + 1) = 6)) := by
                rw [HU.out]
                cases Kn.fits x y
                · exact ⟨_, rfl, .inr ⟨rfl, rfl⟩⟩
                · exact ⟨_, rfl, .inl ⟨rfl, rfl⟩⟩
              rw [hq] at cF
              clear hq HU
              generalize Kn.upTo s r k = E at hqw ⊢
              have HQ := Lib.hid hqw
              clear hqw
              simp only at hcv
              have HV := Lib.hid hcv
              clear hcv hx hy hy2 hgood
              go_upto_region 7 with fail
              go_cut [7] (fun s7 wx => s7 = .int .i64 q ∧ Below w.heap.size w wx)
              case first =>
                have hS : ∀ wx : World, Below wr.heap.size wr wx → wx.cell? ⟨b, o + k * 2, none⟩ = some (.int .i64 x.k) ∧ wx.cell? ⟨b, o + k * 2 + 1, none⟩ = some (.bool x.null) ∧ wx.cell? ⟨b2, o2 + k * 3, none⟩ = some (.bool y.null) ∧ wx.cell? ⟨b2, o2 + k * 3 + 1, none⟩ = some (.int .i64 y.n) ∧ wx.cell? ⟨b2, o2 + k * 3 + 2, none⟩ = some (.string y.s) := fun wx hbx =>
                  ⟨(hbx.cell (p := ⟨b, o + k * 2, none⟩) hltr).trans e0, (hbx.cell (p := ⟨b, o + k * 2 + 1, none⟩) hltr).trans e1, (hbx.cell (p := ⟨b2, o2 + k * 3, none⟩) hlt2r).trans f0, (hbx.cell (p := ⟨b2, o2 + k * 3 + 1, none⟩) hlt2r).trans f1, (hbx.cell (p := ⟨b2, o2 + k * 3 + 2, none⟩) hlt2r).trans f2⟩
                have HS := Lib.hid hS
                have hX1 : ∀ wz : World, Below (((wr.alloc (.cells #[.int .i64 1, .bool false, .int .i64 x.k, .bool x.null] 43)).alloc (.cells #[.bool false, .int .i64 1, .string ⟨#[]⟩, .bool y.null, .int .i64 y.n, .string y.s] 26)).drew).heap.size (((wr.alloc (.cells #[.int .i64 1, .bool false, .int .i64 x.k, .bool x.null] 43)).alloc (.cells #[.bool false, .int .i64 1, .string ⟨#[]⟩, .bool y.null, .int .i64 y.n, .string y.s] 26)).drew) wz → Below wr.heap.size wr wz := fun wz g => (((Below.refl _ wr).alloc (Nat.le_refl _) _).alloc (by simp) _).drew.trans (g.mono (by simp; omega))
                have hX2 : ∀ wz : World, Below (((wr.alloc (.cells #[.bool false, .int .i64 1, .string ⟨#[]⟩, .bool y.null, .int .i64 y.n, .string y.s] 26)).alloc (.cells #[.int .i64 1, .bool false, .int .i64 x.k, .bool x.null] 43)).drew).heap.size (((wr.alloc (.cells #[.bool false, .int .i64 1, .string ⟨#[]⟩, .bool y.null, .int .i64 y.n, .string y.s] 26)).alloc (.cells #[.int .i64 1, .bool false, .int .i64 x.k, .bool x.null] 43)).drew) wz → Below wr.heap.size wr wz := fun wz g => (((Below.refl _ wr).alloc (Nat.le_refl _) _).alloc (by simp) _).drew.trans (g.mono (by simp; omega))
                have HX1 := Lib.hid hX1
                have HX2 := Lib.hid hX2
                have c1 := cF _ _ (((wr.alloc (.cells #[.int .i64 1, .bool false, .int .i64 x.k, .bool x.null] 43)).alloc (.cells #[.bool false, .int .i64 1, .string ⟨#[]⟩, .bool y.null, .int .i64 y.n, .string y.s] 26)).drew) (HV.out.1.1.later (Below.refl _ _).drew) (HV.out.1.2.later (Below.refl _ _).drew)
                have c2 := cF _ _ (((wr.alloc (.cells #[.bool false, .int .i64 1, .string ⟨#[]⟩, .bool y.null, .int .i64 y.n, .string y.s] 26)).alloc (.cells #[.int .i64 1, .bool false, .int .i64 x.k, .bool x.null] 43)).drew) (HV.out.2.1.later (Below.refl _ _).drew) (HV.out.2.2.later (Below.refl _ _).drew)
                have C1 := Lib.hid c1
                have C2 := Lib.hid c2
                clear hX1 hX2 c1 c2 cF
                clear hS e0 e1 f0 f1 f2
                go_region_held3 (fun wx => wx.cell? ⟨b, o + k * 2, none⟩ = some (.int .i64 x.k) ∧ wx.cell? ⟨b, o + k * 2 + 1, none⟩ = some (.bool x.null) ∧ wx.cell? ⟨b2, o2 + k * 3, none⟩ = some (.bool y.null) ∧ wx.cell? ⟨b2, o2 + k * 3 + 1, none⟩ = some (.int .i64 y.n) ∧ wx.cell? ⟨b2, o2 + k * 3 + 2, none⟩ = some (.string y.s))
                  (first
                    | exact HS.out _ (Below.refl _ _).drew
                    | exact HS.out _ ((Below.refl _ _).alloc (Nat.le_refl _) _).drew
                    | exact HS.out _ (((Below.refl _ _).alloc (Nat.le_refl _) _).alloc (by simp) _).drew
                    | with_reducible exact HS.out _ (HX1.out _ gz)
                    | with_reducible exact HS.out _ (HX2.out _ gz))
                  (first
                    | (go_at_call 13; with_reducible refine C1.out.mono ?_; rintro e wz ⟨rfl, gz⟩)
                    | (go_at_call 13; with_reducible refine C2.out.mono ?_; rintro e wz ⟨rfl, gz⟩))
                all_goals
                  go_wp2_with fail
                  go_meet
                  refine ⟨rfl, ?_⟩
                  first
                    | with_reducible exact hb.trans ((HX1.out _ gz).mono hb.size)
                    | with_reducible exact hb.trans ((HX2.out _ gz).mono hb.size)
              case rest =>
                obtain ⟨rfl, hbc⟩ := hcut
                rcases HQ.out with ⟨rfl, h1⟩ | ⟨rfl, h1⟩
                all_goals
                  have H1 := Lib.hid h1
                  clear h1 HQ HV HC HC2 HVS HUR
                  go_wp2
                  go_roundw
                  case rel => exact ⟨k + 1, by omega, by rw [H1.out], by simp, hbc⟩
                  case measure => simp [intOf]; omega
            · obtain rfl : k = s.length := by omega
              have dk : ¬ (s.length : Int) < (s.length : Int) := by omega
              have hU := Kn.upTo_end s r HL.out
              have hvr := HVS.out.later hb
              have hur := HUR.out.later hb
              have cF := Kn.fits_c _ _ s r _ hvr hur
              obtain ⟨x, t, hst, hxn, hxg⟩ := Kn.right_head HRT.out
              have hx0 : s[0]? = some x := by rw [hst]; rfl
              have hlr : 0 < r.length := by have := HL.out; omega
              have hy0 := List.getElem?_eq_getElem hlr
              generalize r[0] = y at hy0
              have hy2 := HC2.out 0 y hy0
              have f0 := (hb.cell (p := ⟨b2, o2 + 0 * 3, none⟩) hlt2).trans hy2.c0
              have f1 := (hb.cell (p := ⟨b2, o2 + 0 * 3 + 1, none⟩) hlt2).trans hy2.c1
              have f2 := (hb.cell (p := ⟨b2, o2 + 0 * 3 + 2, none⟩) hlt2).trans hy2.c2
              have hA : Kn.At wr b2 o2 y := ⟨by simpa using f0, by simpa using f1, by simpa using f2⟩
              have hE : Kn.fitsE s r = Kn.upTo s r s.length := by
                rw [hU]
                unfold Kn.fitsE
                rw [HRT.out, if_pos rfl, if_pos HL.out.symm]
              have hK : Kn.keyE s y = if Kn.fits x y = true then 0 else 6 := by
                unfold Kn.keyE
                rw [HRT.out, hst]
                rfl
              have hstep := Kn.fitsAll_step s r 0 x y hx0 hy0
              rw [List.drop_zero, List.drop_zero] at hstep
              have hW : (Kn.upTo s r s.length = 0 ∧ Kn.keyE s y = 0) ∨ (Kn.upTo s r s.length = 6 ∧ Kn.keyE s y = 0) ∨ (Kn.upTo s r s.length = 6 ∧ Kn.keyE s y = 6) := by
                rw [hU, hK, hstep]
                cases Kn.fits x y <;> cases Kn.fitsAll (s.drop (0 + 1)) (r.drop (0 + 1)) <;> simp
              rw [hE] at cF
              have cK := fun wx hh => Kn.key_c (.slice (some ⟨b, o, none⟩) s.length c) s y wx hh
              have d0 : (0 : Int) < (s.length : Int) := by omega
              have d00 : 0 < s.length := by omega
              clear hU hE hK hstep hst hxn hxg hx0 hy0 hlr hy2 f0 f1 f2 hur HC HC2 HA HRT HUR
              rw [← HL.out] at cF
              rcases hW with ⟨h1, h2⟩ | ⟨h1, h2⟩ | ⟨h1, h2⟩
              all_goals
                rw [h1] at cF ⊢
                rw [h2] at cK
                clear h1 h2
                go_wp2_with fail
                refine cF.mono ?_
                rintro e w3 ⟨rfl, g3⟩
                obtain ⟨y0, y1, y2⟩ := hA.later g3
                have hb3 := hb.trans (g3.mono hb.size)
                go_wp2_with fail
                refine (cK _ (hvr.later g3)).mono ?_
                rintro e w4 ⟨rfl, g4⟩
                go_wp2
                go_ret
                exact ⟨rfl, hb3.trans (g4.mono hb3.size)⟩
    · have hz : ((s.length : Int) != (r.length : Int)) = true := by rw [bne_iff_ne]; omega
      clear hR
      go_enter Try.func9, Try.ntmps9
      go_wp2_with fail
      refine (Kn.lives_c _).mono ?_
      rintro e w1 ⟨rfl, g1⟩
      go_wp2_with fail
      refine (cR _ (hvs.later g1)).mono ?_
      rintro e w2 ⟨rfl, g2⟩
      have g12 := g1.trans (g2.mono g1.size)
      go_wp2_with fail
      refine (Kn.lives_c _).mono ?_
      rintro e w3 ⟨rfl, g3⟩
      go_wp2
      go_ret
      exact ⟨rfl, g12.trans (g3.mono g12.size)⟩
end Go.Proofs.Ytaignjeokophlaa
