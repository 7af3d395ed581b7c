/-
  Contracts of package kinds: Fits and Key.
-/
import Derived.Test.YtccjfmjgkkpndaaDoorK4
namespace Go.Proofs.YtccjfmjgkkpndaaDoor
open Go.RowKit
/-- Every value fits its column. -/
def Kn.fitsAll : List Kn.C → List Kn.V → Bool
  | c :: cs, v :: vs => Kn.fits c v && Kn.fitsAll cs vs
  | _, _ => true
/-- The error of a row. -/
def Kn.fitsE (s : List Kn.C) (r : List Kn.V) : Int := if Kn.right s = true then (if r.length = s.length then (if Kn.fitsAll s r = true then 0 else 6) else 7) else 4
/-- The error of a key. -/
def Kn.keyE (s : List Kn.C) (k : Kn.V) : Int := if Kn.right s = true then (match s with | [] => 4 | c :: _ => if Kn.fits c k = true then 0 else 6) else 4
theorem Kn.fitsAll_step (s : List Kn.C) (r : List Kn.V) (k : Nat) (c : Kn.C) (v : Kn.V) (hc : s[k]? = some c) (hv : r[k]? = some v) : Kn.fitsAll (s.drop k) (r.drop k) = (Kn.fits c v && Kn.fitsAll (s.drop (k + 1)) (r.drop (k + 1))) := by
  obtain ⟨h1, rfl⟩ := List.getElem?_eq_some_iff.1 hc
  obtain ⟨h2, rfl⟩ := List.getElem?_eq_some_iff.1 hv
  rw [List.drop_eq_getElem_cons h1, List.drop_eq_getElem_cons h2]
  rfl
theorem Kn.fitsAll_end (s : List Kn.C) (r : List Kn.V) (k : Nat) (h : ¬ k < s.length) : Kn.fitsAll (s.drop k) (r.drop k) = true := by
  rw [List.drop_eq_nil_of_le (by omega)]
  rfl
theorem Kn.fitsE_bad {s : List Kn.C} {r : List Kn.V} (h : Kn.right s = false) : Kn.fitsE s r = 4 := by unfold Kn.fitsE; rw [h]; rfl
theorem Kn.fitsE_len {s : List Kn.C} {r : List Kn.V} (h : Kn.right s = true) (hn : r.length ≠ s.length) : Kn.fitsE s r = 7 := by unfold Kn.fitsE; rw [h, if_pos rfl, if_neg hn]
theorem Kn.fitsE_kind {s : List Kn.C} {r : List Kn.V} (h : Kn.right s = true) (hn : r.length = s.length) (hf : Kn.fitsAll s r = false) : Kn.fitsE s r = 6 := by unfold Kn.fitsE; rw [h, if_pos rfl, if_pos hn, hf]; rfl
theorem Kn.fitsE_ok {s : List Kn.C} {r : List Kn.V} (h : Kn.right s = true) (hn : r.length = s.length) (hf : Kn.fitsAll s r = true) : Kn.fitsE s r = 0 := by unfold Kn.fitsE; rw [h, if_pos rfl, if_pos hn, hf]; rfl
theorem Kn.right_len {s : List Kn.C} (h : Kn.right s = true) : 1 ≤ s.length ∧ s.length ≤ 6 := by
  unfold Kn.right at h
  simp only [Bool.and_eq_true, decide_eq_true_iff] at h
  omega
set_option maxHeartbeats 1000000 in
set_option maxRecDepth 100000 in
theorem Kn.fits_c (v u : Value) (s : List Kn.C) (r : List Kn.V) (w : World) (hs : Kn.Cols w v s) (hr : Kn.Vals w u r) :
    Calls Tryd.prog 19 #[v, u] w fun e w' => e = .returned (.int .i64 (Kn.fitsE s r)) ∧ Below w.heap.size w w' := by
  have cR := Kn.right_c v s
  cases hR : Kn.right s
  · rw [Kn.fitsE_bad hR]
    rw [hR] at cR
    go_enter Tryd.func19, Tryd.ntmps19
    go_wp2_with fail
    refine (cR _ hs).mono ?_
    rintro e w1 ⟨rfl, g1⟩
    go_wp2
    go_ret
    exact ⟨rfl, g1⟩
  · rw [hR] at cR
    have hl := Kn.right_len hR
    by_cases hn : r.length = s.length
    · have k0 := fun hf => Kn.fitsE_ok (s := s) (r := r) hR hn hf
      have k6 := fun hf => Kn.fitsE_kind (s := s) (r := r) hR hn hf
      generalize hE : Kn.fitsE s r = E at *
      have HE := Lib.hid hE
      clear hE
      have hs0 := hs
      obtain ⟨a, c, rfl, h⟩ := hs
      obtain ⟨a2, c2, rfl, h2⟩ := hr
      rcases h with rfl | ⟨b, o, rfl, hlt, hm, hc⟩
      · simp at hl
      · rcases h2 with rfl | ⟨b2, o2, rfl, hlt2, hm2, hc2⟩
        · simp at hn; omega
        · rw [hn]
          go_enter Tryd.func19, Tryd.ntmps19
          go_wp2_with fail
          refine (cR _ hs0).mono ?_
          rintro e w1 ⟨rfl, g1⟩
          have hz : ((s.length : Int) != (s.length : Int)) = false := by simp
          go_wp2_with fail
          go_loopw [17] (fun i wr => ∃ k : Nat, k ≤ s.length ∧ i = .int .i64 k ∧ Kn.fitsAll s r = Kn.fitsAll (s.drop k) (r.drop k) ∧ Below w.heap.size w wr) (fun i _ => s.length - (intOf i).toNat)
          case atStart => exact ⟨0, by omega, rfl, rfl, g1⟩
          case round =>
            obtain ⟨k, hk, rfl, hg, hb⟩ := hrel
            have HG := Lib.hid hg
            clear hg
            by_cases hkl : k < s.length
            · have hx := List.getElem?_eq_getElem hkl
              have hy := List.getElem?_eq_getElem (show k < r.length by omega)
              generalize s[k] = x at hx
              generalize r[k] = y at hy
              have HS := Lib.hid (Kn.fitsAll_step s r k x y hx hy)
              have e0 := (hb.cell (p := ⟨b, o + k * 2, none⟩) hlt).trans (hc k x hx).1
              have e1 := (hb.cell (p := ⟨b, o + k * 2 + 1, none⟩) hlt).trans (hc k x hx).2
              have hy2 := hc2 k y hy
              have f0 := (hb.cell (p := ⟨b2, o2 + k * 3, none⟩) hlt2).trans hy2.c0
              have f1 := (hb.cell (p := ⟨b2, o2 + k * 3 + 1, none⟩) hlt2).trans hy2.c1
              have f2 := (hb.cell (p := ⟨b2, o2 + k * 3 + 2, none⟩) hlt2).trans hy2.c2
              have dk : (k : Int) < (s.length : Int) := by omega
              have dk0 : (0 : Int) ≤ (k : Int) := by omega
              have hltr : b < wr.heap.size := Nat.lt_of_lt_of_le hlt hb.size
              have hlt2r : b2 < wr.heap.size := Nat.lt_of_lt_of_le hlt2 hb.size
              have cF := Kn.fitsColumn_c x y
              go_wp2_with fail
              have gN : Below wr.heap.size wr (wr.alloc (.cells #[.int .i64 x.k, .bool x.null] 39)) := (Below.refl _ _).alloc (Nat.le_refl _) _
              have n0 := Kn.cell_new wr #[.int .i64 x.k, .bool x.null] 39 0 _ rfl
              have n1 := Kn.cell_new wr #[.int .i64 x.k, .bool x.null] 39 1 _ rfl
              have F0 := (gN.cell (p := ⟨b2, o2 + k * 3, none⟩) hlt2r).trans f0
              have F1 := (gN.cell (p := ⟨b2, o2 + k * 3 + 1, none⟩) hlt2r).trans f1
              have F2 := (gN.cell (p := ⟨b2, o2 + k * 3 + 2, none⟩) hlt2r).trans f2
              have hbN := hb.trans (gN.mono hb.size)
              generalize wr.alloc (.cells #[.int .i64 x.k, .bool x.null] 39) = wn at n0 n1 F0 F1 F2 hbN ⊢
              clear gN e0 e1 f0 f1 f2 hy2 hltr hlt2r
              refine wp_region_still_tail 5 (by kernel_rfl) (by kernel_rfl) ?_
              simp only [List.take_succ_cons, List.take_zero, List.drop_succ_cons, List.drop_zero]
              change wpStill _ _ (World.drew _) (fun a' => wpList _ _ _ _ a' (World.drew _)) _ _
              still_step
              still_step
              still_step
              still_step
              still_step
              refine wpStill_nil ?_
              have HK := Lib.hid k6
              clear k6 k0
              cases hf : Kn.fits x y
              · rw [hf] at cF
                have HF := Lib.hid hf
                clear hf
                go_wp2_with fail
                refine (cF _).mono ?_
                rintro e w2 ⟨rfl, g2⟩
                go_wp2
                go_ret
                have he := HK.out (by rw [HG.out, HS.out, HF.out]; rfl)
                subst he
                exact ⟨rfl, hbN.drew.trans (g2.mono hbN.size)⟩
              · rw [hf] at cF
                have HF := Lib.hid hf
                clear hf
                go_wp2_with fail
                refine (cF _).mono ?_
                rintro e w2 ⟨rfl, g2⟩
                go_wp2
                go_roundw
                case rel => exact ⟨k + 1, by omega, by simp, by rw [HG.out, HS.out, HF.out]; rfl, hbN.drew.trans (g2.mono hbN.size)⟩
                case measure => simp [intOf]; omega
            · obtain rfl : k = s.length := by omega
              have dk : ¬ (s.length : Int) < (s.length : Int) := by omega
              have he := k0 (HG.out.trans (Kn.fitsAll_end s r _ (by omega)))
              clear k6 k0
              go_wp2
              go_ret
              subst he
              exact ⟨rfl, hb⟩
    · rw [Kn.fitsE_len hR hn]
      obtain ⟨a2, c2, rfl, h2⟩ := hr
      have hs0 := hs
      obtain ⟨a, c, rfl, h⟩ := hs
      have hz : ((r.length : Int) != (s.length : Int)) = true := by rw [bne_iff_ne]; omega
      go_enter Tryd.func19, Tryd.ntmps19
      go_wp2_with fail
      refine (cR _ hs0).mono ?_
      rintro e w1 ⟨rfl, g1⟩
      go_wp2
      go_ret
      exact ⟨rfl, g1⟩
theorem Kn.right_head {s : List Kn.C} (h : Kn.right s = true) : ∃ x t, s = x :: t ∧ x.null = false ∧ x.good = true := by
  cases s with
  | nil => cases h
  | cons x t =>
    unfold Kn.right at h
    simp only [Bool.and_eq_true, Kn.headOk, List.all_cons, Bool.not_eq_true'] at h
    exact ⟨x, t, rfl, h.1.2, h.2.1⟩
end Go.Proofs.YtccjfmjgkkpndaaDoor
