/-
  Contracts of package kinds: Fits and Key.
  Contracts of the document's answers for kinds: which schemas, rows and keys may be.
  Contracts of the document's answers for kinds: rows and keys.
  Contracts of package kinds: rows that are the same; keys in a range. The document's answers for these.
-/
import Derived.Test.YtcognkgabdaneaaGreatDoorKA
namespace Go.Proofs.YtcognkgabdaneaaGreatDoor
open Go.RowKit
/-- Every value fits its column. -/
def Kn.fitsAll : List Kn.C → List Kn.V → Bool
  | c :: cs, v :: vs => Kn.fits c v && Kn.fitsAll cs vs
  | _, _ => true
/-- The error of a row. -/
def Kn.fitsE (s : List Kn.C) (r : List Kn.V) : Int := if Kn.right s = true then (if r.length = s.length then (if Kn.fitsAll s r = true then 0 else 6) else 7) else 4
/-- The error of a key. -/
def Kn.keyE (s : List Kn.C) (k : Kn.V) : Int := if Kn.right s = true then (match s with | [] => 4 | c :: _ => if Kn.fits c k = true then 0 else 6) else 4
theorem Kn.fitsAll_step (s : List Kn.C) (r : List Kn.V) (k : Nat) (c : Kn.C) (v : Kn.V) (hc : s[k]? = some c) (hv : r[k]? = some v) : Kn.fitsAll (s.drop k) (r.drop k) = (Kn.fits c v && Kn.fitsAll (s.drop (k + 1)) (r.drop (k + 1))) := by
  obtain ⟨h1, rfl⟩ := List.getElem?_eq_some_iff.1 hc
  obtain ⟨h2, rfl⟩ := List.getElem?_eq_some_iff.1 hv
  rw [List.drop_eq_getElem_cons h1, List.drop_eq_getElem_cons h2]
  rfl
theorem Kn.fitsAll_end (s : List Kn.C) (r : List Kn.V) (k : Nat) (h : ¬ k < s.length) : Kn.fitsAll (s.drop k) (r.drop k) = true := by
  rw [List.drop_eq_nil_of_le (by omega)]
  rfl
theorem Kn.fitsE_bad {s : List Kn.C} {r : List Kn.V} (h : Kn.right s = false) : Kn.fitsE s r = 4 := by unfold Kn.fitsE; rw [h]; rfl
theorem Kn.fitsE_len {s : List Kn.C} {r : List Kn.V} (h : Kn.right s = true) (hn : r.length ≠ s.length) : Kn.fitsE s r = 7 := by unfold Kn.fitsE; rw [h, if_pos rfl, if_neg hn]
theorem Kn.fitsE_kind {s : List Kn.C} {r : List Kn.V} (h : Kn.right s = true) (hn : r.length = s.length) (hf : Kn.fitsAll s r = false) : Kn.fitsE s r = 6 := by unfold Kn.fitsE; rw [h, if_pos rfl, if_pos hn, hf]; rfl
theorem Kn.fitsE_ok {s : List Kn.C} {r : List Kn.V} (h : Kn.right s = true) (hn : r.length = s.length) (hf : Kn.fitsAll s r = true) : Kn.fitsE s r = 0 := by unfold Kn.fitsE; rw [h, if_pos rfl, if_pos hn, hf]; rfl
theorem Kn.right_len {s : List Kn.C} (h : Kn.right s = true) : 1 ≤ s.length ∧ s.length ≤ 6 := by
  unfold Kn.right at h
  simp only [Bool.and_eq_true, decide_eq_true_iff] at h
  omega
set_option maxHeartbeats 1000000 in
set_option maxRecDepth 100000 in
theorem Kn.fits_c (v u : Value) (s : List Kn.C) (r : List Kn.V) (w : World) (hs : Kn.Cols w v s) (hr : Kn.Vals w u r) :
    Calls Tryz.prog 35 #[v, u] w fun e w' => e = .returned (.int .i64 (Kn.fitsE s r)) ∧ Below w.heap.size w w' := by
  have cR := Kn.right_c v s
  cases hR : Kn.right s
  · rw [Kn.fitsE_bad hR]
    rw [hR] at cR
    go_enter Tryz.func35, Tryz.ntmps35
    go_wp2_with fail
    refine (cR _ hs).mono ?_
    rintro e w1 ⟨rfl, g1⟩
    go_wp2
    go_ret
    exact ⟨rfl, g1⟩
  · rw [hR] at cR
    have hl := Kn.right_len hR
    by_cases hn : r.length = s.length
    · have k0 := fun hf => Kn.fitsE_ok (s := s) (r := r) hR hn hf
      have k6 := fun hf => Kn.fitsE_kind (s := s) (r := r) hR hn hf
      generalize hE : Kn.fitsE s r = E at *
      have HE := Lib.hid hE
      clear hE
      have hs0 := hs
      obtain ⟨a, c, rfl, h⟩ := hs
      obtain ⟨a2, c2, rfl, h2⟩ := hr
      rcases h with rfl | ⟨b, o, rfl, hlt, hm, hc⟩
      · simp at hl
      · rcases h2 with rfl | ⟨b2, o2, rfl, hlt2, hm2, hc2⟩
        · simp at hn; omega
        · rw [hn]
          go_enter Tryz.func35, Tryz.ntmps35
          go_wp2_with fail
          refine (cR _ hs0).mono ?_
          rintro e w1 ⟨rfl, g1⟩
          have hz : ((s.length : Int) != (s.length : Int)) = false := by simp
          go_wp2_with fail
          go_loopw [17] (fun i wr => ∃ k : Nat, k ≤ s.length ∧ i = .int .i64 k ∧ Kn.fitsAll s r = Kn.fitsAll (s.drop k) (r.drop k) ∧ Below w.heap.size w wr) (fun i _ => s.length - (intOf i).toNat)
          case atStart => exact ⟨0, by omega, rfl, rfl, g1⟩
          case round =>
            obtain ⟨k, hk, rfl, hg, hb⟩ := hrel
            have HG := Lib.hid hg
            clear hg
            by_cases hkl : k < s.length
            · have hx := List.getElem?_eq_getElem hkl
              have hy := List.getElem?_eq_getElem (show k < r.length by omega)
              generalize s[k] = x at hx
              generalize r[k] = y at hy
              have HS := Lib.hid (Kn.fitsAll_step s r k x y hx hy)
              have e0 := (hb.cell (p := ⟨b, o + k * 2, none⟩) hlt).trans (hc k x hx).1
              have e1 := (hb.cell (p := ⟨b, o + k * 2 + 1, none⟩) hlt).trans (hc k x hx).2
              have hy2 := hc2 k y hy
              have f0 := (hb.cell (p := ⟨b2, o2 + k * 3, none⟩) hlt2).trans hy2.c0
              have f1 := (hb.cell (p := ⟨b2, o2 + k * 3 + 1, none⟩) hlt2).trans hy2.c1
              have f2 := (hb.cell (p := ⟨b2, o2 + k * 3 + 2, none⟩) hlt2).trans hy2.c2
              have dk : (k : Int) < (s.length : Int) := by omega
              have dk0 : (0 : Int) ≤ (k : Int) := by omega
              have hltr : b < wr.heap.size := Nat.lt_of_lt_of_le hlt hb.size
              have hlt2r : b2 < wr.heap.size := Nat.lt_of_lt_of_le hlt2 hb.size
              have cF := Kn.fitsColumn_c x y
              go_wp2_with fail
              have gN : Below wr.heap.size wr (wr.alloc (.cells #[.int .i64 x.k, .bool x.null] 24)) := (Below.refl _ _).alloc (Nat.le_refl _) _
              have n0 := Kn.cell_new wr #[.int .i64 x.k, .bool x.null] 24 0 _ rfl
              have n1 := Kn.cell_new wr #[.int .i64 x.k, .bool x.null] 24 1 _ rfl
              have F0 := (gN.cell (p := ⟨b2, o2 + k * 3, none⟩) hlt2r).trans f0
              have F1 := (gN.cell (p := ⟨b2, o2 + k * 3 + 1, none⟩) hlt2r).trans f1
              have F2 := (gN.cell (p := ⟨b2, o2 + k * 3 + 2, none⟩) hlt2r).trans f2
              have hbN := hb.trans (gN.mono hb.size)
              generalize wr.alloc (.cells #[.int .i64 x.k, .bool x.null] 24) = wn at n0 n1 F0 F1 F2 hbN ⊢
              clear gN e0 e1 f0 f1 f2 hy2 hltr hlt2r
              refine wp_region_still_tail 5 (by kernel_rfl) (by kernel_rfl) ?_
              simp only [List.take_succ_cons, List.take_zero, List.drop_succ_cons, List.drop_zero]
              change wpStill _ _ (World.drew _) (fun a' => wpList _ _ _ _ a' (World.drew _)) _ _
              still_step
              still_step
              still_step
              still_step
              still_step
              refine wpStill_nil ?_
              have HK := Lib.hid k6
              clear k6 k0
              cases hf : Kn.fits x y
              · rw [hf] at cF
                have HF := Lib.hid hf
                clear hf
                go_wp2_with fail
                refine (cF _).mono ?_
                rintro e w2 ⟨rfl, g2⟩
                go_wp2
                go_ret
                have he := HK.out (by rw [HG.out, HS.out, HF.out]; rfl)
                subst he
                exact ⟨rfl, hbN.drew.trans (g2.mono hbN.size)⟩
              · rw [hf] at cF
                have HF := Lib.hid hf
                clear hf
                go_wp2_with fail
                refine (cF _).mono ?_
                rintro e w2 ⟨rfl, g2⟩
                go_wp2
                go_roundw
                case rel => exact ⟨k + 1, by omega, by simp, by rw [HG.out, HS.out, HF.out]; rfl, hbN.drew.trans (g2.mono hbN.size)⟩
                case measure => simp [intOf]; omega
            · obtain rfl : k = s.length := by omega
              have dk : ¬ (s.length : Int) < (s.length : Int) := by omega
              have he := k0 (HG.out.trans (Kn.fitsAll_end s r _ (by omega)))
              clear k6 k0
              go_wp2
              go_ret
              subst he
              exact ⟨rfl, hb⟩
    · rw [Kn.fitsE_len hR hn]
      obtain ⟨a2, c2, rfl, h2⟩ := hr
      have hs0 := hs
      obtain ⟨a, c, rfl, h⟩ := hs
      have hz : ((r.length : Int) != (s.length : Int)) = true := by rw [bne_iff_ne]; omega
      go_enter Tryz.func35, Tryz.ntmps35
      go_wp2_with fail
      refine (cR _ hs0).mono ?_
      rintro e w1 ⟨rfl, g1⟩
      go_wp2
      go_ret
      exact ⟨rfl, g1⟩
theorem Kn.right_head {s : List Kn.C} (h : Kn.right s = true) : ∃ x t, s = x :: t ∧ x.null = false ∧ x.good = true := by
  cases s with
  | nil => cases h
  | cons x t =>
    unfold Kn.right at h
    simp only [Bool.and_eq_true, Kn.headOk, List.all_cons, Bool.not_eq_true'] at h
    exact ⟨x, t, rfl, h.1.2, h.2.1⟩
end Go.Proofs.YtcognkgabdaneaaGreatDoor

namespace Go.Proofs.YtcognkgabdaneaaGreatDoor
open Go.RowKit
/-- Is a value of a kind? -/
def Kn.isK (k : Int) (v : Kn.V) : Bool :=
  if v.null = true then (v.n == 0) && (v.s.toList == (⟨#[]⟩ : ByteArray).toList)
  else if k = 1 then v.s.toList == (⟨#[]⟩ : ByteArray).toList
  else (k == 2) && ((v.n == 0) && decide (v.s.size ≤ 64))
set_option maxHeartbeats 1000000 in
set_option maxRecDepth 100000 in
theorem Kn.rIs_c (k : Int) (v : Kn.V) (w : World) :
    Calls Tryz.prog 41 #[.int .i64 k, v.val] w fun e w' => e = .returned (.bool (Kn.isK k v)) ∧ Below w.heap.size w w' := by
  obtain ⟨vn, vi, vs⟩ := v
  unfold Kn.V.val
  have hk : ((k == 1) = true ∧ k = 1) ∨ ((k == 1) = false ∧ k ≠ 1) := by
    by_cases h : k = 1
    · left; exact ⟨by rw [h]; rfl, h⟩
    · right; exact ⟨by rw [beq_eq_false_iff_ne]; exact h, h⟩
  have he : (⟨#[]⟩ : ByteArray).toList = [] := by rw [ByteArray.toList_eq]
  generalize hB : Kn.isK k ⟨vn, vi, vs⟩ = B
  have HB := Lib.hid hB
  clear hB
  cases vn
  · rcases hk with ⟨hk, rfl⟩ | ⟨hk, hk2⟩
    all_goals
      go_enter Tryz.func41, Tryz.ntmps41
      go_wp2
    all_goals
      go_ret
      refine ⟨?_, (Below.refl _ w).alloc (Nat.le_refl _) _⟩
      rw [← HB.out]
      simp_all [Kn.isK]
      try omega
  · go_enter Tryz.func41, Tryz.ntmps41
    go_wp2
    all_goals
      go_ret
      refine ⟨?_, (Below.refl _ w).alloc (Nat.le_refl _) _⟩
      rw [← HB.out]
      simp_all [Kn.isK]
      try omega
/-- The document's test of a value against its column, of a kind that may be. -/
theorem Kn.isK_fits (c : Kn.C) (v : Kn.V) (h : c.good = true) : Kn.fits c v = (Kn.isK c.k v && !(v.null && !c.null)) := by
  obtain ⟨ck, cn⟩ := c
  obtain ⟨vn, vi, vs⟩ := v
  have hk : ck = 1 ∨ ck = 2 := by
    unfold Kn.C.good at h
    by_cases h1 : ck = 1
    · exact .inl h1
    · by_cases h2 : ck = 2
      · exact .inr h2
      · have e1 : (ck != 1) = true := by rw [bne_iff_ne]; exact h1
        have e2 : (ck != 2) = true := by rw [bne_iff_ne]; exact h2
        simp only [e1, e2] at h
        cases h
  unfold Kn.fits Kn.isK
  rcases hk with rfl | rfl <;> cases vn <;> cases cn <;> simp
theorem Kn.right_ends (l : List Kn.C) (ha : (l.take l.length).all Kn.C.good = true) (hh : 0 < l.length → Kn.headOk l = true) : (¬ 1 ≤ l.length → Kn.right l = false) ∧ (1 ≤ l.length → ¬ l.length ≤ 6 → Kn.right l = false) ∧ (1 ≤ l.length → l.length ≤ 6 → Kn.right l = true) := by
  rw [List.take_length] at ha
  unfold Kn.right
  rw [ha]
  refine ⟨fun h => ?_, fun _ h => ?_, fun h1 h2 => ?_⟩
  · rw [decide_eq_false h]; rfl
  · rw [decide_eq_false (p := l.length ≤ 6) h]; simp
  · rw [hh (by omega), decide_eq_true h1, decide_eq_true h2]; rfl
theorem Kn.head_ok (l : List Kn.C) (x : Kn.C) (h : l[0]? = some x) : Kn.headOk l = !x.null := by
  cases l with
  | nil => cases h
  | cons y t => obtain rfl : y = x := by simpa using h
                rfl
end Go.Proofs.YtcognkgabdaneaaGreatDoor

namespace Go.Proofs.YtcognkgabdaneaaGreatDoor
open Go.RowKit
theorem Kn.right_all {s : List Kn.C} (h : Kn.right s = true) : s.all Kn.C.good = true := by
  unfold Kn.right at h
  simp only [Bool.and_eq_true] at h
  exact h.2
/-- What the document's test of a value comes to, way by way. -/
theorem Kn.test_ways (c : Kn.C) (v : Kn.V) (h : c.good = true) : (Kn.isK c.k v = false ∧ Kn.fits c v = false) ∨ (Kn.isK c.k v = true ∧ v.null = false ∧ Kn.fits c v = true) ∨ (Kn.isK c.k v = true ∧ v.null = true ∧ c.null = true ∧ Kn.fits c v = true) ∨ (Kn.isK c.k v = true ∧ v.null = true ∧ c.null = false ∧ Kn.fits c v = false) := by
  have := Kn.isK_fits c v h
  rw [this]
  cases Kn.isK c.k v <;> cases v.null <;> cases c.null <;> simp
end Go.Proofs.YtcognkgabdaneaaGreatDoor

namespace Go.Proofs.YtcognkgabdaneaaGreatDoor
open Go.RowKit
/-- Two values are equal in every field. -/
def Kn.sameV (a b : Kn.V) : Bool := (a.null == b.null) && ((a.n == b.n) && (a.s.toList == b.s.toList))
/-- Two rows are the same. -/
def Kn.sameR : List Kn.V → List Kn.V → Bool
  | a :: l, b :: m => Kn.sameV a b && Kn.sameR l m
  | [], [] => true
  | _, _ => false
theorem Kn.sameR_self : ∀ l : List Kn.V, Kn.sameR l l = true
  | [] => rfl
  | a :: l => by simp [Kn.sameR, Kn.sameV, Kn.sameR_self l]
theorem Kn.sameR_len : ∀ a b : List Kn.V, a.length ≠ b.length → Kn.sameR a b = false
  | [], [], h => absurd rfl h
  | [], _ :: _, _ => rfl
  | _ :: _, [], _ => rfl
  | a :: l, b :: m, h => by
    simp only [Kn.sameR]
    rw [Kn.sameR_len l m (by simpa using h)]
    simp
theorem Kn.sameR_step (s r : List Kn.V) (k : Nat) (c v : Kn.V) (hc : s[k]? = some c) (hv : r[k]? = some v) : Kn.sameR (s.drop k) (r.drop k) = (Kn.sameV c v && Kn.sameR (s.drop (k + 1)) (r.drop (k + 1))) := by
  obtain ⟨h1, rfl⟩ := List.getElem?_eq_some_iff.1 hc
  obtain ⟨h2, rfl⟩ := List.getElem?_eq_some_iff.1 hv
  rw [List.drop_eq_getElem_cons h1, List.drop_eq_getElem_cons h2]
  rfl
theorem Kn.sameR_end (s r : List Kn.V) (k : Nat) (h : ¬ k < s.length) (h2 : r.length = s.length) : Kn.sameR (s.drop k) (r.drop k) = true := by
  rw [List.drop_eq_nil_of_le (by omega), List.drop_eq_nil_of_le (by omega)]
  rfl
theorem Kn.sameV_ways (a b : Kn.V) : (Kn.sameV a b = false ∧ (a.null == b.null) = false) ∨ (Kn.sameV a b = false ∧ (a.null == b.null) = true ∧ (a.n == b.n) = false) ∨ (Kn.sameV a b = false ∧ (a.null == b.null) = true ∧ (a.n == b.n) = true ∧ (a.s.toList == b.s.toList) = false) ∨ (Kn.sameV a b = true ∧ (a.null == b.null) = true ∧ (a.n == b.n) = true ∧ (a.s.toList == b.s.toList) = true) := by
  unfold Kn.sameV
  cases (a.null == b.null) <;> cases (a.n == b.n) <;> cases (a.s.toList == b.s.toList) <;> simp
/-- The test of the two values, as the program makes it. -/
theorem Kn.neq_run (a b : Kn.V) (w : World) : (binOp .neq 36 (.agg #[.bool a.null, .int .i64 a.n, .string a.s]) (.agg #[.bool b.null, .int .i64 b.n, .string b.s])).run Tryz.prog w = .ok (.bool (!Kn.sameV a b)) w := by
  rcases Kn.sameV_ways a b with ⟨h, h1⟩ | ⟨h, h1, h2⟩ | ⟨h, h1, h2, h3⟩ | ⟨h, h1, h2, h3⟩
  all_goals
    rw [h]
    clear h
    go_simp
    done
set_option maxHeartbeats 1000000 in
set_option maxRecDepth 100000 in
/-- The document's answer: the same rows. -/
theorem Kn.rsame_c (v u : Value) (s r : List Kn.V) (w : World) (hs : Kn.Vals w v s) (hr : Kn.Vals w u r) :
    Calls Tryz.prog 14 #[v, u] w fun e w' => e = .returned (.bool (Kn.sameR s r)) ∧ ∃ n, w' = w.drewN n := by
  obtain ⟨a, c, rfl, h⟩ := hs
  obtain ⟨a2, c2, rfl, h2⟩ := hr
  by_cases hn : r.length = s.length
  · rw [hn]
    have hz : ((s.length : Int) != (s.length : Int)) = false := by simp
    generalize hB : Kn.sameR s r = B
    have HB := Lib.hid hB
    clear hB
    go_enter Tryz.func14, Tryz.ntmps14
    go_wp2
    go_loopw [5] (fun i wr => ∃ k : Nat, k ≤ s.length ∧ i = .int .i64 k ∧ Kn.sameR s r = Kn.sameR (s.drop k) (r.drop k) ∧ ∃ n, wr = w.drewN n) (fun i _ => s.length - (intOf i).toNat)
    case atStart => exact ⟨0, by omega, rfl, rfl, 0, rfl⟩
    case round =>
      obtain ⟨k, hk, rfl, hg, n, rfl⟩ := hrel
      have HG := Lib.hid hg
      clear hg
      by_cases hkl : k < s.length
      · rcases h with rfl | ⟨b, o, rfl, hlt, hm, hc⟩
        · simp at hkl
        · rcases h2 with rfl | ⟨b2, o2, rfl, hlt2, hm2, hc2⟩
          · simp at hn; omega
          · have hx := List.getElem?_eq_getElem hkl
            have hy := List.getElem?_eq_getElem (show k < r.length by omega)
            generalize s[k] = x at hx
            generalize r[k] = y at hy
            have HS := Lib.hid (Kn.sameR_step s r k x y hx hy)
            obtain ⟨e0, e1, e2⟩ := hc k x hx
            obtain ⟨f0, f1, f2⟩ := hc2 k y hy
            have dk : (k : Int) < (s.length : Int) := by omega
            have dk0 : (0 : Int) ≤ (k : Int) := by omega
            have HC := Lib.hid hc
            have HC2 := Lib.hid hc2
            clear hc hc2 hx hy
            rcases Kn.sameV_ways x y with ⟨h0, h1⟩ | ⟨h0, h1, h2⟩ | ⟨h0, h1, h2, h3⟩ | ⟨h0, h1, h2, h3⟩
            all_goals
              have HF := Lib.hid h0
              clear h0
              go_wp2_with fail
              go_quiet (fail)
              go_wp2
            all_goals first
              | (go_ret
                 exact ⟨Kn.retb (by rw [← HB.out, HG.out, HS.out, HF.out]; rfl), by first | exact ⟨_, rfl⟩ | exact ⟨_, World.drewN_drewN _ _ _⟩⟩)
              | (go_roundw
                 case rel => exact ⟨k + 1, by omega, by simp, by rw [HG.out, HS.out, HF.out]; rfl, by first | exact ⟨_, rfl⟩ | exact ⟨_, World.drewN_drewN _ _ _⟩⟩
                 case measure => simp [intOf]; omega)
      · obtain rfl : k = s.length := by omega
        have dk : ¬ (s.length : Int) < (s.length : Int) := by omega
        have he : B = true := HB.out.symm.trans (HG.out.trans (Kn.sameR_end s r _ (by omega) hn))
        subst he
        go_wp2
        go_ret
        exact ⟨rfl, _, rfl⟩
  · rw [Kn.sameR_len s r (fun e => hn e.symm)]
    have hz : ((s.length : Int) != (r.length : Int)) = true := by rw [bne_iff_ne]; omega
    go_enter Tryz.func14, Tryz.ntmps14
    go_wp2
    go_ret
    exact ⟨rfl, 0, rfl⟩
end Go.Proofs.YtcognkgabdaneaaGreatDoor
