/-
  Contracts of package kinds: rows that are the same; keys in a range. The document's answers for these.
-/
import Derived.Test.YtccjfmjgkkpndaaDoorK7
namespace Go.Proofs.YtccjfmjgkkpndaaDoor
open Go.RowKit
/-- Two values are equal in every field. -/
def Kn.sameV (a b : Kn.V) : Bool := (a.null == b.null) && ((a.n == b.n) && (a.s.toList == b.s.toList))
/-- Two rows are the same. -/
def Kn.sameR : List Kn.V → List Kn.V → Bool
  | a :: l, b :: m => Kn.sameV a b && Kn.sameR l m
  | [], [] => true
  | _, _ => false
theorem Kn.sameR_self : ∀ l : List Kn.V, Kn.sameR l l = true
  | [] => rfl
  | a :: l => by simp [Kn.sameR, Kn.sameV, Kn.sameR_self l]
theorem Kn.sameR_len : ∀ a b : List Kn.V, a.length ≠ b.length → Kn.sameR a b = false
  | [], [], h => absurd rfl h
  | [], _ :: _, _ => rfl
  | _ :: _, [], _ => rfl
  | a :: l, b :: m, h => by
    simp only [Kn.sameR]
    rw [Kn.sameR_len l m (by simpa using h)]
    simp
theorem Kn.sameR_step (s r : List Kn.V) (k : Nat) (c v : Kn.V) (hc : s[k]? = some c) (hv : r[k]? = some v) : Kn.sameR (s.drop k) (r.drop k) = (Kn.sameV c v && Kn.sameR (s.drop (k + 1)) (r.drop (k + 1))) := by
  obtain ⟨h1, rfl⟩ := List.getElem?_eq_some_iff.1 hc
  obtain ⟨h2, rfl⟩ := List.getElem?_eq_some_iff.1 hv
  rw [List.drop_eq_getElem_cons h1, List.drop_eq_getElem_cons h2]
  rfl
theorem Kn.sameR_end (s r : List Kn.V) (k : Nat) (h : ¬ k < s.length) (h2 : r.length = s.length) : Kn.sameR (s.drop k) (r.drop k) = true := by
  rw [List.drop_eq_nil_of_le (by omega), List.drop_eq_nil_of_le (by omega)]
  rfl
theorem Kn.sameV_ways (a b : Kn.V) : (Kn.sameV a b = false ∧ (a.null == b.null) = false) ∨ (Kn.sameV a b = false ∧ (a.null == b.null) = true ∧ (a.n == b.n) = false) ∨ (Kn.sameV a b = false ∧ (a.null == b.null) = true ∧ (a.n == b.n) = true ∧ (a.s.toList == b.s.toList) = false) ∨ (Kn.sameV a b = true ∧ (a.null == b.null) = true ∧ (a.n == b.n) = true ∧ (a.s.toList == b.s.toList) = true) := by
  unfold Kn.sameV
  cases (a.null == b.null) <;> cases (a.n == b.n) <;> cases (a.s.toList == b.s.toList) <;> simp
/-- The test of the two values, as the program makes it. -/
theorem Kn.neq_run (a b : Kn.V) (w : World) : (binOp .neq 43 (.agg #[.bool a.null, .int .i64 a.n, .string a.s]) (.agg #[.bool b.null, .int .i64 b.n, .string b.s])).run Tryd.prog w = .ok (.bool (!Kn.sameV a b)) w := by
  rcases Kn.sameV_ways a b with ⟨h, h1⟩ | ⟨h, h1, h2⟩ | ⟨h, h1, h2, h3⟩ | ⟨h, h1, h2, h3⟩
  all_goals
    rw [h]
    clear h
    go_simp
    done
set_option maxHeartbeats 1000000 in
set_option maxRecDepth 100000 in
/-- The library's Equal of two rows. -/
theorem Kn.equal_c (v u : Value) (s r : List Kn.V) (w : World) (hs : Kn.Vals w v s) (hr : Kn.Vals w u r) :
    Calls Tryd.prog 49 #[v, u] w fun e w' => e = .returned (.bool (Kn.sameR s r)) ∧ ∃ n, w' = w.drewN n := by
  obtain ⟨a, c, rfl, h⟩ := hs
  obtain ⟨a2, c2, rfl, h2⟩ := hr
  by_cases hn : r.length = s.length
  · rw [hn]
    have hz : ((s.length : Int) != (s.length : Int)) = false := by simp
    generalize hB : Kn.sameR s r = B
    have HB := Lib.hid hB
    clear hB
    go_enter Tryd.func49, Tryd.ntmps49
    go_wp2
    go_loopw [13] (fun i wr => ∃ k : Nat, k ≤ s.length ∧ i = .int .i64 k ∧ Kn.sameR s r = Kn.sameR (s.drop k) (r.drop k) ∧ ∃ n, wr = w.drewN n) (fun i _ => s.length - (intOf i).toNat)
    case atStart => exact ⟨0, by omega, rfl, rfl, 0, rfl⟩
    case round =>
      obtain ⟨k, hk, rfl, hg, n, rfl⟩ := hrel
      have HG := Lib.hid hg
      clear hg
      by_cases hkl : k < s.length
      · rcases h with rfl | ⟨b, o, rfl, hlt, hm, hc⟩
        · simp at hkl
        · rcases h2 with rfl | ⟨b2, o2, rfl, hlt2, hm2, hc2⟩
          · simp at hn; omega
          · have hx := List.getElem?_eq_getElem hkl
            have hy := List.getElem?_eq_getElem (show k < r.length by omega)
            generalize s[k] = x at hx
            generalize r[k] = y at hy
            have HS := Lib.hid (Kn.sameR_step s r k x y hx hy)
            obtain ⟨e0, e1, e2⟩ := hc k x hx
            obtain ⟨f0, f1, f2⟩ := hc2 k y hy
            have dk : (k : Int) < (s.length : Int) := by omega
            have dk0 : (0 : Int) ≤ (k : Int) := by omega
            have HC := Lib.hid hc
            have HC2 := Lib.hid hc2
            clear hc hc2 hx hy
            rcases Kn.sameV_ways x y with ⟨h0, h1⟩ | ⟨h0, h1, h2⟩ | ⟨h0, h1, h2, h3⟩ | ⟨h0, h1, h2, h3⟩
            all_goals
              have HF := Lib.hid h0
              clear h0
              go_wp2_with fail
              go_quiet (fail)
              go_wp2
            all_goals first
              | (go_ret
                 exact ⟨Kn.retb (by rw [← HB.out, HG.out, HS.out, HF.out]; rfl), by first | exact ⟨_, rfl⟩ | exact ⟨_, World.drewN_drewN _ _ _⟩⟩)
              | (go_roundw
                 case rel => exact ⟨k + 1, by omega, by simp, by rw [HG.out, HS.out, HF.out]; rfl, by first | exact ⟨_, rfl⟩ | exact ⟨_, World.drewN_drewN _ _ _⟩⟩
                 case measure => simp [intOf]; omega)
      · obtain rfl : k = s.length := by omega
        have dk : ¬ (s.length : Int) < (s.length : Int) := by omega
        have he : B = true := HB.out.symm.trans (HG.out.trans (Kn.sameR_end s r _ (by omega) hn))
        subst he
        go_wp2
        go_ret
        exact ⟨rfl, _, rfl⟩
  · rw [Kn.sameR_len s r (fun e => hn e.symm)]
    have hz : ((s.length : Int) != (r.length : Int)) = true := by rw [bne_iff_ne]; omega
    go_enter Tryd.func49, Tryd.ntmps49
    go_wp2
    go_ret
    exact ⟨rfl, 0, rfl⟩
set_option maxHeartbeats 1000000 in
set_option maxRecDepth 100000 in
/-- The document's answer: the same rows. -/
theorem Kn.rsame_c (v u : Value) (s r : List Kn.V) (w : World) (hs : Kn.Vals w v s) (hr : Kn.Vals w u r) :
    Calls Tryd.prog 33 #[v, u] w fun e w' => e = .returned (.bool (Kn.sameR s r)) ∧ ∃ n, w' = w.drewN n := by
  obtain ⟨a, c, rfl, h⟩ := hs
  obtain ⟨a2, c2, rfl, h2⟩ := hr
  by_cases hn : r.length = s.length
  · rw [hn]
    have hz : ((s.length : Int) != (s.length : Int)) = false := by simp
    generalize hB : Kn.sameR s r = B
    have HB := Lib.hid hB
    clear hB
    go_enter Tryd.func33, Tryd.ntmps33
    go_wp2
    go_loopw [5] (fun i wr => ∃ k : Nat, k ≤ s.length ∧ i = .int .i64 k ∧ Kn.sameR s r = Kn.sameR (s.drop k) (r.drop k) ∧ ∃ n, wr = w.drewN n) (fun i _ => s.length - (intOf i).toNat)
    case atStart => exact ⟨0, by omega, rfl, rfl, 0, rfl⟩
    case round =>
      obtain ⟨k, hk, rfl, hg, n, rfl⟩ := hrel
      have HG := Lib.hid hg
      clear hg
      by_cases hkl : k < s.length
      · rcases h with rfl | ⟨b, o, rfl, hlt, hm, hc⟩
        · simp at hkl
        · rcases h2 with rfl | ⟨b2, o2, rfl, hlt2, hm2, hc2⟩
          · simp at hn; omega
          · have hx := List.getElem?_eq_getElem hkl
            have hy := List.getElem?_eq_getElem (show k < r.length by omega)
            generalize s[k] = x at hx
            generalize r[k] = y at hy
            have HS := Lib.hid (Kn.sameR_step s r k x y hx hy)
            obtain ⟨e0, e1, e2⟩ := hc k x hx
            obtain ⟨f0, f1, f2⟩ := hc2 k y hy
            have dk : (k : Int) < (s.length : Int) := by omega
            have dk0 : (0 : Int) ≤ (k : Int) := by omega
            have HC := Lib.hid hc
            have HC2 := Lib.hid hc2
            clear hc hc2 hx hy
            rcases Kn.sameV_ways x y with ⟨h0, h1⟩ | ⟨h0, h1, h2⟩ | ⟨h0, h1, h2, h3⟩ | ⟨h0, h1, h2, h3⟩
            all_goals
              have HF := Lib.hid h0
              clear h0
              go_wp2_with fail
              go_quiet (fail)
              go_wp2
            all_goals first
              | (go_ret
                 exact ⟨Kn.retb (by rw [← HB.out, HG.out, HS.out, HF.out]; rfl), by first | exact ⟨_, rfl⟩ | exact ⟨_, World.drewN_drewN _ _ _⟩⟩)
              | (go_roundw
                 case rel => exact ⟨k + 1, by omega, by simp, by rw [HG.out, HS.out, HF.out]; rfl, by first | exact ⟨_, rfl⟩ | exact ⟨_, World.drewN_drewN _ _ _⟩⟩
                 case measure => simp [intOf]; omega)
      · obtain rfl : k = s.length := by omega
        have dk : ¬ (s.length : Int) < (s.length : Int) := by omega
        have he : B = true := HB.out.symm.trans (HG.out.trans (Kn.sameR_end s r _ (by omega) hn))
        subst he
        go_wp2
        go_ret
        exact ⟨rfl, _, rfl⟩
  · rw [Kn.sameR_len s r (fun e => hn e.symm)]
    have hz : ((s.length : Int) != (r.length : Int)) = true := by rw [bne_iff_ne]; omega
    go_enter Tryd.func33, Tryd.ntmps33
    go_wp2
    go_ret
    exact ⟨rfl, 0, rfl⟩
theorem Kn.same_c (v u : Value) (s r : List Kn.V) (w : World) (hs : Kn.Vals w v s) (hr : Kn.Vals w u r) :
    Calls Tryd.prog 34 #[v, u] w fun e w' => e = .returned (.bool (Kn.sameR s r)) ∧ ∃ n, w' = w.drewN n := by
  have cE := Kn.equal_c v u s r w hs hr
  obtain ⟨a, c, rfl, h⟩ := hs
  obtain ⟨a2, c2, rfl, h2⟩ := hr
  go_enter Tryd.func34, Tryd.ntmps34
  go_wp2_with fail
  refine cE.mono ?_
  rintro e w1 ⟨rfl, n, rfl⟩
  go_wp2
  go_ret
  exact ⟨rfl, n, rfl⟩
end Go.Proofs.YtccjfmjgkkpndaaDoor
