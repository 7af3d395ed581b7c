/-
  Contracts of the document's answers for kinds: which schemas, rows and keys may be.
-/
import Derived.Test.YtccjfmjgkkpndaaDoorK5
namespace Go.Proofs.YtccjfmjgkkpndaaDoor
open Go.RowKit
/-- Is a value of a kind? -/
def Kn.isK (k : Int) (v : Kn.V) : Bool :=
  if v.null = true then (v.n == 0) && (v.s.toList == (⟨#[]⟩ : ByteArray).toList)
  else if k = 1 then v.s.toList == (⟨#[]⟩ : ByteArray).toList
  else (k == 2) && ((v.n == 0) && decide (v.s.size ≤ 64))
set_option maxHeartbeats 1000000 in
set_option maxRecDepth 100000 in
theorem Kn.rIs_c (k : Int) (v : Kn.V) (w : World) :
    Calls Tryd.prog 52 #[.int .i64 k, v.val] w fun e w' => e = .returned (.bool (Kn.isK k v)) ∧ Below w.heap.size w w' := by
  obtain ⟨vn, vi, vs⟩ := v
  unfold Kn.V.val
  have hk : ((k == 1) = true ∧ k = 1) ∨ ((k == 1) = false ∧ k ≠ 1) := by
    by_cases h : k = 1
    · left; exact ⟨by rw [h]; rfl, h⟩
    · right; exact ⟨by rw [beq_eq_false_iff_ne]; exact h, h⟩
  have he : (⟨#[]⟩ : ByteArray).toList = [] := by rw [ByteArray.toList_eq]
  generalize hB : Kn.isK k ⟨vn, vi, vs⟩ = B
  have HB := Lib.hid hB
  clear hB
  cases vn
  · rcases hk with ⟨hk, rfl⟩ | ⟨hk, hk2⟩
    all_goals
      go_enter Tryd.func52, Tryd.ntmps52
      go_wp2
    all_goals
      go_ret
      refine ⟨?_, (Below.refl _ w).alloc (Nat.le_refl _) _⟩
      rw [← HB.out]
      simp_all [Kn.isK]
      try omega
  · go_enter Tryd.func52, Tryd.ntmps52
    go_wp2
    all_goals
      go_ret
      refine ⟨?_, (Below.refl _ w).alloc (Nat.le_refl _) _⟩
      rw [← HB.out]
      simp_all [Kn.isK]
      try omega
/-- The document's test of a value against its column, of a kind that may be. -/
theorem Kn.isK_fits (c : Kn.C) (v : Kn.V) (h : c.good = true) : Kn.fits c v = (Kn.isK c.k v && !(v.null && !c.null)) := by
  obtain ⟨ck, cn⟩ := c
  obtain ⟨vn, vi, vs⟩ := v
  have hk : ck = 1 ∨ ck = 2 := by
    unfold Kn.C.good at h
    by_cases h1 : ck = 1
    · exact .inl h1
    · by_cases h2 : ck = 2
      · exact .inr h2
      · have e1 : (ck != 1) = true := by rw [bne_iff_ne]; exact h1
        have e2 : (ck != 2) = true := by rw [bne_iff_ne]; exact h2
        simp only [e1, e2] at h
        cases h
  unfold Kn.fits Kn.isK
  rcases hk with rfl | rfl <;> cases vn <;> cases cn <;> simp
theorem Kn.right_ends (l : List Kn.C) (ha : (l.take l.length).all Kn.C.good = true) (hh : 0 < l.length → Kn.headOk l = true) : (¬ 1 ≤ l.length → Kn.right l = false) ∧ (1 ≤ l.length → ¬ l.length ≤ 6 → Kn.right l = false) ∧ (1 ≤ l.length → l.length ≤ 6 → Kn.right l = true) := by
  rw [List.take_length] at ha
  unfold Kn.right
  rw [ha]
  refine ⟨fun h => ?_, fun _ h => ?_, fun h1 h2 => ?_⟩
  · rw [decide_eq_false h]; rfl
  · rw [decide_eq_false (p := l.length ≤ 6) h]; simp
  · rw [hh (by omega), decide_eq_true h1, decide_eq_true h2]; rfl
theorem Kn.head_ok (l : List Kn.C) (x : Kn.C) (h : l[0]? = some x) : Kn.headOk l = !x.null := by
  cases l with
  | nil => cases h
  | cons y t => obtain rfl : y = x := by simpa using h
                rfl
set_option maxHeartbeats 1000000 in
set_option maxRecDepth 100000 in
theorem Kn.rRight_c (v : Value) (l : List Kn.C) (w : World) (h : Kn.Cols w v l) :
    Calls Tryd.prog 29 #[v] w fun e w' => e = .returned (.bool (Kn.right l)) ∧ w' = w := by
  obtain ⟨a, c, rfl, h⟩ := h
  have hm : l.length ≤ 9223372036854775807 := by
    rcases h with rfl | ⟨_, _, _, _, hm, _⟩
    · simp
    · exact hm
  generalize hB : Kn.right l = B
  have HB := Lib.hid hB
  clear hB
  go_enter Tryd.func29, Tryd.ntmps29
  go_wp2
  go_loop [3] (fun i => ∃ k : Nat, k ≤ l.length ∧ i = .int .i64 k ∧ (l.take k).all Kn.C.good = true ∧ (0 < k → Kn.headOk l = true)) (fun i => l.length - (intOf i).toNat)
  case atStart => exact ⟨0, by omega, rfl, rfl, by omega⟩
  case round =>
    obtain ⟨k, hk, rfl, hg, hh⟩ := hrel
    by_cases hkl : k < l.length
    · rcases h with rfl | ⟨b, o, rfl, hlt, _, hc⟩
      · simp at hkl
      · have hx := List.getElem?_eq_getElem hkl
        generalize l[k] = x at hx
        obtain ⟨e0, e1⟩ := hc k x hx
        have dk : (k : Int) < (l.length : Int) := by omega
        have HX := Lib.hid hx
        have HH := Lib.hid hh
        have HG := Lib.hid hg
        clear hx hh hg hc
        have hw : ((k : Int) == 0) = true ∧ k = 0 ∨ ((k : Int) == 0) = false ∧ k ≠ 0 := by
          by_cases h0 : k = 0
          · left; subst h0; exact ⟨rfl, rfl⟩
          · right; exact ⟨by rw [beq_eq_false_iff_ne]; omega, h0⟩
        rcases Kn.good_ways x with ⟨g, g1⟩ | ⟨g, g1, g2⟩ | ⟨g, g1, g2⟩
        · have GG := Lib.hid g
          clear g
          rcases hw with ⟨w0, rfl⟩ | ⟨w0, k0⟩
          · rw [Nat.zero_mul, Nat.add_zero] at e0 e1
            cases hn : x.null
            · rw [hn] at e1
              have HN := Lib.hid hn
              clear hn
              go_wp2
              go_round
              case rel => exact ⟨0 + 1, by omega, by simp, Kn.all_step l 0 x HX.out GG.out HG.out, fun _ => by rw [Kn.head_ok l x HX.out, HN.out]; rfl⟩
              case measure => simp [intOf]; omega
            · rw [hn] at e1
              have he : B = false := HB.out.symm.trans (Kn.right_null l x HX.out hn)
              clear hn
              subst he
              go_wp2
              go_ret
              exact ⟨rfl, rfl⟩
          · have HZ := Lib.hid k0
            clear k0
            go_wp2
            go_round
            case rel => exact ⟨k + 1, by omega, by simp, Kn.all_step l k x HX.out GG.out HG.out, fun _ => HH.out (by have := HZ.out; omega)⟩
            case measure => simp [intOf]; omega
        · have GG := Lib.hid g
          clear g
          rcases hw with ⟨w0, rfl⟩ | ⟨w0, k0⟩
          · rw [Nat.zero_mul, Nat.add_zero] at e0 e1
            cases hn : x.null
            · rw [hn] at e1
              have HN := Lib.hid hn
              clear hn
              go_wp2
              go_round
              case rel => exact ⟨0 + 1, by omega, by simp, Kn.all_step l 0 x HX.out GG.out HG.out, fun _ => by rw [Kn.head_ok l x HX.out, HN.out]; rfl⟩
              case measure => simp [intOf]; omega
            · rw [hn] at e1
              have he : B = false := HB.out.symm.trans (Kn.right_null l x HX.out hn)
              clear hn
              subst he
              go_wp2
              go_ret
              exact ⟨rfl, rfl⟩
          · have HZ := Lib.hid k0
            clear k0
            go_wp2
            go_round
            case rel => exact ⟨k + 1, by omega, by simp, Kn.all_step l k x HX.out GG.out HG.out, fun _ => HH.out (by have := HZ.out; omega)⟩
            case measure => simp [intOf]; omega
        · have he : B = false := HB.out.symm.trans (Kn.right_bad l k x HX.out g)
          clear g
          subst he
          go_wp2
          go_ret
          exact ⟨rfl, rfl⟩
    · obtain rfl : k = l.length := by omega
      have dk : ¬ (l.length : Int) < (l.length : Int) := by omega
      have HE := Lib.hid (Kn.right_ends l hg hh)
      clear hg hh h
      by_cases h1 : 1 ≤ l.length
      · have d1 : (1 : Int) ≤ (l.length : Int) := by omega
        by_cases h2 : l.length ≤ 6
        · have d2 : (l.length : Int) ≤ 6 := by omega
          have he : B = true := HB.out.symm.trans (HE.out.2.2 h1 h2)
          subst he
          go_wp2
          go_ret
          exact ⟨rfl, rfl⟩
        · have d2 : ¬ (l.length : Int) ≤ 6 := by omega
          have he : B = false := HB.out.symm.trans (HE.out.2.1 h1 h2)
          subst he
          go_wp2
          go_ret
          exact ⟨rfl, rfl⟩
      · have d1 : ¬ (1 : Int) ≤ (l.length : Int) := by omega
        have he : B = false := HB.out.symm.trans (HE.out.1 h1)
        subst he
        go_wp2
        go_ret
        exact ⟨rfl, rfl⟩
end Go.Proofs.YtccjfmjgkkpndaaDoor
