/-
  Contracts of the document's answers for kinds: which value is ahead.
-/
import Derived.Test.YtdjnjhlcdcmeaaaK2
namespace Go.Proofs.Ytdjnjhlcdcmeaaa
open Go.RowKit
theorem Kn.below_drewN {B : Nat} {w w' : World} (h : Below B w w') (n : Nat) : Below B w (w'.drewN n) := ⟨h.os, h.tape, h.output, h.size, h.block⟩
/-- The value lies in the cells from this place on. -/
structure Kn.At (w : World) (b o : Nat) (v : Kn.V) : Prop where
  c0 : w.cell? ⟨b, o, none⟩ = some (.bool v.null)
  c1 : w.cell? ⟨b, o + 1, none⟩ = some (.int .i64 v.n)
  c2 : w.cell? ⟨b, o + 2, none⟩ = some (.string v.s)
theorem Kn.At.lt {w : World} {b o : Nat} {v : Kn.V} (h : Kn.At w b o v) : b < w.heap.size := World.block_lt_of_cell? w _ h.c0
theorem Kn.At.later {w w' : World} {b o : Nat} {v : Kn.V} (h : Kn.At w b o v) (g : Below w.heap.size w w') : Kn.At w' b o v :=
  ⟨(g.cell (p := ⟨b, o, none⟩) h.lt).trans h.c0, (g.cell (p := ⟨b, o + 1, none⟩) h.lt).trans h.c1, (g.cell (p := ⟨b, o + 2, none⟩) h.lt).trans h.c2⟩
theorem Kn.cell_new (w : World) (cs : Array Value) (t : TypeId) (i : Nat) (v : Value) (h : cs[i]? = some v) : (w.alloc (.cells cs t)).cell? ⟨w.heap.size, i, none⟩ = some v := by
  have e := heap_alloc_new w (.cells cs t)
  unfold World.cell?
  simp only [e]
  exact h
theorem Kn.At.new (w : World) (v : Kn.V) (t : TypeId) : Kn.At (w.alloc (.cells #[.bool v.null, .int .i64 v.n, .string v.s] t)) w.heap.size 0 v :=
  ⟨Kn.cell_new w _ t 0 _ rfl, Kn.cell_new w _ t 1 _ rfl, Kn.cell_new w _ t 2 _ rfl⟩
theorem Kn.At.alloc {w : World} {b o : Nat} {v : Kn.V} (h : Kn.At w b o v) (x : Obj) : Kn.At (w.alloc x) b o v := h.later ((Below.refl _ w).alloc (Nat.le_refl _) x)
/-- Two values boxed, one behind the other. -/
theorem Kn.boxed2 (w : World) (a b : Kn.V) (t t' : TypeId) : Kn.At ((w.alloc (.cells #[.bool a.null, .int .i64 a.n, .string a.s] t)).alloc (.cells #[.bool b.null, .int .i64 b.n, .string b.s] t')) w.heap.size 0 a ∧
    Kn.At ((w.alloc (.cells #[.bool a.null, .int .i64 a.n, .string a.s] t)).alloc (.cells #[.bool b.null, .int .i64 b.n, .string b.s] t')) (w.heap.size + 1) 0 b := by
  refine ⟨(Kn.At.new w a t).alloc _, ?_⟩
  have := Kn.At.new (w.alloc (.cells #[.bool a.null, .int .i64 a.n, .string a.s] t)) b t'
  rwa [World.size_alloc] at this
/-- The value's text is no longer than a machine can hold. -/
def Kn.Z (a : Kn.V) : Prop := a.s.size ≤ 140737488351232
theorem Kn.len_toList (s : ByteArray) : s.toList.length = s.size := by
  rw [ByteArray.toList_eq]
  exact Array.length_toList
theorem Kn.at_toList (s : ByteArray) (k : Nat) (h : k < s.size) : s.toList.drop k = s[k] :: s.toList.drop (k + 1) := by
  have hl : k < s.toList.length := by rw [Kn.len_toList]; exact h
  rw [List.drop_eq_getElem_cons hl]
  congr 1
  rw [List.getElem_of_eq (ByteArray.toList_eq s)]
  rfl
theorem Kn.bl_step (x y : UInt8) (l m : List UInt8) : ((((x.toNat : Int) != (y.toNat : Int)) = true ∧ Op.bytesLess (x :: l) (y :: m) = decide (x.toNat < y.toNat)) ∨ (((x.toNat : Int) != (y.toNat : Int)) = false ∧ Op.bytesLess (x :: l) (y :: m) = Op.bytesLess l m)) := by
  by_cases h : x = y
  · subst h
    right
    simp [Op.bytesLess]
  · left
    have hn : x.toNat ≠ y.toNat := fun e => h (UInt8.toNat_inj.1 e)
    refine ⟨by rw [bne_iff_ne]; omega, ?_⟩
    simp [Op.bytesLess, h, UInt8.lt_iff_toNat_lt]
theorem Kn.bl_end (a b : ByteArray) (k : Nat) (ha : k ≤ a.size) (hb : k ≤ b.size) (h : ¬ k < a.size ∨ ¬ k < b.size) : Op.bytesLess (a.toList.drop k) (b.toList.drop k) = decide (a.size < b.size) := by
  by_cases h1 : k < b.size
  · have e : a.toList.drop k = [] := List.drop_eq_nil_of_le (by rw [Kn.len_toList]; omega)
    rw [e, Kn.at_toList b k h1]
    rw [decide_eq_true (by omega)]
    rfl
  · have e : b.toList.drop k = [] := List.drop_eq_nil_of_le (by rw [Kn.len_toList]; omega)
    rw [e, decide_eq_false (by omega)]
    cases List.drop k a.toList <;> rfl
set_option maxHeartbeats 1000000 in
theorem Kn.rahead_c (a b : ByteArray) (ha : a.size ≤ 140737488351232) (hb : b.size ≤ 140737488351232) (w : World) :
    Calls Try.prog 27 #[.string a, .string b] w fun e w' => e = .returned (.bool (Op.bytesLess a.toList b.toList)) ∧ ∃ n, w' = w.drewN n := by
  go_enter Try.func27, Try.ntmps27
  go_wp2
  go_loopw [5] (fun i wr => ∃ k : Nat, k ≤ a.size ∧ k ≤ b.size ∧ i = .int .i64 k ∧ Op.bytesLess a.toList b.toList = Op.bytesLess (a.toList.drop k) (b.toList.drop k) ∧ ∃ n, wr = w.drewN n) (fun i _ => a.size - (intOf i).toNat)
  case atStart => exact ⟨0, by omega, by omega, rfl, rfl, 0, rfl⟩
  case round =>
    obtain ⟨k, hka, hkb, rfl, hl, n, rfl⟩ := hrel
    by_cases h1 : k < a.size
    · by_cases h2 : k < b.size
      · have d1 : (k : Int) < (a.size : Int) := by omega
        have d2 : (k : Int) < (b.size : Int) := by omega
        have d0 : 0 ≤ (k : Int) := by omega
        rw [Kn.at_toList a k h1, Kn.at_toList b k h2] at hl
        have HL := Lib.hid hl
        clear hl
        rcases Kn.bl_step a[k] b[k] (a.toList.drop (k + 1)) (b.toList.drop (k + 1)) with ⟨h3, h4⟩ | ⟨h3, h4⟩
        · have H4 := Lib.hid h4
          clear h4
          go_wp2_with fail
          go_quiet (fail)
          go_wp2_with fail
          go_quiet (fail)
          go_wp2
          go_ret
          exact ⟨congrArg (fun x => Ending.returned (.bool x)) (HL.out.trans H4.out).symm, _, by rw [World.drewN_drewN, World.drewN_drewN]⟩
        · have H4 := Lib.hid h4
          clear h4
          go_wp2_with fail
          go_quiet (fail)
          go_wp2
          go_roundw
          case rel => exact ⟨k + 1, by omega, by omega, by simp, by rw [HL.out, H4.out], _, rfl⟩
          case measure => simp [intOf]; omega
      · have d1 : (k : Int) < (a.size : Int) := by omega
        have d2 : ¬ (k : Int) < (b.size : Int) := by omega
        go_wp2
        go_ret
        exact ⟨congrArg (fun x => Ending.returned (.bool x)) (Kn.bl_end a b k hka hkb (.inr h2)).symm, _, rfl⟩
    · have d1 : ¬ (k : Int) < (a.size : Int) := by omega
      go_wp2
      go_ret
      exact ⟨congrArg (fun x => Ending.returned (.bool x)) (Kn.bl_end a b k hka hkb (.inl h1)).symm, _, rfl⟩
/-- The document's answer: what is ahead. -/
theorem Kn.ahead_is (a b : Kn.V) : (decide (Kn.cmp a b < 0)) = (if a.null = true then !b.null else if b.null = true then false else if (a.n != b.n) = true then decide (a.n < b.n) else Op.bytesLess a.s.toList b.s.toList) := by
  unfold Kn.cmp
  cases a.null <;> cases b.null <;> simp only [Bool.false_eq_true, if_false, if_true]
  · by_cases h : a.n = b.n
    · rw [h]
      have e : Kn.ncmp b.n b.n = 0 := (Kn.ncmp_zero _ _).2 rfl
      rw [e]
      have e2 : (b.n != b.n) = false := by simp
      rw [e2, if_neg (by simp)]
      show decide (Kn.lcmp a.s.toList b.s.toList < 0) = _
      unfold Kn.lcmp
      cases Op.bytesLess a.s.toList b.s.toList
      · cases Op.bytesLess b.s.toList a.s.toList <;> rfl
      · rfl
    · have e : Kn.ncmp a.n b.n ≠ 0 := fun e => h ((Kn.ncmp_zero _ _).1 e)
      have e2 : (a.n != b.n) = true := by rw [bne_iff_ne]; exact h
      rw [if_pos e2]
      unfold Kn.or2
      rw [if_neg e, Bool.eq_iff_iff, decide_eq_true_iff, decide_eq_true_iff]
      unfold Kn.ncmp
      repeat' split <;> omega
  all_goals rfl
set_option maxHeartbeats 1000000 in
theorem Kn.rAhead_c (a b : Kn.V) (ha : Kn.Z a) (hb : Kn.Z b) (w : World) :
    Calls Try.prog 18 #[a.val, b.val] w fun e w' => e = .returned (.bool (decide (Kn.cmp a b < 0))) ∧ Below w.heap.size w w' := by
  rw [Kn.ahead_is]
  obtain ⟨an, ai, sa⟩ := a
  obtain ⟨bn, bi, sb⟩ := b
  unfold Kn.V.val
  cases an <;> cases bn
  · rcases Bool.eq_false_or_eq_true (ai != bi) with h | h
    · show Calls _ _ _ _ fun e w' => e = .returned (.bool (if (ai != bi) = true then decide (ai < bi) else Op.bytesLess sa.toList sb.toList)) ∧ _
      rw [if_pos h]
      go_enter Try.func18, Try.ntmps18
      go_wp2
      go_ret
      exact ⟨rfl, ((Below.refl _ w).alloc (Nat.le_refl _) _).alloc (by simp) _⟩
    · show Calls _ _ _ _ fun e w' => e = .returned (.bool (if (ai != bi) = true then decide (ai < bi) else Op.bytesLess sa.toList sb.toList)) ∧ _
      rw [if_neg (by rw [h]; simp)]
      go_enter Try.func18, Try.ntmps18
      go_wp2_with fail
      refine (Kn.rahead_c sa sb ha hb _).mono ?_
      rintro e w1 ⟨rfl, n, rfl⟩
      go_wp2
      go_ret
      exact ⟨rfl, Kn.below_drewN (((Below.refl _ w).alloc (Nat.le_refl _) _).alloc (by simp) _) n⟩
  all_goals
    go_enter Try.func18, Try.ntmps18
    go_wp2
    go_ret
    exact ⟨rfl, ((Below.refl _ w).alloc (Nat.le_refl _) _).alloc (by simp) _⟩
set_option maxHeartbeats 1000000 in
theorem Kn.rCompare_c (a b : Kn.V) (ha : Kn.Z a) (hb : Kn.Z b) (w : World) :
    Calls Try.prog 17 #[a.val, b.val] w fun e w' => e = .returned (.int .i64 (Kn.cmp a b)) ∧ Below w.heap.size w w' := by
  have hf := Kn.cmp_fair a b b
  have hc : (Kn.cmp a b = -1 ∧ decide (Kn.cmp a b < 0) = true) ∨ (Kn.cmp a b = 1 ∧ decide (Kn.cmp a b < 0) = false ∧ decide (Kn.cmp b a < 0) = true) ∨ (Kn.cmp a b = 0 ∧ decide (Kn.cmp a b < 0) = false ∧ decide (Kn.cmp b a < 0) = false) := by
    have h1 := hf.xr
    have h2 := hf.xa
    simp only [decide_eq_true_iff, decide_eq_false_iff_not]
    omega
  have ca := Kn.rAhead_c a b ha hb
  have cb := Kn.rAhead_c b a hb ha
  rcases hc with ⟨h1, h2⟩ | ⟨h1, h2, h3⟩ | ⟨h1, h2, h3⟩
  · rw [h1]
    rw [h2] at ca
    clear cb hf h1 h2
    unfold Kn.V.val at ca ⊢
    go_enter Try.func17, Try.ntmps17
    go_wp2_with fail
    refine (ca _).mono ?_
    rintro e w1 ⟨rfl, g1⟩
    go_wp2
    go_ret
    exact ⟨rfl, (((Below.refl _ w).alloc (Nat.le_refl _) _).alloc (by simp) _).trans (g1.mono (by simp; omega))⟩
  all_goals
    rw [h1]
    rw [h2] at ca
    rw [h3] at cb
    clear hf h1 h2 h3
    unfold Kn.V.val at ca cb ⊢
    go_enter Try.func17, Try.ntmps17
    go_wp2_with fail
    refine (ca _).mono ?_
    rintro e w1 ⟨rfl, g1⟩
    obtain ⟨a0, a1, a2⟩ := (Kn.boxed2 w a b _ _).1.later g1
    obtain ⟨b0, b1, b2⟩ := (Kn.boxed2 w a b _ _).2.later g1
    go_wp2_with fail
    refine (cb _).mono ?_
    rintro e w2 ⟨rfl, g2⟩
    go_wp2
    go_ret
    exact ⟨rfl, (((Below.refl _ w).alloc (Nat.le_refl _) _).alloc (by simp) _).trans ((g1.trans (g2.mono g1.size)).mono (by simp; omega))⟩
end Go.Proofs.Ytdjnjhlcdcmeaaa
