/-
  The developers' reader of deeds, as plain functions of its state: what is left of the bytes, the cursor's error, whether a flag was wrong. What it comes to is what is read.
  Contracts of package deeds: the columns of a deed, a flag and a value as bytes; mathematics of its errors.
  Contracts of package deeds: a value as bytes.
  Contracts of package deeds: Same.
-/
import Derived.Test.YtccjfmjgkkpndaaDoorV6
import Derived.Test.YtccjfmjgkkpndaaDoorW7
import Derived.Test.YtccjfmjgkkpndaaDoorV4
import Derived.Test.YtccjfmjgkkpndaaDoorW3
import Derived.Test.YtccjfmjgkkpndaaDoorV2
namespace Go.Proofs.YtccjfmjgkkpndaaDoor
open Go.RowKit
open Ty (num txt)
open Ig (rest sg)
open Tx (restT)
/-- A reader's state. -/
structure Dd.St where
  l : List UInt8
  e : Nat
  wr : Bool
/-- Its error so far. -/
def Dd.St.q (s : Dd.St) : Nat := if s.wr = true then 4 else s.e
/-- A flag; a value that is there; a value; values. -/
def Dd.stF (s : Dd.St) : Bool × Dd.St := ((Ty.rdB s.l s.e).1 == 1, ⟨(Ty.rdB s.l s.e).2.1, (Ty.rdB s.l s.e).2.2, s.wr || decide (1 < (Ty.rdB s.l s.e).1)⟩)
def Dd.stP (c : Kn.C) (s : Dd.St) : Kn.V × Dd.St :=
  if c.k = 2 then (Cl.ofS (Ty.rdT 64 s.l s.e).1, ⟨(Ty.rdT 64 s.l s.e).2.1, (Ty.rdT 64 s.l s.e).2.2, s.wr⟩)
  else (Cl.ofN (Ty.zag ((Ty.rdU s.l s.e).1 : Int)), ⟨(Ty.rdU s.l s.e).2.1, (Ty.rdU s.l s.e).2.2, s.wr⟩)
def Dd.stV (c : Kn.C) (s : Dd.St) : Kn.V × Dd.St :=
  if c.null = true then (if (Dd.stF s).1 = true then (Cl.nul, (Dd.stF s).2) else Dd.stP c (Dd.stF s).2) else Dd.stP c s
def Dd.stR : List Kn.C → Dd.St → List Kn.V × Dd.St
  | [], s => ([], s)
  | c :: cs, s => ((Dd.stV c s).1 :: (Dd.stR cs (Dd.stV c s).2).1, (Dd.stR cs (Dd.stV c s).2).2)
/-- What Done says. -/
def Dd.St.done (s : Dd.St) : Nat := if s.wr = true then 4 else Ty.fin s.l s.e
theorem Dd.St.is0 {s : Dd.St} (h : s.q = 0) : s = ⟨s.l, 0, false⟩ := by
  obtain ⟨l, e, wr⟩ := s
  unfold Dd.St.q at h
  cases wr
  · simp only [Bool.false_eq_true, if_false] at h; rw [h]
  · simp at h
theorem Dd.St.ne {s : Dd.St} (h : s.q ≠ 0) : s.wr = true ∨ (s.wr = false ∧ s.e ≠ 0) := by
  unfold Dd.St.q at h
  cases hw : s.wr
  · rw [hw, if_neg (by decide)] at h; exact .inr ⟨rfl, h⟩
  · exact .inl rfl
theorem Dd.St.q_done {s : Dd.St} (h : s.q ≠ 0) : s.done = s.q := by
  rcases Dd.St.ne h with hw | ⟨hw, he⟩
  · unfold Dd.St.done Dd.St.q; rw [hw]; rfl
  · simp [Dd.St.done, Dd.St.q, Ty.fin, hw, he]
theorem Dd.rdB_ne (l : List UInt8) {e : Nat} (h : e ≠ 0) : Ty.rdB l e = (0, l, e) := by unfold Ty.rdB; rw [if_pos h]
theorem Dd.rdU_ne (l : List UInt8) {e : Nat} (h : e ≠ 0) : Ty.rdU l e = (0, l, e) := by unfold Ty.rdU; rw [if_pos h]
theorem Dd.rdT_ne (l : List UInt8) {e : Nat} (h : e ≠ 0) : Ty.rdT 64 l e = ([], l, e) := by unfold Ty.rdT; rw [if_pos h]
/-- The first error stays. -/
theorem Dd.stF_ne {s : Dd.St} (h : s.q ≠ 0) : (Dd.stF s).2.q = s.q := by
  rcases Dd.St.ne h with hw | ⟨hw, he⟩
  · unfold Dd.stF Dd.St.q
    simp only [hw, Bool.true_or, if_true]
  · unfold Dd.stF Dd.St.q
    rw [Dd.rdB_ne _ he]
    simp [hw]
theorem Dd.stP_ne {c : Kn.C} {s : Dd.St} (h : s.q ≠ 0) : (Dd.stP c s).2.q = s.q := by
  rcases Dd.St.ne h with hw | ⟨hw, he⟩
  · by_cases hk : c.k = 2 <;> simp [Dd.stP, Dd.St.q, hk, hw]
  · by_cases hk : c.k = 2 <;> simp [Dd.stP, Dd.St.q, hk, hw, Dd.rdU_ne _ he, Dd.rdT_ne _ he]
theorem Dd.stV_ne {c : Kn.C} {s : Dd.St} (h : s.q ≠ 0) : (Dd.stV c s).2.q = s.q := by
  unfold Dd.stV
  split
  · split
    · exact Dd.stF_ne h
    · rw [Dd.stP_ne (by rw [Dd.stF_ne h]; exact h), Dd.stF_ne h]
  · exact Dd.stP_ne h
theorem Dd.stR_ne : ∀ (cs : List Kn.C) {s : Dd.St}, s.q ≠ 0 → (Dd.stR cs s).2.q = s.q
  | [], _, _ => rfl
  | c :: cs, s, h => by
    show (Dd.stR cs (Dd.stV c s).2).2.q = s.q
    rw [Dd.stR_ne cs (by rw [Dd.stV_ne h]; exact h), Dd.stV_ne h]
/-- Without an error it is what is read. -/
theorem Dd.stF_0 (l : List UInt8) : (Dd.stF ⟨l, 0, false⟩).2.q = (Dd.rdF l).1 ∧ (Dd.stF ⟨l, 0, false⟩).1 = (Dd.rdF l).2.1 ∧ ((Dd.rdF l).1 = 0 → (Dd.stF ⟨l, 0, false⟩).2 = ⟨(Dd.rdF l).2.2, 0, false⟩) := by
  cases l with
  | nil => exact ⟨rfl, rfl, fun h => by cases h⟩
  | cons b r =>
    have e : Ty.rdB (b :: r) 0 = (b.toNat, r, 0) := by unfold Ty.rdB; rw [if_neg (by simp)]
    unfold Dd.stF Dd.rdF Dd.St.q
    simp only [e, Bool.false_or]
    by_cases h1 : 1 < b.toNat
    · rw [if_pos h1]
      simp only [h1, decide_true, if_true]
      refine ⟨trivial, ?_, fun h => by cases h⟩
      rw [beq_eq_false_iff_ne]; omega
    · rw [if_neg h1]
      simp only [h1, decide_false, Bool.false_eq_true, if_false]
      refine ⟨trivial, ?_, fun _ => trivial⟩
      by_cases h : b = 1
      · rw [h]; rfl
      · have h2 : b.toNat ≠ 1 := fun h2 => h (UInt8.toNat_inj.1 h2)
        rw [beq_eq_false_iff_ne.2 h2, beq_eq_false_iff_ne.2 h]
theorem Dd.stP_0 {c : Kn.C} (hc : c.good = true) (l : List UInt8) : (Dd.stP c ⟨l, 0, false⟩).2.q = (Dd.rdP c l).1 ∧ ((Dd.rdP c l).1 = 0 → Dd.stP c ⟨l, 0, false⟩ = ((Dd.rdP c l).2.1, ⟨(Dd.rdP c l).2.2, 0, false⟩)) := by
  have eU : Ty.rdU l 0 = ((num l).1, l.drop (num l).2.1, (num l).2.2) := by unfold Ty.rdU; rw [if_neg (by simp)]
  have eT : Ty.rdT 64 l 0 = ((txt l 64).1, l.drop (txt l 64).2.1, (txt l 64).2.2) := by unfold Ty.rdT; rw [if_neg (by simp)]
  rcases (Dd.good_iff c).1 hc with hk | hk
  · have hk2 : c.k ≠ 2 := by omega
    unfold Dd.stP Dd.rdP
    rw [if_neg hk2, if_pos hk]
    simp only [eU]
    refine ⟨rfl, fun h => ?_⟩
    rw [h]; rfl
  · have hk2 : c.k ≠ 1 := by omega
    unfold Dd.stP Dd.rdP
    rw [if_pos hk, if_neg hk2]
    simp only [eT]
    refine ⟨rfl, fun h => ?_⟩
    rw [h]; rfl
theorem Dd.stV_0 {c : Kn.C} (hc : c.good = true) (l : List UInt8) : (Dd.stV c ⟨l, 0, false⟩).2.q = (Dd.rdV c l).1 ∧ ((Dd.rdV c l).1 = 0 → Dd.stV c ⟨l, 0, false⟩ = ((Dd.rdV c l).2.1, ⟨(Dd.rdV c l).2.2, 0, false⟩)) := by
  unfold Dd.stV Dd.rdV
  by_cases hn : c.null = true
  · simp only [if_pos hn]
    obtain ⟨h1, h2, h3⟩ := Dd.stF_0 l
    by_cases he : (Dd.rdF l).1 ≠ 0
    · rw [if_pos he]
      refine ⟨?_, fun h => absurd h he⟩
      split
      · exact h1
      · rw [Dd.stP_ne (by rw [h1]; exact he), h1]
    · rw [if_neg he]
      have h0 : (Dd.rdF l).1 = 0 := by simpa using he
      rw [h2, h3 h0]
      cases hb : (Dd.rdF l).2.1
      · simp only [Bool.false_eq_true, if_false]
        exact Dd.stP_0 hc _
      · simp only [if_true]
        exact ⟨rfl, fun _ => trivial⟩
  · simp only [if_neg hn]
    exact Dd.stP_0 hc l
theorem Dd.stR_0 : ∀ (cs : List Kn.C) (l : List UInt8), cs.all Kn.C.good = true → (Dd.stR cs ⟨l, 0, false⟩).2.q = (Dd.rdR cs l).1 ∧ ((Dd.rdR cs l).1 = 0 → Dd.stR cs ⟨l, 0, false⟩ = ((Dd.rdR cs l).2.1, ⟨(Dd.rdR cs l).2.2, 0, false⟩))
  | [], l, _ => ⟨rfl, fun _ => rfl⟩
  | c :: cs, l, h => by
    simp only [List.all_cons, Bool.and_eq_true] at h
    obtain ⟨h1, h2⟩ := Dd.stV_0 h.1 l
    simp only [Dd.stR, Dd.rdR]
    by_cases he : (Dd.rdV c l).1 ≠ 0
    · rw [if_pos he]
      refine ⟨?_, fun h => absurd h he⟩
      rw [Dd.stR_ne cs (by rw [h1]; exact he), h1]
    · rw [if_neg he]
      have e := h2 (by simpa using he)
      obtain ⟨i1, i2⟩ := Dd.stR_0 cs (Dd.rdV c l).2.2 h.2
      rw [e]
      refine ⟨i1, fun h => ?_⟩
      rw [i2 h]
/-- The columns' values, up to Done. -/
theorem Dd.rd_st {s : List Kn.C} (hs : Kn.right s = true) (l : List UInt8) {b : Bool} {s1 s2 : Dd.St} {M : List Kn.V} (h1 : Dd.stF ⟨l, 0, false⟩ = (b, s1)) (h2 : Dd.stR (Dd.cols s b) s1 = (M, s2)) :
    Dd.rd s l = if s2.done ≠ 0 then (s2.done, ⟨false, []⟩) else (0, ⟨b, M⟩) := by
  have hr : ¬ Kn.right s = false := by rw [hs]; decide
  have hall : ∀ g, (Dd.cols s g).all Kn.C.good = true := fun g => by
    have ha := Kn.right_all hs
    unfold Dd.cols
    cases g
    · exact ha
    · rw [if_pos rfl, List.all_eq_true]
      exact fun x hx => (List.all_eq_true.1 ha) x (List.mem_of_mem_take hx)
  obtain ⟨f1, f2, f3⟩ := Dd.stF_0 l
  rw [h1] at f1 f2 f3
  simp only at f1 f2 f3
  unfold Dd.rd
  rw [if_neg hr, ← f2]
  by_cases he : (Dd.rdF l).1 ≠ 0
  · have e2 := Dd.stR_ne (Dd.cols s b) (s := s1) (by rw [f1]; exact he)
    rw [h2] at e2
    simp only at e2
    have hd : s2.done = (Dd.rdF l).1 := by rw [Dd.St.q_done (by rw [e2, f1]; exact he), e2, f1]
    rw [if_pos he, hd, if_pos he]
  · rw [if_neg he]
    have e1 := f3 (by simpa using he)
    obtain ⟨g1, g2⟩ := Dd.stR_0 (Dd.cols s b) (Dd.rdF l).2.2 (hall b)
    rw [e1] at h2
    rw [h2] at g1 g2
    simp only at g1 g2
    by_cases h3 : (Dd.rdR (Dd.cols s b) (Dd.rdF l).2.2).1 ≠ 0
    · have hd : s2.done = (Dd.rdR (Dd.cols s b) (Dd.rdF l).2.2).1 := by rw [Dd.St.q_done (by rw [g1]; exact h3), g1]
      rw [if_pos h3, hd, if_pos h3]
    · rw [if_neg h3]
      have e3 := g2 (by simpa using h3)
      have eM : M = (Dd.rdR (Dd.cols s b) (Dd.rdF l).2.2).2.1 := congrArg Prod.fst e3
      have eS : s2 = ⟨(Dd.rdR (Dd.cols s b) (Dd.rdF l).2.2).2.2, 0, false⟩ := congrArg Prod.snd e3
      by_cases h4 : (Dd.rdR (Dd.cols s b) (Dd.rdF l).2.2).2.2 ≠ []
      · have hd : s2.done = 5 := by rw [eS]; simp [Dd.St.done, Ty.fin, h4]
        rw [if_pos h4, hd, if_pos (by decide)]
      · have hd : s2.done = 0 := by rw [eS]; simp [Dd.St.done, Ty.fin, (by simpa using h4 : (Dd.rdR (Dd.cols s b) (Dd.rdF l).2.2).2.2 = [])]
        rw [if_neg h4, hd, if_neg (by decide), eM]
theorem Dd.stR_snoc : ∀ (cs : List Kn.C) (c : Kn.C) (s : Dd.St), Dd.stR (cs ++ [c]) s = ((Dd.stR cs s).1 ++ [(Dd.stV c (Dd.stR cs s).2).1], (Dd.stV c (Dd.stR cs s).2).2)
  | [], _, _ => rfl
  | a :: cs, c, s => by
    have ih := Dd.stR_snoc cs c (Dd.stV a s).2
    simp only [List.cons_append, Dd.stR, ih]
theorem Dd.stR_len : ∀ (cs : List Kn.C) (s : Dd.St), (Dd.stR cs s).1.length = cs.length
  | [], _ => rfl
  | c :: cs, s => by
    have := Dd.stR_len cs (Dd.stV c s).2
    simp only [Dd.stR, List.length_cons, this]
/-- One column more. -/
theorem Dd.stR_step {cs : List Kn.C} {k : Nat} {c : Kn.C} (hc : cs[k]? = some c) {s s1 : Dd.St} {M : List Kn.V} (h : Dd.stR (cs.take k) s = (M, s1)) : Dd.stR (cs.take (k + 1)) s = (M ++ [(Dd.stV c s1).1], (Dd.stV c s1).2) := by
  obtain ⟨h1, rfl⟩ := List.getElem?_eq_some_iff.1 hc
  rw [List.take_succ_eq_append_getElem h1, Dd.stR_snoc, h]
theorem Dd.rdB_le (l : List UInt8) (e : Nat) : (Ty.rdB l e).2.1.length ≤ l.length ∧ (Ty.rdB l e).1 ≤ 255 := by
  unfold Ty.rdB
  split
  · exact ⟨Nat.le_refl _, Nat.zero_le _⟩
  · cases l with
    | nil => exact ⟨Nat.le_refl _, Nat.zero_le _⟩
    | cons b r => exact ⟨by simp, by have := b.toNat_lt; show b.toNat ≤ 255; omega⟩
theorem Dd.stF_le (s : Dd.St) : (Dd.stF s).2.l.length ≤ s.l.length := (Dd.rdB_le s.l s.e).1
theorem Dd.stP_le (c : Kn.C) (s : Dd.St) : (Dd.stP c s).2.l.length ≤ s.l.length := by
  unfold Dd.stP Ty.rdT Ty.rdU
  split <;> split <;> simp only [List.length_drop] <;> omega
theorem Dd.stV_le (c : Kn.C) (s : Dd.St) : (Dd.stV c s).2.l.length ≤ s.l.length := by
  have h1 := Dd.stF_le s
  unfold Dd.stV
  split
  · split
    · exact h1
    · exact Nat.le_trans (Dd.stP_le _ _) h1
  · exact Dd.stP_le _ _
theorem Dd.stR_le : ∀ (cs : List Kn.C) (s : Dd.St), (Dd.stR cs s).2.l.length ≤ s.l.length
  | [], _ => Nat.le_refl _
  | c :: cs, s => Nat.le_trans (Dd.stR_le cs (Dd.stV c s).2) (Dd.stV_le c s)
end Go.Proofs.YtccjfmjgkkpndaaDoor

namespace Go.Proofs.YtccjfmjgkkpndaaDoor
open Go.RowKit
open Ty (I64)
/-- The length is not above the capacity. -/
def Dd.Cap (v : Value) : Prop := ∀ a n c, v = .slice a n c → n ≤ c
theorem Dd.Cap.of {a : Option Addr} {n c : Nat} (h : n ≤ c) : Dd.Cap (.slice a n c) := fun a' n' c' e => by
  simp only [Value.slice.injEq] at e
  omega
/-- Columns in a slice as Go makes them. -/
def Dd.Cols (w : World) (v : Value) (l : List Kn.C) : Prop := Kn.Cols w v l ∧ Dd.Cap v
theorem Dd.Cols.later {w w' : World} {v : Value} {l : List Kn.C} (h : Dd.Cols w v l) (g : Below w.heap.size w w') : Dd.Cols w' v l := ⟨h.1.later g, h.2⟩
theorem Dd.Cols.first {w : World} {a : Option Addr} {n c : Nat} {l : List Kn.C} (h : Dd.Cols w (.slice a n c) l) (hl : 1 ≤ l.length) : Dd.Cols w (.slice a 1 c) (l.take 1) := by
  obtain ⟨⟨a', c', e, h⟩, hc⟩ := h
  simp only [Value.slice.injEq] at e
  obtain ⟨rfl, rfl, rfl⟩ := e
  have hc := hc _ _ _ rfl
  refine ⟨⟨a, c, by rw [List.length_take, Nat.min_eq_left hl], ?_⟩, Dd.Cap.of (by omega)⟩
  rcases h with rfl | ⟨b, o, rfl, hb, hm, h⟩
  · simp at hl
  · refine .inr ⟨b, o, rfl, hb, by rw [List.length_take]; omega, fun i x hx => h i x ?_⟩
    rw [List.getElem?_take] at hx
    split at hx
    · exact hx
    · cases hx
theorem Dd.cols_right {s : List Kn.C} (h : Kn.right s = true) (g : Bool) : Kn.right (Dd.cols s g) = true := by
  unfold Dd.cols
  cases g
  · exact h
  · rw [if_pos rfl]
    obtain ⟨x, t, rfl, hx, hg⟩ := Kn.right_head h
    simp [Kn.right, Kn.headOk, hx, hg]
theorem Dd.cols_good {s : List Kn.C} (h : Kn.right s = true) {g : Bool} {k : Nat} {c : Kn.C} (hc : (Dd.cols s g)[k]? = some c) : c.good = true := by
  have ha := Kn.right_all (Dd.cols_right h g)
  exact (List.all_eq_true.1 ha) c (List.mem_of_getElem? hc)
theorem Dd.cols_len {s : List Kn.C} (h : Kn.right s = true) (g : Bool) : 1 ≤ (Dd.cols s g).length ∧ (Dd.cols s g).length ≤ 6 := Kn.right_len (Dd.cols_right h g)
/-- The error, as the code finds it. -/
theorem Dd.fitE_cols {s : List Kn.C} (h : Kn.right s = true) (d : Dd.D) : Kn.fitsE (Dd.cols s d.gone) d.row = Dd.fitE s d := by
  have hr := Dd.cols_right h d.gone
  obtain ⟨g, row⟩ := d
  unfold Dd.fitE
  cases g
  · rfl
  · simp only [if_true] at hr ⊢
    rw [if_pos h]
    obtain ⟨x, t, rfl, hx, hg⟩ := Kn.right_head h
    have e : Dd.cols (x :: t) true = [x] := rfl
    simp only [e] at hr ⊢
    match row with
    | [] => exact Kn.fitsE_len hr (by simp)
    | [k] =>
      simp only
      unfold Kn.fitsE Kn.keyE
      rw [if_pos hr, if_pos h, if_pos (by simp)]
      simp only [Kn.fitsAll, Bool.and_true]
    | _ :: _ :: _ => exact Kn.fitsE_len hr (by simp)
theorem Dd.fitE_not {s : List Kn.C} (h : Kn.right s = false) (d : Dd.D) : Dd.fitE s d = 4 := by
  unfold Dd.fitE
  split
  · rw [h, if_neg (by decide)]
  · exact Kn.fitsE_bad h
set_option maxHeartbeats 400000 in
theorem Dd.columnsOf_c (v : Value) (s : List Kn.C) (g : Bool) (w : World) (hs : Dd.Cols w v s) (hl : 1 ≤ s.length) :
    Calls Tryd.prog 18 #[v, .bool g] w fun e w' => (∃ u, e = .returned u ∧ ∀ W, Dd.Cols W v s → Dd.Cols W u (Dd.cols s g)) ∧ w' = w := by
  obtain ⟨a, c, rfl, _⟩ := hs.1.is
  have hc := hs.2 _ _ _ rfl
  have hc1 : (1 : Int) ≤ (c : Int) := by omega
  cases g
  · go_enter Tryd.func18, Tryd.ntmps18
    go_wp2
    go_ret
    exact ⟨⟨_, rfl, fun W h => h⟩, rfl⟩
  · have hl2 := Lib.hid hl
    go_enter Tryd.func18, Tryd.ntmps18
    go_wp2
    go_ret
    exact ⟨⟨_, rfl, fun W h => h.first hl2.out⟩, rfl⟩
set_option maxHeartbeats 400000 in
theorem Dd.appendFlag_c (base : Nat) (v : Value) (bs : List UInt8) (b : Bool) (w : World) (hown : Ty.Buf base w v bs) (hb : base ≤ w.heap.size) (hl : bs.length + 1 ≤ 140737488355328) :
    Calls Tryd.prog 20 #[v, .bool b] w (Ty.Written base w v (bs ++ [Dd.flag b])) := by
  cases b
  · go_enter Tryd.func20, Tryd.ntmps20
    go_wp2_with (at_builtin; refine Ty.wpList_append_byte hown hb hl (.tmp 9) (.tmp 10) _ rfl rfl rfl rfl ?_; intro v1 w1 h1 g1)
    go_ret
    exact ⟨v1, rfl, h1 _ rfl, g1⟩
  · go_enter Tryd.func20, Tryd.ntmps20
    go_wp2_with (at_builtin; refine Ty.wpList_append_byte hown hb hl (.tmp 6) (.tmp 7) _ rfl rfl rfl rfl ?_; intro v1 w1 h1 g1)
    go_ret
    exact ⟨v1, rfl, h1 _ rfl, g1⟩
end Go.Proofs.YtccjfmjgkkpndaaDoor

namespace Go.Proofs.YtccjfmjgkkpndaaDoor
open Go.RowKit
open Ty (I64)
open Ig (encI)
open Tx (encT)
theorem Dd.encV_there {c : Kn.C} {v : Kn.V} (hc : c.null = false) (hv : v.null = false) : Dd.encV c v = Dd.encP c v := by
  unfold Dd.encV
  rw [hc, hv, if_neg (by decide), if_neg (by decide), List.nil_append]
theorem Dd.encV_flag {c : Kn.C} {v : Kn.V} (hc : c.null = true) (hv : v.null = false) : Dd.encV c v = Dd.flag false :: Dd.encP c v := by
  unfold Dd.encV
  rw [hc, hv, if_pos rfl, if_neg (by decide)]
  rfl
theorem Dd.encV_null {c : Kn.C} {v : Kn.V} (hc : c.null = true) (hv : v.null = true) : Dd.encV c v = [Dd.flag true] := by
  unfold Dd.encV
  rw [hc, hv, if_pos rfl, if_pos rfl]
  rfl
theorem Dd.encP_int {c : Kn.C} {v : Kn.V} (hk : c.k = 1) : Dd.encP c v = encI v.n := by unfold Dd.encP; rw [if_pos hk]
theorem Dd.encP_txt {c : Kn.C} {v : Kn.V} (hk : c.k = 2) : Dd.encP c v = encT v.s.data.toList := by unfold Dd.encP; rw [if_neg (by omega)]
theorem Dd.fits_live {c : Kn.C} {v : Kn.V} (h : Kn.fits c v = true) (hc : c.null = false) : v.null = false := by
  cases hv : v.null
  · rfl
  · have := (Dd.fits_null h hv).2
    rw [hc] at this; cases this
theorem Dd.fits_size {c : Kn.C} {v : Kn.V} (hk : c.k = 2) (h : Kn.fits c v = true) (hv : v.null = false) : v.s.size ≤ 64 := by
  have := (Dd.fits_str (by omega) h hv).2
  rwa [Ty.length_data] at this
theorem Dd.tabs_grew {w w' : World} {v v' : Value} {base : Nat} {bs : List UInt8} (h : Ty.Tabs w) (hg : Ty.Grew w w' v v') (hb : Ty.Buf base w v bs) (hG : Ty.G ≤ base) : Ty.Tabs w' :=
  Ty.Tabs.by h hg.by_ fun k hk => Nat.le_trans hG (World.ownsRow.lt hb k hk).1
set_option maxHeartbeats 2000000 in
set_option maxRecDepth 100000 in
theorem Dd.appendValue_c (base : Nat) (v : Value) (bs : List UInt8) (c : Kn.C) (x : Kn.V) (w : World) (hT : Ty.Tabs w) (hG : Ty.G ≤ base) (hown : Ty.Buf base w v bs) (hb : base ≤ w.heap.size) (hl : bs.length ≤ 1000) (hf : Kn.fits c x = true) (hg : c.good = true) (hi : I64 x.n) :
    Calls Tryd.prog 21 #[v, c.val, x.val] w (Ty.Written base w v (bs ++ Dd.encV c x)) := by
  obtain ⟨ck, cn⟩ := c
  obtain ⟨xn, xi, xs⟩ := x
  have hgr : Below w.heap.size w ((w.alloc (.cells #[.int .i64 ck, .bool cn] 39)).alloc (.cells #[.bool xn, .int .i64 xi, .string xs] 43)) := ((Below.refl _ w).alloc (Nat.le_refl _) _).alloc (by simp) _
  have hown2 : Ty.Buf base ((w.alloc (.cells #[.int .i64 ck, .bool cn] 39)).alloc (.cells #[.bool xn, .int .i64 xi, .string xs] 43)) v bs := World.ownsRow.alloc (World.ownsRow.alloc hown _) _
  have hown3 : Hid (∀ k, v.ownBlock = some k → k < w.heap.size) := Lib.hid fun k hk => (World.ownsRow.lt hown k hk).2
  have hT2 := Lib.hid (Ty.Tabs.below hT hgr (Ty.Tabs.two hT))
  have hBH : Hid (∀ (w' : World) (v' : Value), Ty.Grew ((w.alloc (.cells #[.int .i64 ck, .bool cn] 39)).alloc (.cells #[.bool xn, .int .i64 xi, .string xs] 43)) w' v v' → Ty.Grew w w' v v') := Lib.hid fun w' v' h => (h.behind _).behind _
  have hsz : ((w.alloc (.cells #[.int .i64 ck, .bool cn] 39)).alloc (.cells #[.bool xn, .int .i64 xi, .string xs] 43)).heap.size = w.heap.size + 2 := by simp
  have hb2 := (Below.refl _ (w.alloc (.cells #[.int .i64 ck, .bool cn] 39))).alloc (Nat.le_refl _) (.cells #[.bool xn, .int .i64 xi, .string xs] 43)
  have x0 := (hb2.cell (p := ⟨w.heap.size, 0, none⟩) (by simp)).trans (Kn.cell_new w #[.int .i64 ck, .bool cn] 39 0 _ rfl)
  have x1 := (hb2.cell (p := ⟨w.heap.size, 1, none⟩) (by simp)).trans (Kn.cell_new w #[.int .i64 ck, .bool cn] 39 1 _ rfl)
  have y0 := Kn.cell_new (w.alloc (.cells #[.int .i64 ck, .bool cn] 39)) #[.bool xn, .int .i64 xi, .string xs] 43 0 _ rfl
  have y1 := Kn.cell_new (w.alloc (.cells #[.int .i64 ck, .bool cn] 39)) #[.bool xn, .int .i64 xi, .string xs] 43 1 _ rfl
  have y2 := Kn.cell_new (w.alloc (.cells #[.int .i64 ck, .bool cn] 39)) #[.bool xn, .int .i64 xi, .string xs] 43 2 _ rfl
  rw [World.size_alloc] at y0 y1 y2
  simp only [List.getElem_toArray, List.getElem_cons_zero, List.getElem_cons_succ] at x0 x1 y0 y1 y2
  have HT := hT2
  have HOW := Lib.hid hown2
  have HI := Lib.hid hi
  have HF := Lib.hid hf
  have HGB := Lib.hid hG
  have HBB := Lib.hid hb
  have HL := Lib.hid hl
  clear hgr hown2 hT2 hb2 hi hf hG hT hown
  have HK := Lib.hid ((Dd.good_iff _).1 hg)
  simp only at HI HK
  clear hg
  unfold Kn.C.val Kn.V.val
  cases cn
  · obtain rfl : xn = false := Dd.fits_live HF.out rfl
    rcases HK.out with rfl | rfl
    · have HE := Lib.hid ((Dd.encV_there (c := ⟨1, false⟩) (v := ⟨false, xi, xs⟩) rfl rfl).trans (Dd.encP_int rfl))
      go_enter Tryd.func21, Tryd.ntmps21
      go_wp2_with fail
      generalize hwo : World.alloc _ _ = wo at HOW HT hBH hsz x0 x1 y0 y1 y2 ⊢
      clear hwo
      with_reducible refine (Ty.int_c base v _ xi HI.out wo HT.out HOW.out (by have := HBB.out; omega) (by have := HL.out; omega)).mono ?_
      rintro e w4 ⟨v4, rfl, hB4, hG4⟩
      have HB4 := Lib.hid hB4
      have HG4 := Lib.hid hG4
      clear hB4 hG4
      go_wp2
      go_ret
      refine ⟨v4, rfl, ?_, hBH.out _ _ HG4.out⟩
      rw [HE.out]
      have h := HB4.out
      simpa only [encI, List.append_assoc, List.singleton_append, List.cons_append, List.nil_append] using h
    · have HE := Lib.hid ((Dd.encV_there (c := ⟨2, false⟩) (v := ⟨false, xi, xs⟩) rfl rfl).trans (Dd.encP_txt rfl))
      have h64 := Dd.fits_size rfl HF.out rfl
      simp only at h64
      go_enter Tryd.func21, Tryd.ntmps21
      go_wp2_with fail
      generalize hwo : World.alloc _ _ = wo at HOW HT hBH hsz x0 x1 y0 y1 y2 ⊢
      clear hwo
      with_reducible refine (Ty.text_c base v _ xs wo HT.out HOW.out (by have := HBB.out; omega) (by have := HL.out; omega)).mono ?_
      rintro e w4 ⟨v4, rfl, hB4, hG4⟩
      have HB4 := Lib.hid hB4
      have HG4 := Lib.hid hG4
      clear hB4 hG4
      go_wp2
      go_ret
      refine ⟨v4, rfl, ?_, hBH.out _ _ HG4.out⟩
      rw [HE.out]
      have h := HB4.out
      simpa only [encT, Ty.length_data, List.append_assoc, List.singleton_append, List.cons_append, List.nil_append] using h
  · cases xn
    · rcases HK.out with rfl | rfl
      · have HE := Lib.hid ((Dd.encV_flag (c := ⟨1, true⟩) (v := ⟨false, xi, xs⟩) rfl rfl).trans (congrArg _ (Dd.encP_int rfl)))
        go_enter Tryd.func21, Tryd.ntmps21
        go_wp2_with fail
        generalize hwo : World.alloc _ _ = wo at HOW HT hBH hsz x0 x1 y0 y1 y2 ⊢
        clear hwo
        with_reducible refine (Dd.appendFlag_c base v bs false wo HOW.out (by have := HBB.out; omega) (by have := HL.out; omega)).mono ?_
        rintro e w3 ⟨v3, rfl, hB3, hG3⟩
        have hs3 := hG3.by_.size
        have hn0 : some w.heap.size ≠ v.ownBlock := fun e => by have := hown3.out _ e.symm; omega
        have hn1 : some (w.heap.size + 1) ≠ v.ownBlock := fun e => by have := hown3.out _ e.symm; omega
        replace x0 := hG3.by_.cell x0 hn0
        replace y0 := hG3.by_.cell y0 hn1
        replace y1 := hG3.by_.cell y1 hn1
        replace y2 := hG3.by_.cell y2 hn1
        have HB3 := Lib.hid hB3
        have HG3 := Lib.hid hG3
        have HT3 := Lib.hid (Dd.tabs_grew HT.out hG3 HOW.out HGB.out)
        clear x1 hn0 hn1 hB3 hG3
        go_wp2_with fail
        with_reducible refine (Ty.int_c base v3 _ xi HI.out w3 HT3.out HB3.out (by have := HBB.out; omega) (by rw [List.length_append]; have := HL.out; simp only [List.length_singleton]; omega)).mono ?_
        rintro e w4 ⟨v4, rfl, hB4, hG4⟩
        have HB4 := Lib.hid hB4
        have HG4 := Lib.hid hG4
        clear hB4 hG4
        go_wp2
        go_ret
        refine ⟨v4, rfl, ?_, hBH.out _ _ (HG3.out.trans HG4.out)⟩
        rw [HE.out]
        have h := HB4.out
        simpa only [encI, List.append_assoc, List.singleton_append, List.cons_append, List.nil_append] using h
      · have HE := Lib.hid ((Dd.encV_flag (c := ⟨2, true⟩) (v := ⟨false, xi, xs⟩) rfl rfl).trans (congrArg _ (Dd.encP_txt rfl)))
        have h64 := Dd.fits_size rfl HF.out rfl
        simp only at h64
        go_enter Tryd.func21, Tryd.ntmps21
        go_wp2_with fail
        generalize hwo : World.alloc _ _ = wo at HOW HT hBH hsz x0 x1 y0 y1 y2 ⊢
        clear hwo
        with_reducible refine (Dd.appendFlag_c base v bs false wo HOW.out (by have := HBB.out; omega) (by have := HL.out; omega)).mono ?_
        rintro e w3 ⟨v3, rfl, hB3, hG3⟩
        have hs3 := hG3.by_.size
        have hn0 : some w.heap.size ≠ v.ownBlock := fun e => by have := hown3.out _ e.symm; omega
        have hn1 : some (w.heap.size + 1) ≠ v.ownBlock := fun e => by have := hown3.out _ e.symm; omega
        replace x0 := hG3.by_.cell x0 hn0
        replace y0 := hG3.by_.cell y0 hn1
        replace y1 := hG3.by_.cell y1 hn1
        replace y2 := hG3.by_.cell y2 hn1
        have HB3 := Lib.hid hB3
        have HG3 := Lib.hid hG3
        have HT3 := Lib.hid (Dd.tabs_grew HT.out hG3 HOW.out HGB.out)
        clear x1 hn0 hn1 hB3 hG3
        go_wp2_with fail
        with_reducible refine (Ty.text_c base v3 _ xs w3 HT3.out HB3.out (by have := HBB.out; omega) (by rw [List.length_append]; have := HL.out; simp only [List.length_singleton]; omega)).mono ?_
        rintro e w4 ⟨v4, rfl, hB4, hG4⟩
        have HB4 := Lib.hid hB4
        have HG4 := Lib.hid hG4
        clear hB4 hG4
        go_wp2
        go_ret
        refine ⟨v4, rfl, ?_, hBH.out _ _ (HG3.out.trans HG4.out)⟩
        rw [HE.out]
        have h := HB4.out
        simpa only [encT, Ty.length_data, List.append_assoc, List.singleton_append, List.cons_append, List.nil_append] using h
    · have HE := Lib.hid (Dd.encV_null (c := ⟨ck, true⟩) (v := ⟨true, xi, xs⟩) rfl rfl)
      go_enter Tryd.func21, Tryd.ntmps21
      go_wp2_with fail
      generalize hwo : World.alloc _ _ = wo at HOW HT hBH hsz x0 x1 y0 y1 y2 ⊢
      clear hwo
      with_reducible refine (Dd.appendFlag_c base v bs true wo HOW.out (by have := HBB.out; omega) (by have := HL.out; omega)).mono ?_
      rintro e w3 ⟨v3, rfl, hB3, hG3⟩
      have hs3 := hG3.by_.size
      have hn0 : some w.heap.size ≠ v.ownBlock := fun e => by have := hown3.out _ e.symm; omega
      have hn1 : some (w.heap.size + 1) ≠ v.ownBlock := fun e => by have := hown3.out _ e.symm; omega
      replace x0 := hG3.by_.cell x0 hn0
      replace y0 := hG3.by_.cell y0 hn1
      replace y1 := hG3.by_.cell y1 hn1
      replace y2 := hG3.by_.cell y2 hn1
      have HB3 := Lib.hid hB3
      have HG3 := Lib.hid hG3
      have HT3 := Lib.hid (Dd.tabs_grew HT.out hG3 HOW.out HGB.out)
      clear x1 hn0 hn1 hB3 hG3
      go_wp2
      go_ret
      exact ⟨v3, rfl, by rw [HE.out]; exact HB3.out, hBH.out _ _ HG3.out⟩
end Go.Proofs.YtccjfmjgkkpndaaDoor

namespace Go.Proofs.YtccjfmjgkkpndaaDoor
open Go.RowKit
/-- What the code's contracts ask of the world: the tables of package tally. -/
def Dd.T (w : World) : Prop := Ty.Tabs w
theorem Dd.T.below {w w' : World} (h : Dd.T w) (g : Below w.heap.size w w') : Dd.T w' := Ty.Tabs.below h g (Ty.Tabs.two h)
set_option maxHeartbeats 2000000 in
set_option maxRecDepth 100000 in
theorem Dd.same_c (u v : Value) (a b : Dd.D) (w : World) (_ : Dd.T w) (hu : Kn.Vals w u a.row) (hv : Kn.Vals w v b.row) :
    Calls Tryd.prog 15 #[.agg #[.bool a.gone, u], .agg #[.bool b.gone, v]] w fun e w' => e = .returned (.bool (Dd.same a b)) ∧ Below w.heap.size w w' := by
  obtain ⟨ga, ra⟩ := a
  obtain ⟨gb, rb⟩ := b
  simp only at hu hv ⊢
  unfold Dd.same
  simp only
  have hG0 : Below w.heap.size w ((w.alloc (.cells #[.bool ga, u] 26)).alloc (.cells #[.bool gb, v] 26)) := ((Below.refl _ w).alloc (Nat.le_refl _) _).alloc (by simp) _
  have hb := (Below.refl _ (w.alloc (.cells #[.bool ga, u] 26))).alloc (Nat.le_refl _) (.cells #[.bool gb, v] 26)
  have x0 := (hb.cell (p := ⟨w.heap.size, 0, none⟩) (by simp)).trans (Kn.cell_new w #[.bool ga, u] 26 0 _ rfl)
  have x1 := (hb.cell (p := ⟨w.heap.size, 1, none⟩) (by simp)).trans (Kn.cell_new w #[.bool ga, u] 26 1 _ rfl)
  have y0 := Kn.cell_new (w.alloc (.cells #[.bool ga, u] 26)) #[.bool gb, v] 26 0 _ rfl
  have y1 := Kn.cell_new (w.alloc (.cells #[.bool ga, u] 26)) #[.bool gb, v] 26 1 _ rfl
  rw [World.size_alloc] at y0 y1
  simp only [List.getElem_toArray, List.getElem_cons_zero, List.getElem_cons_succ] at x0 x1 y0 y1
  have cs := Kn.same_c u v ra rb _ (hu.later hG0) (hv.later hG0)
  have HX := Lib.hid (And.intro (And.intro x0 x1) (And.intro y0 y1))
  have HG0 := Lib.hid hG0
  generalize Kn.sameR ra rb = S at cs ⊢
  clear hG0 hb x0 x1 y0 y1 hu hv
  cases ga <;> cases gb
  all_goals
    go_enter Tryd.func15, Tryd.ntmps15
    go_wp2_with fail
  · generalize World.alloc _ _ = wo at HX HG0 cs ⊢
    obtain ⟨⟨x0, x1⟩, y0, y1⟩ := HX.out
    go_wp2_with fail
    with_reducible refine cs.mono ?_
    rintro e w1 ⟨rfl, n, h1⟩
    subst w1
    go_wp2
    go_ret
    exact ⟨by simp, Kn.below_drewN HG0.out n⟩
  · generalize World.alloc _ _ = wo at HX HG0 cs ⊢
    obtain ⟨⟨x0, x1⟩, y0, y1⟩ := HX.out
    go_wp2
    go_ret
    exact ⟨by simp, HG0.out⟩
  · generalize World.alloc _ _ = wo at HX HG0 cs ⊢
    obtain ⟨⟨x0, x1⟩, y0, y1⟩ := HX.out
    go_wp2
    go_ret
    exact ⟨by simp, HG0.out⟩
  · generalize World.alloc _ _ = wo at HX HG0 cs ⊢
    obtain ⟨⟨x0, x1⟩, y0, y1⟩ := HX.out
    go_wp2_with fail
    with_reducible refine cs.mono ?_
    rintro e w1 ⟨rfl, n, h1⟩
    subst w1
    go_wp2
    go_ret
    exact ⟨by simp, Kn.below_drewN HG0.out n⟩
end Go.Proofs.YtccjfmjgkkpndaaDoor
