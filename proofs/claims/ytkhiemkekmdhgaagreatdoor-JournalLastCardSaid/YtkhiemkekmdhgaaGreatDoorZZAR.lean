import Derived.Test.YtkhiemkekmdhgaaGreatDoorZZAJ
import Derived.Test.YtkhiemkekmdhgaaGreatDoorZZAE
import Derived.Test.YtkhiemkekmdhgaaGreatDoorRows
import Derived.Test.YtkhiemkekmdhgaaGreatDoorLay
import Derived.WalkKit
import Derived.WalkSpells
import Derived.WalkLawsBesides
import Derived.Test.YtkhiemkekmdhgaaGreatDoorZZAQ
import Derived.StillTailTactics
import Derived.Test.YtkhiemkekmdhgaaGreatDoorZZAI
namespace Go.Proofs.YtkhiemkekmdhgaaGreatDoor
section
open Go.RowKit
open Ty (num txt)
open Ig (rest sg)
open Tx (restT)
structure Dd.St where
 l : List UInt8
 e : Nat
 wr : Bool
def Dd.St.q (s : Dd.St) : Nat := if s.wr = true then 4 else s.e
def Dd.stF (s : Dd.St) : Bool × Dd.St := ((Ty.rdB s.l s.e).1 == 1, ⟨(Ty.rdB s.l s.e).2.1, (Ty.rdB s.l s.e).2.2, s.wr || decide (1 < (Ty.rdB s.l s.e).1)⟩)
def Dd.stP (c : Kn.C) (s : Dd.St) : Kn.V × Dd.St :=
 if c.k = 2 then (Cl.ofS (Ty.rdT 64 s.l s.e).1, ⟨(Ty.rdT 64 s.l s.e).2.1, (Ty.rdT 64 s.l s.e).2.2, s.wr⟩)
 else (Cl.ofN (Ty.zag ((Ty.rdU s.l s.e).1 : Int)), ⟨(Ty.rdU s.l s.e).2.1, (Ty.rdU s.l s.e).2.2, s.wr⟩)
def Dd.stV (c : Kn.C) (s : Dd.St) : Kn.V × Dd.St :=
 if c.null = true then (if (Dd.stF s).1 = true then (Cl.nul, (Dd.stF s).2) else Dd.stP c (Dd.stF s).2) else Dd.stP c s
def Dd.stR : List Kn.C → Dd.St → List Kn.V × Dd.St
 | [], s => ([], s)
 | c :: cs, s => ((Dd.stV c s).1 :: (Dd.stR cs (Dd.stV c s).2).1, (Dd.stR cs (Dd.stV c s).2).2)
def Dd.St.done (s : Dd.St) : Nat := if s.wr = true then 4 else Ty.fin s.l s.e
theorem Dd.St.ne {s : Dd.St} (h : s.q ≠ 0) : s.wr = true ∨ (s.wr = false ∧ s.e ≠ 0) := by
 unfold Dd.St.q at h
 cases hw : s.wr
 ·rw [hw, if_neg (by decide)] at h; exact .inr ⟨rfl, h⟩
 ·exact .inl rfl
theorem Dd.St.q_done {s : Dd.St} (h : s.q ≠ 0) : s.done = s.q := by
 rcases Dd.St.ne h with hw | ⟨hw, he⟩
 ·unfold Dd.St.done Dd.St.q; rw [hw]; rfl
 ·simp [Dd.St.done, Dd.St.q, Ty.fin, hw, he]
theorem Dd.rdB_ne (l : List UInt8) {e : Nat} (h : e ≠ 0) : Ty.rdB l e = (0, l, e) := by unfold Ty.rdB; rw [if_pos h]
theorem Dd.rdU_ne (l : List UInt8) {e : Nat} (h : e ≠ 0) : Ty.rdU l e = (0, l, e) := by unfold Ty.rdU; rw [if_pos h]
theorem Dd.rdT_ne (l : List UInt8) {e : Nat} (h : e ≠ 0) : Ty.rdT 64 l e = ([], l, e) := by unfold Ty.rdT; rw [if_pos h]
theorem Dd.stF_ne {s : Dd.St} (h : s.q ≠ 0) : (Dd.stF s).2.q = s.q := by
 rcases Dd.St.ne h with hw | ⟨hw, he⟩
 ·unfold Dd.stF Dd.St.q
  simp only [hw, Bool.true_or, if_true]
 ·unfold Dd.stF Dd.St.q
  rw [Dd.rdB_ne _ he]
  simp [hw]
theorem Dd.stP_ne {c : Kn.C} {s : Dd.St} (h : s.q ≠ 0) : (Dd.stP c s).2.q = s.q := by
 rcases Dd.St.ne h with hw | ⟨hw, he⟩
 ·by_cases hk : c.k = 2 <;> simp [Dd.stP, Dd.St.q, hk, hw]
 ·by_cases hk : c.k = 2 <;> simp [Dd.stP, Dd.St.q, hk, hw, Dd.rdU_ne _ he, Dd.rdT_ne _ he]
theorem Dd.stV_ne {c : Kn.C} {s : Dd.St} (h : s.q ≠ 0) : (Dd.stV c s).2.q = s.q := by
 unfold Dd.stV
 split
 ·split
  ·exact Dd.stF_ne h
  ·rw [Dd.stP_ne (by rw [Dd.stF_ne h]; exact h), Dd.stF_ne h]
 ·exact Dd.stP_ne h
theorem Dd.stR_ne : ∀ (cs : List Kn.C) {s : Dd.St}, s.q ≠ 0 → (Dd.stR cs s).2.q = s.q
 | [], _, _ => rfl
 | c :: cs, s, h => by
   show (Dd.stR cs (Dd.stV c s).2).2.q = s.q
   rw [Dd.stR_ne cs (by rw [Dd.stV_ne h]; exact h), Dd.stV_ne h]
theorem Dd.stF_0 (l : List UInt8) : (Dd.stF ⟨l, 0, false⟩).2.q = (Dd.rdF l).1 ∧ (Dd.stF ⟨l, 0, false⟩).1 = (Dd.rdF l).2.1 ∧ ((Dd.rdF l).1 = 0 → (Dd.stF ⟨l, 0, false⟩).2 = ⟨(Dd.rdF l).2.2, 0, false⟩) := by
 cases l with
 | nil => exact ⟨rfl, rfl, fun h => by cases h⟩
 | cons b r =>
   have e : Ty.rdB (b :: r) 0 = (b.toNat, r, 0) := by unfold Ty.rdB; rw [if_neg (by simp)]
   unfold Dd.stF Dd.rdF Dd.St.q
   simp only [e, Bool.false_or]
   by_cases h1 : 1 < b.toNat
   ·rw [if_pos h1]
    simp only [h1, decide_true, if_true]
    refine ⟨trivial, ?_, fun h => by cases h⟩
    rw [beq_eq_false_iff_ne]; omega
   ·rw [if_neg h1]
    simp only [h1, decide_false, Bool.false_eq_true, if_false]
    refine ⟨trivial, ?_, fun _ => trivial⟩
    by_cases h : b = 1
    ·rw [h]; rfl
    ·have h2 : b.toNat ≠ 1 := fun h2 => h (UInt8.toNat_inj.1 h2)
     rw [beq_eq_false_iff_ne.2 h2, beq_eq_false_iff_ne.2 h]
theorem Dd.stP_0 {c : Kn.C} (hc : c.good = true) (l : List UInt8) : (Dd.stP c ⟨l, 0, false⟩).2.q = (Dd.rdP c l).1 ∧ ((Dd.rdP c l).1 = 0 → Dd.stP c ⟨l, 0, false⟩ = ((Dd.rdP c l).2.1, ⟨(Dd.rdP c l).2.2, 0, false⟩)) := by
 have eU : Ty.rdU l 0 = ((num l).1, l.drop (num l).2.1, (num l).2.2) := by unfold Ty.rdU; rw [if_neg (by simp)]
 have eT : Ty.rdT 64 l 0 = ((txt l 64).1, l.drop (txt l 64).2.1, (txt l 64).2.2) := by unfold Ty.rdT; rw [if_neg (by simp)]
 rcases (Dd.good_iff c).1 hc with hk | hk
 ·have hk2 : c.k ≠ 2 := by omega
  unfold Dd.stP Dd.rdP
  rw [if_neg hk2, if_pos hk]
  simp only [eU]
  refine ⟨rfl, fun h => ?_⟩
  rw [h]; rfl
 ·have hk2 : c.k ≠ 1 := by omega
  unfold Dd.stP Dd.rdP
  rw [if_pos hk, if_neg hk2]
  simp only [eT]
  refine ⟨rfl, fun h => ?_⟩
  rw [h]; rfl
theorem Dd.stV_0 {c : Kn.C} (hc : c.good = true) (l : List UInt8) : (Dd.stV c ⟨l, 0, false⟩).2.q = (Dd.rdV c l).1 ∧ ((Dd.rdV c l).1 = 0 → Dd.stV c ⟨l, 0, false⟩ = ((Dd.rdV c l).2.1, ⟨(Dd.rdV c l).2.2, 0, false⟩)) := by
 unfold Dd.stV Dd.rdV
 by_cases hn : c.null = true
 ·simp only [if_pos hn]
  obtain ⟨h1, h2, h3⟩ := Dd.stF_0 l
  by_cases he : (Dd.rdF l).1 ≠ 0
  ·rw [if_pos he]
   refine ⟨?_, fun h => absurd h he⟩
   split
   ·exact h1
   ·rw [Dd.stP_ne (by rw [h1]; exact he), h1]
  ·rw [if_neg he]
   have h0 : (Dd.rdF l).1 = 0 := by simpa using he
   rw [h2, h3 h0]
   cases hb : (Dd.rdF l).2.1
   ·simp only [Bool.false_eq_true, if_false]
    exact Dd.stP_0 hc _
   ·simp only [if_true]
    exact ⟨rfl, fun _ => trivial⟩
 ·simp only [if_neg hn]
  exact Dd.stP_0 hc l
theorem Dd.stR_0 : ∀ (cs : List Kn.C) (l : List UInt8), cs.all Kn.C.good = true → (Dd.stR cs ⟨l, 0, false⟩).2.q = (Dd.rdR cs l).1 ∧ ((Dd.rdR cs l).1 = 0 → Dd.stR cs ⟨l, 0, false⟩ = ((Dd.rdR cs l).2.1, ⟨(Dd.rdR cs l).2.2, 0, false⟩))
 | [], l, _ => ⟨rfl, fun _ => rfl⟩
 | c :: cs, l, h => by
   simp only [List.all_cons, Bool.and_eq_true] at h
   obtain ⟨h1, h2⟩ := Dd.stV_0 h.1 l
   simp only [Dd.stR, Dd.rdR]
   by_cases he : (Dd.rdV c l).1 ≠ 0
   ·rw [if_pos he]
    refine ⟨?_, fun h => absurd h he⟩
    rw [Dd.stR_ne cs (by rw [h1]; exact he), h1]
   ·rw [if_neg he]
    have e := h2 (by simpa using he)
    obtain ⟨i1, i2⟩ := Dd.stR_0 cs (Dd.rdV c l).2.2 h.2
    rw [e]
    refine ⟨i1, fun h => ?_⟩
    rw [i2 h]
theorem Dd.rd_st {s : List Kn.C} (hs : Kn.right s = true) (l : List UInt8) {b : Bool} {s1 s2 : Dd.St} {M : List Kn.V} (h1 : Dd.stF ⟨l, 0, false⟩ = (b, s1)) (h2 : Dd.stR (Dd.cols s b) s1 = (M, s2)) :
 Dd.rd s l = if s2.done ≠ 0 then (s2.done, ⟨false, []⟩) else (0, ⟨b, M⟩) := by
 have hr : ¬ Kn.right s = false := by rw [hs]; decide
 have hall : ∀ g, (Dd.cols s g).all Kn.C.good = true := fun g => by
  have ha := Kn.right_all hs
  unfold Dd.cols
  cases g
  ·exact ha
  ·rw [if_pos rfl, List.all_eq_true]
   exact fun x hx => (List.all_eq_true.1 ha) x (List.mem_of_mem_take hx)
 obtain ⟨f1, f2, f3⟩ := Dd.stF_0 l
 rw [h1] at f1 f2 f3
 simp only at f1 f2 f3
 unfold Dd.rd
 rw [if_neg hr, ← f2]
 by_cases he : (Dd.rdF l).1 ≠ 0
 ·have e2 := Dd.stR_ne (Dd.cols s b) (s := s1) (by rw [f1]; exact he)
  rw [h2] at e2
  simp only at e2
  have hd : s2.done = (Dd.rdF l).1 := by rw [Dd.St.q_done (by rw [e2, f1]; exact he), e2, f1]
  rw [if_pos he, hd, if_pos he]
 ·rw [if_neg he]
  have e1 := f3 (by simpa using he)
  obtain ⟨g1, g2⟩ := Dd.stR_0 (Dd.cols s b) (Dd.rdF l).2.2 (hall b)
  rw [e1] at h2
  rw [h2] at g1 g2
  simp only at g1 g2
  by_cases h3 : (Dd.rdR (Dd.cols s b) (Dd.rdF l).2.2).1 ≠ 0
  ·have hd : s2.done = (Dd.rdR (Dd.cols s b) (Dd.rdF l).2.2).1 := by rw [Dd.St.q_done (by rw [g1]; exact h3), g1]
   rw [if_pos h3, hd, if_pos h3]
  ·rw [if_neg h3]
   have e3 := g2 (by simpa using h3)
   have eM : M = (Dd.rdR (Dd.cols s b) (Dd.rdF l).2.2).2.1 := congrArg Prod.fst e3
   have eS : s2 = ⟨(Dd.rdR (Dd.cols s b) (Dd.rdF l).2.2).2.2, 0, false⟩ := congrArg Prod.snd e3
   by_cases h4 : (Dd.rdR (Dd.cols s b) (Dd.rdF l).2.2).2.2 ≠ []
   ·have hd : s2.done = 5 := by rw [eS]; simp [Dd.St.done, Ty.fin, h4]
    rw [if_pos h4, hd, if_pos (by decide)]
   ·have hd : s2.done = 0 := by rw [eS]; simp [Dd.St.done, Ty.fin, (by simpa using h4 : (Dd.rdR (Dd.cols s b) (Dd.rdF l).2.2).2.2 = [])]
    rw [if_neg h4, hd, if_neg (by decide), eM]
theorem Dd.stR_snoc : ∀ (cs : List Kn.C) (c : Kn.C) (s : Dd.St), Dd.stR (cs ++ [c]) s = ((Dd.stR cs s).1 ++ [(Dd.stV c (Dd.stR cs s).2).1], (Dd.stV c (Dd.stR cs s).2).2)
 | [], _, _ => rfl
 | a :: cs, c, s => by
   have ih := Dd.stR_snoc cs c (Dd.stV a s).2
   simp only [List.cons_append, Dd.stR, ih]
theorem Dd.stR_step {cs : List Kn.C} {k : Nat} {c : Kn.C} (hc : cs[k]? = some c) {s s1 : Dd.St} {M : List Kn.V} (h : Dd.stR (cs.take k) s = (M, s1)) : Dd.stR (cs.take (k + 1)) s = (M ++ [(Dd.stV c s1).1], (Dd.stV c s1).2) := by
 obtain ⟨h1, rfl⟩ := List.getElem?_eq_some_iff.1 hc
 rw [List.take_succ_eq_append_getElem h1, Dd.stR_snoc, h]
theorem Dd.rdB_le (l : List UInt8) (e : Nat) : (Ty.rdB l e).2.1.length ≤ l.length ∧ (Ty.rdB l e).1 ≤ 255 := by
 unfold Ty.rdB
 split
 ·exact ⟨Nat.le_refl _, Nat.zero_le _⟩
 ·cases l with
  | nil => exact ⟨Nat.le_refl _, Nat.zero_le _⟩
  | cons b r => exact ⟨by simp, by have := b.toNat_lt; show b.toNat ≤ 255; omega⟩
theorem Dd.stF_le (s : Dd.St) : (Dd.stF s).2.l.length ≤ s.l.length := (Dd.rdB_le s.l s.e).1
theorem Dd.stP_le (c : Kn.C) (s : Dd.St) : (Dd.stP c s).2.l.length ≤ s.l.length := by
 unfold Dd.stP Ty.rdT Ty.rdU
 split <;> split <;> simp only [List.length_drop] <;> omega
theorem Dd.stV_le (c : Kn.C) (s : Dd.St) : (Dd.stV c s).2.l.length ≤ s.l.length := by
 have h1 := Dd.stF_le s
 unfold Dd.stV
 split
 ·split
  ·exact h1
  ·exact Nat.le_trans (Dd.stP_le _ _) h1
 ·exact Dd.stP_le _ _
end
section
open Go.RowKit Go.Shelf
set_option maxRecDepth 100000 in
theorem Tx.clone_c (s : ByteArray) (w : World) (hs : s.size ≤ 140737488355328) : Calls Tryz.prog 40 #[.string s] w fun e w' => e = .returned (.string s) ∧ Below w.heap.size w w' := by
 have cc := Any.stringslite_Clone Tryz.cloneL s w (by omega)
 go_enter Tryz.func40, Tryz.ntmps40
 go_wp2_with fail
 refine Calls.mono cc ?_
 rintro e w1 ⟨rfl, hb⟩
 go_wp2
 go_ret
 exact ⟨rfl, hb⟩
end
section
open Go.RowKit
structure Dd.By2 (r b : Nat) (w w' : World) : Prop where
 os : w'.os = w.os
 tape : w'.tape = w.tape
 output : w'.output = w.output
 size : w.heap.size ≤ w'.heap.size
 block : ∀ k, k < w.heap.size → k ≠ r → k ≠ b → w'.heap[k]? = w.heap[k]?
theorem Dd.By2.refl (r b : Nat) (w : World) : Dd.By2 r b w w := ⟨rfl, rfl, rfl, Nat.le_refl _, fun _ _ _ _ => rfl⟩
theorem Dd.By2.trans {r b : Nat} {u v w : World} (h : Dd.By2 r b u v) (k : Dd.By2 r b v w) : Dd.By2 r b u w :=
 ⟨k.os.trans h.os, k.tape.trans h.tape, k.output.trans h.output, Nat.le_trans h.size k.size, fun i hi h1 h2 => (k.block i (Nat.lt_of_lt_of_le hi h.size) h1 h2).trans (h.block i hi h1 h2)⟩
theorem Dd.By2.ofB {r b : Nat} {w w' : World} (h : w.grownBy w' (some b)) : Dd.By2 r b w w' :=
 ⟨h.os, h.tape, h.output, h.size, fun k hk _ h2 => h.block k hk (fun e => h2 (Option.some.inj e))⟩
theorem Dd.By2.ofBelow {r b : Nat} {w w' : World} (h : Below w.heap.size w w') : Dd.By2 r b w w' :=
 ⟨h.os, h.tape, h.output, h.size, fun k hk _ _ => h.block k hk⟩
theorem Dd.By2.set {r b : Nat} (w : World) (i : Nat) (u : Value) : Dd.By2 r b w (w.setCell ⟨r, i, none⟩ u) :=
 ⟨rfl, rfl, rfl, by simp [World.setCell], fun k _ h1 _ => Below.heap_setCell _ _ _ _ (by show k ≠ r; exact h1)⟩
theorem Dd.By2.cell {r b : Nat} {w w' : World} (h : Dd.By2 r b w w') {a : Addr} {v : Value} (hv : w.cell? a = some v) (h1 : a.block ≠ r) (h2 : a.block ≠ b) : w'.cell? a = some v :=
 (World.cell?_of_block (h.block a.block (World.block_lt_of_cell? w a hv) h1 h2)).trans hv
theorem Dd.By2.below {r b B : Nat} {w w' : World} (h : Dd.By2 r b w w') (hr : B ≤ r) (hb : B ≤ b) (hB : B ≤ w.heap.size) : Below B w w' :=
 ⟨h.os, h.tape, h.output, h.size, fun k hk => h.block k (by omega) (by omega) (by omega)⟩
structure Dd.Rdr (r b : Nat) (w : World) (s : Dd.St) : Prop where
 cur : Ty.Cur b w s.l s.e
 box : w.heap[r]? = some (.cells #[.pointer (some ⟨b, 0, none⟩), .bool s.wr] 84 (0, 0))
 ne : b ≠ r
 tabs : Ty.Tabs w
 gb : Ty.G ≤ b
 gr : Ty.G ≤ r
 short : s.l.length ≤ 9223372036854775807
theorem Dd.Rdr.lt {r b : Nat} {w : World} {s : Dd.St} (h : Dd.Rdr r b w s) : r < w.heap.size ∧ b < w.heap.size := ⟨lt_of_block h.box, h.cur.lt⟩
theorem Dd.Rdr.kept {r b : Nat} {w w' : World} {s : Dd.St} (h : Dd.Rdr r b w s) (g : Below w.heap.size w w') : Dd.Rdr r b w' s :=
 ⟨(g.block b h.lt.2).trans h.cur, (g.block r h.lt.1).trans h.box, h.ne, Ty.Tabs.below h.tabs g (Ty.Tabs.two h.tabs), h.gb, h.gr, h.short⟩
theorem Dd.Rdr.other {r b g i : Nat} {w : World} {s : Dd.St} (h : Dd.Rdr r b w s) (h1 : g ≠ r) (h2 : g ≠ b) (h3 : Ty.G ≤ g) (u : Value) : Dd.Rdr r b (w.setCell ⟨g, i, none⟩ u) s :=
 ⟨(Below.heap_setCell _ _ _ _ (by show b ≠ g; omega)).trans h.cur, (Below.heap_setCell _ _ _ _ (by show r ≠ g; omega)).trans h.box, h.ne, Ty.Tabs.by h.tabs (Ty.by_set w g i u) (fun k hk => by have := Option.some.inj hk; omega), h.gb, h.gr, h.short⟩
theorem Dd.Rdr.moved {r b : Nat} {w w' : World} {s : Dd.St} {l : List UInt8} {e : Nat} (h : Dd.Rdr r b w s) (hc : Ty.Cur b w' l e) (hg : w.grownBy w' (some b)) (hl : l.length ≤ s.l.length) : Dd.Rdr r b w' ⟨l, e, s.wr⟩ :=
 ⟨hc, (hg.block r h.lt.1 (fun e => h.ne (Option.some.inj e).symm)).trans h.box, h.ne, Ty.Tabs.by h.tabs hg (fun k hk => by have := Option.some.inj hk; have := h.gb; omega), h.gb, h.gr, Nat.le_trans hl h.short⟩
theorem Dd.Rdr.marked {r b : Nat} {w : World} {l : List UInt8} {e : Nat} {x : Bool} (h : Dd.Rdr r b w ⟨l, e, x⟩) (y : Bool) : Dd.Rdr r b (w.setCell ⟨r, 1, none⟩ (.bool y)) ⟨l, e, y⟩ :=
 ⟨(Below.heap_setCell _ _ _ _ (by show b ≠ r; exact h.ne)).trans h.cur, Ty.two_set1 h.box, h.ne, Ty.Tabs.by h.tabs (Ty.by_set w r 1 _) (fun k hk => by have := Option.some.inj hk; have := h.gr; omega), h.gb, h.gr, h.short⟩
def Dd.Went (r b : Nat) (w : World) (v : Value) (s : Dd.St) (e : Ending) (w' : World) : Prop := e = .returned v ∧ Dd.Rdr r b w' s ∧ Dd.By2 r b w w'
set_option maxHeartbeats 1000000 in
set_option maxRecDepth 100000 in
theorem Dd.flag_c (r b : Nat) (s : Dd.St) (w : World) (h : Dd.Rdr r b w s) :
 Calls Tryz.prog 76 #[.pointer (some ⟨r, 0, none⟩)] w (Dd.Went r b w (.bool (Dd.stF s).1) (Dd.stF s).2) := by
 have HR := Lib.hid h
 obtain ⟨b0, b1, z0, z1⟩ := Dd.two h.box
 have cb := Ty.cbyte_c b s.l s.e w h.cur h.short
 have hle := (Dd.rdB_le s.l s.e).1
 unfold Dd.stF
 generalize Ty.rdB s.l s.e = R at cb hle ⊢
 obtain ⟨B, l2, e2⟩ := R
 simp only at cb hle ⊢
 obtain ⟨l, e, wr⟩ := s
 simp only at b0 b1 hle HR ⊢
 have hB : (1 < B ∧ (1 : Int) < (B : Int) ∧ ((B : Int) == 1) = false ∧ (B == 1) = false ∧ decide (1 < B) = true) ∨ (¬ 1 < B ∧ ¬ (1 : Int) < (B : Int) ∧ ((B : Int) == 1) = (B == 1) ∧ decide (1 < B) = false) := by
  by_cases h1 : 1 < B
  ·exact .inl ⟨h1, by omega, by rw [beq_eq_false_iff_ne]; omega, by rw [beq_eq_false_iff_ne]; omega, by simp [h1]⟩
  ·refine .inr ⟨h1, by omega, ?_, by simp [h1]⟩
   by_cases h2 : B = 1
   ·rw [h2]; rfl
   ·rw [beq_eq_false_iff_ne.2 h2, beq_eq_false_iff_ne.2 (by omega)]
 clear h
 rcases hB with ⟨_, i1, i2, i3, i4⟩ | ⟨_, i1, i2, i4⟩
 ·rw [i3, i4]
  cases wr
  all_goals
   go_enter Tryz.func76, Tryz.ntmps76
   go_wp2_with fail
   with_reducible refine cb.mono ?_
   rintro e9 w1 ⟨rfl, hc, hg⟩
   have HR1 := Lib.hid (HR.out.moved hc hg hle)
   have HG := Lib.hid hg
   obtain ⟨c0, c1, f0, f1⟩ := Dd.two HR1.out.box
   clear b0 b1 z0 z1 hc hg
   go_wp2
   go_ret
   exact ⟨rfl, HR1.out.marked true, (Dd.By2.ofB HG.out).trans (Dd.By2.set _ _ _)⟩
 ·rw [i4]
  have HD : Hid (decide ((1 : Int) < (B : Int)) = false) := Lib.hid (decide_eq_false i1)
  cases wr
  ·go_enter Tryz.func76, Tryz.ntmps76
   go_wp2_with fail
   with_reducible refine cb.mono ?_
   rintro e9 w1 ⟨rfl, hc, hg⟩
   have HR1 := Lib.hid (HR.out.moved hc hg hle)
   have HG := Lib.hid hg
   obtain ⟨c0, c1, f0, f1⟩ := Dd.two HR1.out.box
   clear b0 b1 z0 z1 hc hg
   go_wp2
   go_ret
   rw [HD.out]
   exact ⟨rfl, HR1.out.marked false, (Dd.By2.ofB HG.out).trans (Dd.By2.set _ _ _)⟩
  ·go_enter Tryz.func76, Tryz.ntmps76
   go_wp2_with fail
   with_reducible refine cb.mono ?_
   rintro e9 w1 ⟨rfl, hc, hg⟩
   have HR1 := Lib.hid (HR.out.moved hc hg hle)
   have HG := Lib.hid hg
   obtain ⟨c0, c1, f0, f1⟩ := Dd.two HR1.out.box
   clear b0 b1 z0 z1 hc hg
   go_wp2
   go_ret
   exact ⟨rfl, HR1.out.marked true, (Dd.By2.ofB HG.out).trans (Dd.By2.set _ _ _)⟩
set_option maxRecDepth 100000 in
set_option maxHeartbeats 400000 in
theorem Dd.done_c (r b : Nat) (s : Dd.St) (w : World) (h : Dd.Rdr r b w s) :
 Calls Tryz.prog 43 #[.pointer (some ⟨r, 0, none⟩)] w fun e w' => e = .returned (.int .i64 ((s.done : Nat) : Int)) ∧ w' = w := by
 obtain ⟨b0, b1, z0, z1⟩ := Dd.two h.box
 have cd := Ty.done_c b s.l s.e w h.cur
 obtain ⟨l, e, wr⟩ := s
 unfold Dd.St.done
 simp only at b0 b1 cd ⊢
 clear h
 cases wr
 ·rw [if_neg (by decide)]
  generalize Ty.fin l e = F at cd ⊢
  go_enter Tryz.func43, Tryz.ntmps43
  go_wp2_with fail
  with_reducible refine cd.mono ?_
  rintro e9 w1 ⟨rfl, rfl⟩
  go_wp2
  go_ret
  exact ⟨rfl, rfl⟩
 ·rw [if_pos rfl]
  go_enter Tryz.func43, Tryz.ntmps43
  go_wp2
  go_ret
  exact ⟨rfl, rfl⟩
end
section
open Go.RowKit
theorem Dd.results_cell {fn : Func} {p : Tmp} {ty : TypeId} (h : fn.results = #[.cell p ty]) (tmps : Array Value) (P : Program) (w : World) :
 (results fn tmps).run P w = ((asAddr (tmps.getD p undef)).run P w).andThen fun a w1 => (loadVar ty a).run P w1 := by
 simp only [results, h]
 simp [Sem.run_bind, Result.andThen]
theorem Dd.stV_plain {c : Kn.C} {s : Dd.St} (h : c.null = false) : Dd.stV c s = Dd.stP c s := by unfold Dd.stV; rw [h, if_neg (by decide)]
theorem Dd.stV_nul {c : Kn.C} {s : Dd.St} (h : c.null = true) (hb : (Dd.stF s).1 = true) : Dd.stV c s = (Cl.nul, (Dd.stF s).2) := by unfold Dd.stV; rw [if_pos h, if_pos hb]
theorem Dd.stV_there {c : Kn.C} {s : Dd.St} (h : c.null = true) (hb : (Dd.stF s).1 = false) : Dd.stV c s = Dd.stP c (Dd.stF s).2 := by unfold Dd.stV; rw [if_pos h, hb, if_neg (by decide)]
theorem Dd.stP_str {c : Kn.C} {s : Dd.St} (h : c.k = 2) : Dd.stP c s = (Cl.ofS (Ty.rdT 64 s.l s.e).1, ⟨(Ty.rdT 64 s.l s.e).2.1, (Ty.rdT 64 s.l s.e).2.2, s.wr⟩) := by unfold Dd.stP; rw [if_pos h]
theorem Dd.stP_num {c : Kn.C} {s : Dd.St} (h : c.k ≠ 2) : Dd.stP c s = (Cl.ofN (Ty.zag ((Ty.rdU s.l s.e).1 : Int)), ⟨(Ty.rdU s.l s.e).2.1, (Ty.rdU s.l s.e).2.2, s.wr⟩) := by unfold Dd.stP; rw [if_neg h]
theorem Dd.rdT_le (l : List UInt8) (e : Nat) : (Ty.rdT 64 l e).2.1.length ≤ l.length ∧ (Ty.rdT 64 l e).1.length ≤ l.length := by
 have h := Ty.txt_len l 64
 unfold Ty.rdT
 split
 ·exact ⟨Nat.le_refl _, Nat.zero_le _⟩
 ·exact ⟨by simp only [List.length_drop]; omega, h⟩
theorem Dd.rdU_le (l : List UInt8) (e : Nat) : (Ty.rdU l e).2.1.length ≤ l.length := by
 unfold Ty.rdU
 split
 ·exact Nat.le_refl _
 ·simp only [List.length_drop]; omega
theorem Dd.by2_put3 {r b q : Nat} {w w1 : World} (hq : w.heap.size ≤ q) (g : Dd.By2 r b w w1) (x y z : Value) : Dd.By2 r b w (((w1.setCell ⟨q, 0, none⟩ x).setCell ⟨q, 1, none⟩ y).setCell ⟨q, 2, none⟩ z) :=
 ⟨g.os, g.tape, g.output, by have := g.size; simpa [World.setCell] using this, fun k hk h1 h2 =>
  (((Below.heap_setCell _ _ _ _ (by show k ≠ q; omega)).trans (Below.heap_setCell _ _ _ _ (by show k ≠ q; omega))).trans (Below.heap_setCell _ _ _ _ (by show k ≠ q; omega))).trans (g.block k hk h1 h2)⟩
theorem Dd.rdr_put3 {r b q : Nat} {w : World} {s : Dd.St} (h : Dd.Rdr r b w s) (hr : r < q) (hb : b < q) (x y z : Value) : Dd.Rdr r b (((w.setCell ⟨q, 0, none⟩ x).setCell ⟨q, 1, none⟩ y).setCell ⟨q, 2, none⟩ z) s :=
 have hG : Ty.G ≤ q := by have := h.gr; omega
 ((h.other (by omega) (by omega) hG x).other (by omega) (by omega) hG y).other (by omega) (by omega) hG z
set_option maxHeartbeats 2000000 in
set_option maxRecDepth 100000 in
theorem Dd.value_c (r b : Nat) (s : Dd.St) (c : Kn.C) (w : World) (h : Dd.Rdr r b w s) (hm : s.l.length ≤ 140737488351232) :
 Calls Tryz.prog 77 #[.pointer (some ⟨r, 0, none⟩), c.val] w (Dd.Went r b w (Dd.stV c s).1.val (Dd.stV c s).2) := by
 obtain ⟨ck, cn⟩ := c
 have hgr : Below w.heap.size w ((w.alloc (.cells #[.int .i64 ck, .bool cn] 50)).alloc (.cells #[.bool false, .int .i64 0, .string ⟨#[]⟩] 43)) := ((Below.refl _ w).alloc (Nat.le_refl _) _).alloc (by simp) _
 have HR := Lib.hid (h.kept hgr)
 have HG := Lib.hid (Dd.By2.ofBelow (r := r) (b := b) hgr)
 have hlt := h.lt
 have hb2 := (Below.refl _ (w.alloc (.cells #[.int .i64 ck, .bool cn] 50))).alloc (Nat.le_refl _) (.cells #[.bool false, .int .i64 0, .string ⟨#[]⟩] 43)
 have x0 := (hb2.cell (p := ⟨w.heap.size, 0, none⟩) (by simp)).trans (Kn.cell_new w #[.int .i64 ck, .bool cn] 50 0 _ rfl)
 have x1 := (hb2.cell (p := ⟨w.heap.size, 1, none⟩) (by simp)).trans (Kn.cell_new w #[.int .i64 ck, .bool cn] 50 1 _ rfl)
 simp only [List.getElem_toArray, List.getElem_cons_zero, List.getElem_cons_succ] at x0 x1
 have y := heap_alloc_new (w.alloc (.cells #[.int .i64 ck, .bool cn] 50)) (.cells #[.bool false, .int .i64 0, .string ⟨#[]⟩] 43)
 rw [World.size_alloc] at y
 have HY := Lib.hid y
 have hys := lt_of_block y
 obtain ⟨b0, b1, z0, z1⟩ := Dd.two HR.out.box
 have HM := Lib.hid hm
 have hk : (((ck == 2) = true) ∧ ck = 2) ∨ ((ck == 2) = false ∧ ck ≠ 2) := by
  by_cases h : ck = 2
  ·left; exact ⟨by rw [h]; rfl, h⟩
  ·right; exact ⟨by rw [beq_eq_false_iff_ne]; exact h, h⟩
 clear h hgr hb2 y z0 z1 hm
 unfold Kn.C.val Kn.V.val
 cases cn
 ·have HM2 := HM
  rcases hk with ⟨hk, rfl⟩ | ⟨hk, hk1⟩
  ·have HE := Lib.hid ((Dd.stV_plain (c := ⟨2, false⟩) (s := s) rfl).trans (Dd.stP_str rfl))
   go_enter Tryz.func77, Tryz.ntmps77
   go_wp2_with fail
   generalize hwo : World.alloc _ _ = wo at HR HG HY hys x0 x1 b0 b1 ⊢
   clear hwo
   have hne : w.heap.size ≠ r ∧ w.heap.size ≠ b ∧ w.heap.size + 1 ≠ r ∧ w.heap.size + 1 ≠ b := by omega
   have ct := Ty.ctext_c b s.l s.e 64 (by omega) wo HR.out.tabs HR.out.cur HR.out.short
   have hle := Dd.rdT_le s.l s.e
   with_reducible refine ct.mono ?_
   rintro e2 w2 ⟨rfl, hc2, hg2⟩
   have HR2 := Lib.hid (HR.out.moved hc2 hg2 hle.1)
   have HY2 := Lib.hid ((hg2.block _ (lt_of_block HY.out) (fun e => by have := Option.some.inj e; omega)).trans HY.out)
   have HG2 := Lib.hid (HG.out.trans (Dd.By2.ofB hg2))
   have hsz : (Ty.S (Ty.rdT 64 s.l s.e).1).size ≤ 140737488355328 := by rw [Ty.size_S]; have := HM2.out; omega
   clear ct hc2 hg2 hle
   go_wp2_with fail
   with_reducible refine (Tx.clone_c _ w2 hsz).mono ?_
   rintro e3 w3 ⟨rfl, hg3⟩
   have HR9 := Lib.hid (HR2.out.kept hg3)
   have hy3 := (hg3.block _ (lt_of_block HY2.out)).trans HY2.out
   have HG9 := Lib.hid (HG2.out.trans (Dd.By2.ofBelow hg3))
   obtain ⟨q0, q1, q2, f0, f1, f2⟩ := Dd.three hy3
   clear hg3 hy3 hsz
   go_wp2
   have HP := Lib.hid (Dd.by2_put3 (q := w.heap.size + 1) (by omega) HG9.out (.bool false) (.int .i64 0) (.string (Ty.S (Ty.rdT 64 s.l s.e).1)))
   have HQ := Lib.hid (Dd.rdr_put3 (q := w.heap.size + 1) HR9.out (by omega) (by omega) (.bool false) (.int .i64 0) (.string (Ty.S (Ty.rdT 64 s.l s.e).1)))
   (try simp only [Exit.inBlock, Exit.then])
   refine bodyPost_ret (v := .agg #[.bool false, .int .i64 0, .string (Ty.S (Ty.rdT 64 s.l s.e).1)]) ?_ rfl ⟨by rw [HE.out]; rfl, by rw [HE.out]; exact HQ.out, HP.out⟩
   rw [Dd.results_cell rfl]
   go_simp
  ·have HE := Lib.hid ((Dd.stV_plain (c := ⟨ck, false⟩) (s := s) rfl).trans (Dd.stP_num hk1))
   clear hk1
   go_enter Tryz.func77, Tryz.ntmps77
   go_wp2_with fail
   generalize hwo : World.alloc _ _ = wo at HR HG HY hys x0 x1 b0 b1 ⊢
   clear hwo
   have hne : w.heap.size ≠ r ∧ w.heap.size ≠ b ∧ w.heap.size + 1 ≠ r ∧ w.heap.size + 1 ≠ b := by omega
   have ct := Ty.cint_c b s.l s.e wo HR.out.tabs HR.out.cur HR.out.short
   have hle := Dd.rdU_le s.l s.e
   with_reducible refine ct.mono ?_
   rintro e2 w2 ⟨rfl, hc2, hg2⟩
   have HR9 := Lib.hid (HR.out.moved hc2 hg2 hle)
   have hy3 := (hg2.block _ (lt_of_block HY.out) (fun e => by have := Option.some.inj e; omega)).trans HY.out
   have HG9 := Lib.hid (HG.out.trans (Dd.By2.ofB hg2))
   obtain ⟨q0, q1, q2, f0, f1, f2⟩ := Dd.three hy3
   clear ct hc2 hg2 hle hy3
   go_wp2
   have HP := Lib.hid (Dd.by2_put3 (q := w.heap.size + 1) (by omega) HG9.out (.bool false) (.int .i64 (Ty.zag ((Ty.rdU s.l s.e).1 : Int))) (.string ⟨#[]⟩))
   have HQ := Lib.hid (Dd.rdr_put3 (q := w.heap.size + 1) HR9.out (by omega) (by omega) (.bool false) (.int .i64 (Ty.zag ((Ty.rdU s.l s.e).1 : Int))) (.string ⟨#[]⟩))
   (try simp only [Exit.inBlock, Exit.then])
   refine bodyPost_ret (v := .agg #[.bool false, .int .i64 (Ty.zag ((Ty.rdU s.l s.e).1 : Int)), .string ⟨#[]⟩]) ?_ rfl ⟨by rw [HE.out]; rfl, by rw [HE.out]; exact HQ.out, HP.out⟩
   rw [Dd.results_cell rfl]
   go_simp
 ·have HM2 : Hid ((Dd.stF s).2.l.length ≤ 140737488351232) := Lib.hid (Nat.le_trans (Dd.stF_le s) HM.out)
  cases hB : (Dd.stF s).1
  ·have HB := Lib.hid hB
   rcases hk with ⟨hk, rfl⟩ | ⟨hk, hk1⟩
   ·have HE := Lib.hid ((Dd.stV_there (c := ⟨2, true⟩) (s := s) rfl hB).trans (Dd.stP_str rfl))
    clear hB
    go_enter Tryz.func77, Tryz.ntmps77
    go_wp2_with fail
    generalize hwo : World.alloc _ _ = wo at HR HG HY hys x0 x1 b0 b1 ⊢
    clear hwo
    have hne : w.heap.size ≠ r ∧ w.heap.size ≠ b ∧ w.heap.size + 1 ≠ r ∧ w.heap.size + 1 ≠ b := by omega
    have cf := Dd.flag_c r b s wo HR.out
    rw [HB.out] at cf
    with_reducible refine cf.mono ?_
    rintro e1 w1 ⟨rfl, hR1, hG1⟩
    have HY1 := Lib.hid ((hG1.block _ hys hne.2.2.1 hne.2.2.2).trans HY.out)
    replace x0 := hG1.cell x0 hne.1 hne.2.1
    have HG1 := Lib.hid (HG.out.trans hG1)
    have HR1 := Lib.hid hR1
    obtain ⟨p0, _, _, _⟩ := Dd.two hR1.box
    clear cf hR1 hG1 x1 b0 b1
    go_wp2_with fail
    have ct := Ty.ctext_c b (Dd.stF s).2.l (Dd.stF s).2.e 64 (by omega) w1 HR1.out.tabs HR1.out.cur HR1.out.short
    have hle := Dd.rdT_le (Dd.stF s).2.l (Dd.stF s).2.e
    with_reducible refine ct.mono ?_
    rintro e2 w2 ⟨rfl, hc2, hg2⟩
    have HR2 := Lib.hid (HR1.out.moved hc2 hg2 hle.1)
    have HY2 := Lib.hid ((hg2.block _ (lt_of_block HY1.out) (fun e => by have := Option.some.inj e; omega)).trans HY1.out)
    have HG2 := Lib.hid (HG1.out.trans (Dd.By2.ofB hg2))
    have hsz : (Ty.S (Ty.rdT 64 (Dd.stF s).2.l (Dd.stF s).2.e).1).size ≤ 140737488355328 := by rw [Ty.size_S]; have := HM2.out; omega
    clear ct hc2 hg2 hle
    go_wp2_with fail
    with_reducible refine (Tx.clone_c _ w2 hsz).mono ?_
    rintro e3 w3 ⟨rfl, hg3⟩
    have HR9 := Lib.hid (HR2.out.kept hg3)
    have hy3 := (hg3.block _ (lt_of_block HY2.out)).trans HY2.out
    have HG9 := Lib.hid (HG2.out.trans (Dd.By2.ofBelow hg3))
    obtain ⟨q0, q1, q2, f0, f1, f2⟩ := Dd.three hy3
    clear hg3 hy3 hsz
    go_wp2
    have HP := Lib.hid (Dd.by2_put3 (q := w.heap.size + 1) (by omega) HG9.out (.bool false) (.int .i64 0) (.string (Ty.S (Ty.rdT 64 (Dd.stF s).2.l (Dd.stF s).2.e).1)))
    have HQ := Lib.hid (Dd.rdr_put3 (q := w.heap.size + 1) HR9.out (by omega) (by omega) (.bool false) (.int .i64 0) (.string (Ty.S (Ty.rdT 64 (Dd.stF s).2.l (Dd.stF s).2.e).1)))
    (try simp only [Exit.inBlock, Exit.then])
    refine bodyPost_ret (v := .agg #[.bool false, .int .i64 0, .string (Ty.S (Ty.rdT 64 (Dd.stF s).2.l (Dd.stF s).2.e).1)]) ?_ rfl ⟨by rw [HE.out]; rfl, by rw [HE.out]; exact HQ.out, HP.out⟩
    rw [Dd.results_cell rfl]
    go_simp
   ·have HE := Lib.hid ((Dd.stV_there (c := ⟨ck, true⟩) (s := s) rfl hB).trans (Dd.stP_num hk1))
    clear hB hk1
    go_enter Tryz.func77, Tryz.ntmps77
    go_wp2_with fail
    generalize hwo : World.alloc _ _ = wo at HR HG HY hys x0 x1 b0 b1 ⊢
    clear hwo
    have hne : w.heap.size ≠ r ∧ w.heap.size ≠ b ∧ w.heap.size + 1 ≠ r ∧ w.heap.size + 1 ≠ b := by omega
    have cf := Dd.flag_c r b s wo HR.out
    rw [HB.out] at cf
    with_reducible refine cf.mono ?_
    rintro e1 w1 ⟨rfl, hR1, hG1⟩
    have HY1 := Lib.hid ((hG1.block _ hys hne.2.2.1 hne.2.2.2).trans HY.out)
    replace x0 := hG1.cell x0 hne.1 hne.2.1
    have HG1 := Lib.hid (HG.out.trans hG1)
    have HR1 := Lib.hid hR1
    obtain ⟨p0, _, _, _⟩ := Dd.two hR1.box
    clear cf hR1 hG1 x1 b0 b1
    go_wp2_with fail
    have ct := Ty.cint_c b (Dd.stF s).2.l (Dd.stF s).2.e w1 HR1.out.tabs HR1.out.cur HR1.out.short
    have hle := Dd.rdU_le (Dd.stF s).2.l (Dd.stF s).2.e
    with_reducible refine ct.mono ?_
    rintro e2 w2 ⟨rfl, hc2, hg2⟩
    have HR9 := Lib.hid (HR1.out.moved hc2 hg2 hle)
    have hy3 := (hg2.block _ (lt_of_block HY1.out) (fun e => by have := Option.some.inj e; omega)).trans HY1.out
    have HG9 := Lib.hid (HG1.out.trans (Dd.By2.ofB hg2))
    obtain ⟨q0, q1, q2, f0, f1, f2⟩ := Dd.three hy3
    clear ct hc2 hg2 hle hy3
    go_wp2
    have HP := Lib.hid (Dd.by2_put3 (q := w.heap.size + 1) (by omega) HG9.out (.bool false) (.int .i64 (Ty.zag ((Ty.rdU (Dd.stF s).2.l (Dd.stF s).2.e).1 : Int))) (.string ⟨#[]⟩))
    have HQ := Lib.hid (Dd.rdr_put3 (q := w.heap.size + 1) HR9.out (by omega) (by omega) (.bool false) (.int .i64 (Ty.zag ((Ty.rdU (Dd.stF s).2.l (Dd.stF s).2.e).1 : Int))) (.string ⟨#[]⟩))
    (try simp only [Exit.inBlock, Exit.then])
    refine bodyPost_ret (v := .agg #[.bool false, .int .i64 (Ty.zag ((Ty.rdU (Dd.stF s).2.l (Dd.stF s).2.e).1 : Int)), .string ⟨#[]⟩]) ?_ rfl ⟨by rw [HE.out]; rfl, by rw [HE.out]; exact HQ.out, HP.out⟩
    rw [Dd.results_cell rfl]
    go_simp
  ·have HB := Lib.hid hB
   have HE := Lib.hid (Dd.stV_nul (c := ⟨ck, true⟩) (s := s) rfl hB)
   clear hB
   go_enter Tryz.func77, Tryz.ntmps77
   go_wp2_with fail
   generalize hwo : World.alloc _ _ = wo at HR HG HY hys x0 x1 b0 b1 ⊢
   clear hwo
   have hne : w.heap.size ≠ r ∧ w.heap.size ≠ b ∧ w.heap.size + 1 ≠ r ∧ w.heap.size + 1 ≠ b := by omega
   have cf := Dd.flag_c r b s wo HR.out
   rw [HB.out] at cf
   with_reducible refine cf.mono ?_
   rintro e1 w1 ⟨rfl, hR1, hG1⟩
   have HY1 := Lib.hid ((hG1.block _ hys hne.2.2.1 hne.2.2.2).trans HY.out)
   have HG1 := Lib.hid (HG.out.trans hG1)
   have HR1 := Lib.hid hR1
   clear cf hR1 hG1 x1 b0 b1
   have HR9 := HR1
   have HG9 := HG1
   obtain ⟨q0, q1, q2, f0, f1, f2⟩ := Dd.three HY1.out
   go_wp2
   have HP := Lib.hid (Dd.by2_put3 (q := w.heap.size + 1) (by omega) HG9.out (.bool true) (.int .i64 0) (.string ⟨#[]⟩))
   have HQ := Lib.hid (Dd.rdr_put3 (q := w.heap.size + 1) HR9.out (by omega) (by omega) (.bool true) (.int .i64 0) (.string ⟨#[]⟩))
   (try simp only [Exit.inBlock, Exit.then])
   refine bodyPost_ret (v := .agg #[.bool true, .int .i64 0, .string ⟨#[]⟩]) ?_ rfl ⟨by rw [HE.out]; rfl, by rw [HE.out]; exact HQ.out, HP.out⟩
   rw [Dd.results_cell rfl]
   go_simp
end
section
open Go.RowKit
theorem Dd.run_makeR (n : Nat) (hn : n ≤ 8796093022208) (w : World) : (Instr.makeSlice 24 (.int .i64 (n : Int)) (.int .i64 (n : Int))).run Tryz.prog w = .ok (.slice (some ⟨w.heap.size, 0, none⟩) n n) (w.alloc (.cells (madeCells #[.bool false, .int .i64 0, .string ⟨#[]⟩] (n * 3)) 43)) := by
 obtain ⟨i0, hi, hz0, hz1, hz2⟩ := info_parts Cl.infoV
 have := Go.run_make (P := Tryz.prog) w 24 43 i0 _ Tryz.underlying24 hi hz0 .i64 .i64 n n (by omega) (Int.le_refl _) (by rw [hz2]; omega) (by omega)
 rw [hz1, Int.toNat_natCast] at this
 exact this
theorem Dd.By2.new {r b q i : Nat} {w w1 : World} (g : Dd.By2 r b w w1) (hq : w.heap.size ≤ q) (u : Value) : Dd.By2 r b w (w1.setCell ⟨q, i, none⟩ u) :=
 ⟨g.os, g.tape, g.output, by have := g.size; simpa [World.setCell] using this, fun k hk h1 h2 => (Below.heap_setCell _ _ _ _ (by show k ≠ q; omega)).trans (g.block k hk h1 h2)⟩
theorem Dd.row_by2 {r b g n : Nat} {w w' : World} {F : Nat → Kn.V} (h : Cl.Row w g n F) (k : Dd.By2 r b w w') (hr : g ≠ r) (hb : g ≠ b) : Cl.Row w' g n F :=
 World.rowIs.of_block h (k.block g h.lt hr hb)
theorem Dd.heap_set3 {w : World} {j g : Nat} (h : j ≠ g) (a b c : Nat) (x y z : Value) : (((w.setCell ⟨g, a, none⟩ x).setCell ⟨g, b, none⟩ y).setCell ⟨g, c, none⟩ z).heap[j]? = w.heap[j]? :=
 (Below.heap_setCell _ _ _ _ (by show j ≠ g; exact h)).trans ((Below.heap_setCell _ _ _ _ (by show j ≠ g; exact h)).trans (Below.heap_setCell _ _ _ _ (by show j ≠ g; exact h)))
theorem Dd.rdr_set3 {r b q : Nat} {w : World} {s : Dd.St} (h : Dd.Rdr r b w s) (hr : r < q) (hb : b < q) (i j k : Nat) (x y z : Value) : Dd.Rdr r b (((w.setCell ⟨q, i, none⟩ x).setCell ⟨q, j, none⟩ y).setCell ⟨q, k, none⟩ z) s :=
 have hG : Ty.G ≤ q := by have := h.gr; omega
 ((h.other (by omega) (by omega) hG x).other (by omega) (by omega) hG y).other (by omega) (by omega) hG z
def Dd.GotD (r b : Nat) (w : World) (B : Bool) (R : List Kn.V × Dd.St) (e : Ending) (w' : World) : Prop :=
 ∃ u, e = .returned (.agg #[.bool B, u]) ∧ Kn.Vals w' u R.1 ∧ Dd.Fresh (w.heap.size + 1) u ∧ Dd.Rdr r b w' R.2 ∧ Dd.By2 r b w w'
set_option maxHeartbeats 4000000 in
set_option maxRecDepth 100000 in
theorem Dd.deed_c (r b : Nat) (st : Dd.St) (v : Value) (s : List Kn.C) (w0 w : World) (hs : Dd.Cols w0 v s) (g0 : Below w0.heap.size w0 w) (hr : w0.heap.size ≤ r) (hb : w0.heap.size ≤ b) (hrt : Kn.right s = true) (h : Dd.Rdr r b w st) (hm : st.l.length ≤ 140737488351232) :
 Calls Tryz.prog 42 #[.pointer (some ⟨r, 0, none⟩), v] w (Dd.GotD r b w (Dd.stF st).1 (Dd.stR (Dd.cols s (Dd.stF st).1) (Dd.stF st).2)) := by
 have hA : Below w.heap.size w (w.alloc (.cells #[.bool false, .slice none 0 0] 26)) := (Below.refl _ _).alloc (Nat.le_refl _) _
 have HY : Hid ((w.alloc (.cells #[.bool false, .slice none 0 0] 26)).heap[w.heap.size]? = some (.cells #[.bool false, .slice none 0 0] 26 (0, 0))) := Lib.hid (heap_alloc_new w _)
 have cf := Dd.flag_c r b st _ (h.kept hA)
 have HG0 := Lib.hid (Dd.By2.ofBelow (r := r) (b := b) hA)
 have hlt := h.lt
 have HGR : Hid (Ty.G ≤ w.heap.size) := Lib.hid (Ty.Tabs.two h.tabs)
 have hle := Nat.le_trans (Dd.stF_le st) hm
 have HS := Lib.hid hs
 have HW0 := Lib.hid g0
 have HRB := Lib.hid (And.intro hr hb)
 have hl := Kn.right_len hrt
 generalize Dd.stF st = F at cf hle ⊢
 obtain ⟨B, s1⟩ := F
 simp only at cf hle ⊢
 have CC := Lib.hid fun wz (h : Dd.Cols wz v s) => Dd.columnsOf_c v s B wz h hl.1
 obtain ⟨hc1, hc6⟩ := Dd.cols_len hrt B
 generalize Dd.cols s B = cs at CC hc1 hc6 ⊢
 have HLE := Lib.hid hle
 have hmk := Dd.run_makeR cs.length (by omega)
 clear hs g0 hr hb hrt h hm hA hl hle
 go_enter Tryz.func42, Tryz.ntmps42
 go_wp2_with fail
 generalize hwo : w.alloc _ = wA at HY cf HG0 ⊢
 clear hwo
 with_reducible refine cf.mono ?_
 rintro e w1 ⟨rfl, hR1, hG1⟩
 have HR1 := Lib.hid hR1
 have HG1 := Lib.hid (HG0.out.trans hG1)
 have HY1 := Lib.hid ((hG1.block w.heap.size (lt_of_block HY.out) (by omega) (by omega)).trans HY.out)
 have HB1 : Hid (Below w0.heap.size w0 w1) := Lib.hid (HW0.out.trans (HG1.out.below HRB.out.1 HRB.out.2 HW0.out.size))
 clear cf hR1 hG1
 go_wp2_with fail
 with_reducible refine (CC.out w1 (HS.out.later HB1.out)).mono ?_
 rintro e w2 ⟨⟨u, rfl, hC⟩, h2⟩
 subst w2
 obtain ⟨a, cp, rfl, _⟩ := (hC w1 (HS.out.later HB1.out)).1.is
 have HC : Hid (∀ W, Below w0.heap.size w0 W → cs = [] ∨ ∃ b2 o2, a = some ⟨b2, o2, none⟩ ∧ b2 < W.heap.size ∧ ∀ i x, cs[i]? = some x → W.cell? ⟨b2, o2 + i * 2, none⟩ = some (.int .i64 x.k) ∧ W.cell? ⟨b2, o2 + i * 2 + 1, none⟩ = some (.bool x.null)) := Lib.hid fun W hW => by
  obtain ⟨a', c', e, h⟩ := (hC W (HS.out.later hW)).1.is
  simp only [Value.slice.injEq, true_and] at e
  obtain ⟨rfl, _⟩ := e
  rcases h with h | ⟨b2, o2, h1, h2, _, h3⟩
  ·exact .inl h
  ·exact .inr ⟨b2, o2, h1, h2, h3⟩
 clear hC CC
 go_wp2_with fail
 have hR := Cl.Row.start (w := w1) (n := cs.length)
 have hB : Below w1.heap.size w1 (w1.alloc (.cells (madeCells #[.bool false, .int .i64 0, .string ⟨#[]⟩] (cs.length * 3)) 43)) := (Below.refl _ _).alloc (Nat.le_refl _) _
 have HRM := Lib.hid (HR1.out.kept hB)
 have HYM := Lib.hid ((hB.block w.heap.size (lt_of_block HY1.out)).trans HY1.out)
 have HGM := Lib.hid (HG1.out.trans (Dd.By2.ofBelow hB))
 have hs1 := HG1.out.size
 have hy1 := lt_of_block HY1.out
 have hbs := hB.size
 have hgl := hR.lt
 obtain ⟨g, hg⟩ : ∃ g, g = w1.heap.size := ⟨_, rfl⟩
 generalize w1.alloc _ = w2 at hR hgl HRM HYM HGM ⊢
 rw [← hg] at hR hgl ⊢
 have hwg : w.heap.size < g := by omega
 have hrq : r < w.heap.size ∧ b < w.heap.size := hlt
 clear hmk HY HY1 hB hbs hs1 hy1 hg HB1 HG1 HR1
 go_loopw [20] (fun i wr => ∃ (k : Nat) (M : List Kn.V) (s2 : Dd.St), k ≤ cs.length ∧ i = .int .i64 k ∧ Dd.stR (cs.take k) s1 = (M, s2) ∧ M.length = k ∧ Dd.Rdr r b wr s2 ∧ Cl.Row wr g cs.length (Cl.fo M) ∧ wr.heap[w.heap.size]? = some (.cells #[.bool false, .slice none 0 0] 26 (0, 0)) ∧ Dd.By2 r b w wr ∧ s2.l.length ≤ 140737488351232) (fun i _ => cs.length - (intOf i).toNat)
 case atStart => exact ⟨0, [], s1, Nat.zero_le _, rfl, rfl, rfl, HRM.out, hR, HYM.out, HGM.out, HLE.out⟩
 case round =>
  obtain ⟨k, M, s2, hk, rfl, hM, hMk, hRk, hRow, hYk, hGk, hSl⟩ := hrel
  have HM := Lib.hid hM
  have HRK := Lib.hid hRk
  have HROW := Lib.hid hRow
  have HYK := Lib.hid hYk
  have HGK := Lib.hid hGk
  have HSL := Lib.hid hSl
  have HMK := Lib.hid hMk
  have hk0 : (0 : Int) ≤ (k : Int) := by omega
  have hgr : g < wr.heap.size := hRow.lt
  clear hR hgl HRM HYM HGM hM hMk hRk hRow hYk hGk hSl
  by_cases hlk : k < cs.length
  ·obtain ⟨⟨ck, cn⟩, hc⟩ : ∃ c, cs[k]? = some c := ⟨_, List.getElem?_eq_getElem hlk⟩
   rcases HC.out wr (HW0.out.trans (HGK.out.below HRB.out.1 HRB.out.2 HW0.out.size)) with h | ⟨b2, o2, rfl, hbl, h⟩
   ·exact absurd hlk (by rw [h]; simp)
   ·obtain ⟨e0, e1⟩ := h k _ hc
    have HST := Lib.hid (Dd.stR_step hc HM.out)
    have HSV := Lib.hid (Nat.le_trans (Dd.stV_le ⟨ck, cn⟩ s2) HSL.out)
    have hkl : (k : Int) < (cs.length : Int) := by omega
    have hA : Below wr.heap.size wr (wr.alloc (.cells #[.int .i64 ck, .bool cn] 50)) := (Below.refl _ _).alloc (Nat.le_refl _) _
    have cv := Dd.value_c r b s2 ⟨ck, cn⟩ _ (HRK.out.kept hA) HSL.out
    have HRA := Lib.hid (HROW.out.below hA)
    have HYA := Lib.hid ((hA.block w.heap.size (by omega)).trans HYK.out)
    have HGA := Lib.hid (HGK.out.trans (Dd.By2.ofBelow hA))
    generalize Dd.stV ⟨ck, cn⟩ s2 = R at cv HST HSV
    obtain ⟨⟨xn, xi, xs⟩, s3⟩ := R
    unfold Dd.Went at cv
    simp only at e0 e1 cv HST HSV
    clear h hc hA
    go_wp2_with fail
    generalize hwo : wr.alloc _ = wo at cv HRA HYA HGA ⊢
    clear hwo
    with_reducible refine cv.mono ?_
    rintro e w5 ⟨rfl, hR5, hG5⟩
    have HR5 := Lib.hid hR5
    have HROW5 := Lib.hid (Dd.row_by2 HRA.out hG5 (by omega) (by omega))
    have HY5 := Lib.hid ((hG5.block w.heap.size (lt_of_block HYA.out) (by omega) (by omega)).trans HYA.out)
    have HG5 := Lib.hid (HGA.out.trans hG5)
    have r0 := HROW5.out.c0 hlk
    have r1 := HROW5.out.c1 hlk
    have r2 := HROW5.out.c2 hlk
    have f0 := World.rowIs.frozen HROW5.out (k * 3)
    have f1 := World.rowIs.frozen HROW5.out (k * 3 + 1)
    have f2 := World.rowIs.frozen HROW5.out (k * 3 + 2)
    clear cv hR5 hG5 e0 e1 hgr
    go_wp2
    go_roundw
    case rel => exact ⟨k + 1, M ++ [⟨xn, xi, xs⟩], s3, by omega, by simp, HST.out, by rw [List.length_append, HMK.out]; rfl, Dd.rdr_set3 HR5.out (by omega) (by omega) _ _ _ _ _ _, HROW5.out.snoc_v HMK.out ⟨xn, xi, xs⟩,
     (Dd.heap_set3 (by omega) _ _ _ _ _ _).trans HY5.out, ((HG5.out.new (by omega) _).new (by omega) _).new (by omega) _, HSV.out⟩
    case measure => simp [intOf]; omega
  ·obtain rfl : k = cs.length := by omega
   have hkl : ¬ (cs.length : Int) < (cs.length : Int) := by omega
   obtain ⟨y0, y1, z0, z1⟩ := Dd.two HYK.out
   have HMM : Hid (Dd.stR cs s1 = (M, s2)) := Lib.hid (by have := HM.out; rwa [List.take_length] at this)
   go_wp2
   have HV := Lib.hid (HROW.out.done (cap := cs.length) HMK.out (by omega))
   have HFR : Hid (Dd.Fresh (w.heap.size + 1) (.slice (some ⟨g, 0, none⟩) cs.length cs.length)) := Lib.hid fun j hj => by have : g = j := Option.some.inj hj; omega
   have HGG : Hid (Ty.G ≤ w.heap.size) := HGR
   (try simp only [Exit.inBlock, Exit.then])
   refine bodyPost_ret (v := .agg #[.bool B, .slice (some ⟨g, 0, none⟩) cs.length cs.length]) ?_ rfl
    ⟨_, rfl, by rw [HMM.out]; exact Dd.vals_put (Dd.vals_put HV.out HFR.out (by omega) _) HFR.out (by omega) _, HFR.out, by rw [HMM.out]; exact (HRK.out.other (by omega) (by omega) HGG.out _).other (by omega) (by omega) HGG.out _, (HGK.out.new (by omega) _).new (by omega) _⟩
   rw [Dd.results_cell rfl]
   go_simp
end
section
open Go.RowKit
open Ty (I64)
theorem Dd.Cols.kn {w : World} {v : Value} {l : List Kn.C} (h : Dd.Cols w v l) : Kn.Cols w v l := h.1
theorem Dd.cols_at {s : List Kn.C} {g : Bool} {k : Nat} {c : Kn.C} (h : (Dd.cols s g)[k]? = some c) : s[k]? = some c := by
 unfold Dd.cols at h
 cases g
 ·exact h
 ·rw [if_pos rfl, List.getElem?_take] at h
  split at h
  ·exact h
  ·cases h
set_option maxHeartbeats 2000000 in
set_option maxRecDepth 100000 in
theorem Dd.write_c (v u : Value) (s : List Kn.C) (d : Dd.D) (w : World) (hw : Dd.T w) (hs : Dd.Cols w v s) (hu : Kn.Vals w u d.row) (hi : ∀ x ∈ d.row, I64 x.n) :
 Calls Tryz.prog 25 #[v, .agg #[.bool d.gone, u]] w fun e w' => e = .returned (Dd.wV s d) ∧ Below w.heap.size w w' := by
 have HS := Lib.hid hs
 have HU := Lib.hid hu
 have HI := Lib.hid hi
 have HW := Lib.hid hw
 have HB0 : Hid (Below w.heap.size w (w.alloc (.cells #[.bool d.gone, u] 26))) := Lib.hid ((Below.refl _ _).alloc (Nat.le_refl _) _)
 have HX0 := Lib.hid (Kn.cell_new w #[.bool d.gone, u] 26 0 _ rfl)
 have HX1 := Lib.hid (Kn.cell_new w #[.bool d.gone, u] 26 1 _ rfl)
 simp only [List.getElem_toArray, List.getElem_cons_zero, List.getElem_cons_succ] at HX0 HX1
 have hsz : (w.alloc (.cells #[.bool d.gone, u] 26)).heap.size = w.heap.size + 1 := World.size_alloc ..
 obtain ⟨V, hV⟩ : ∃ V, V = Dd.wV s d := ⟨_, rfl⟩
 rw [← hV]
 have HV := Lib.hid hV
 have CR := Lib.hid fun wz (h : Kn.Cols wz v s) => Kn.right_c v s wz h
 clear hV hs hu hi hw
 cases hrt : Kn.right s
 ·have HE := Lib.hid (HV.out.trans (Dd.wV_bad (by rw [Dd.fitE_not hrt]; decide)))
  have HE4 := Lib.hid (Dd.fitE_not hrt d)
  rw [hrt] at CR
  clear hrt
  go_enter Tryz.func25, Tryz.ntmps25
  go_wp2_with fail
  generalize hwo : w.alloc _ = wo at hsz HX0 HX1 HB0 ⊢
  clear hwo
  with_reducible refine (CR.out wo (HS.out.later HB0.out).kn).mono ?_
  rintro e w1 ⟨rfl, g1⟩
  have HB1 := Lib.hid (HB0.out.trans (g1.mono HB0.out.size))
  clear g1
  go_wp2
  go_ret2
  exact ⟨by rw [HE.out, HE4.out]; rfl, HB1.out⟩
 ·rw [hrt] at CR
  have hl := Kn.right_len hrt
  have CC := Lib.hid fun wz (h : Dd.Cols wz v s) => Dd.columnsOf_c v s d.gone wz h hl.1
  have HFE : Hid (Kn.fitsE (Dd.cols s d.gone) d.row = Dd.fitE s d) := Lib.hid (Dd.fitE_cols hrt d)
  have HGOOD : Hid (∀ (k : Nat) (c : Kn.C), (Dd.cols s d.gone)[k]? = some c → c.good = true) := Lib.hid fun k c h => Dd.cols_good hrt h
  have HAT : Hid (∀ (k : Nat) (c : Kn.C), (Dd.cols s d.gone)[k]? = some c → s[k]? = some c) := Lib.hid fun k c h => Dd.cols_at h
  have HLN : Hid (Dd.fitE s d = 0 → d.row.length = (Dd.cols s d.gone).length ∧ Kn.fitsAll (Dd.cols s d.gone) d.row = true) := Lib.hid fun h => (Dd.fitE_0 h).2
  have hcl := Dd.cols_len hrt d.gone
  have HCL := Lib.hid hcl
  generalize Dd.cols s d.gone = cs at CC HFE HGOOD HAT HLN HCL
  clear hrt hl hcl
  go_enter Tryz.func25, Tryz.ntmps25
  go_wp2_with fail
  generalize hwo : w.alloc _ = wo at hsz HX0 HX1 HB0 ⊢
  clear hwo
  with_reducible refine (CR.out wo (HS.out.later HB0.out).kn).mono ?_
  rintro e w1 ⟨rfl, g1⟩
  have HB1 := Lib.hid (HB0.out.trans (g1.mono HB0.out.size))
  have x0 := (g1.cell (p := ⟨w.heap.size, 0, none⟩) (by simp [hsz])).trans HX0.out
  have x1 := (g1.cell (p := ⟨w.heap.size, 1, none⟩) (by simp [hsz])).trans HX1.out
  have hs1 : w.heap.size < w1.heap.size := by have := g1.size; omega
  clear g1 CR HX0 HX1 hsz
  go_wp2_with fail
  with_reducible refine (CC.out w1 (HS.out.later HB1.out)).mono ?_
  rintro e w2 ⟨⟨uc, rfl, hC⟩, h2⟩
  subst w2
  have HC : Hid (∀ W, Below w.heap.size w W → Kn.Cols W uc cs) := Lib.hid fun W h => (hC W (HS.out.later h)).1
  clear hC CC
  go_wp2_with fail
  have cf := Kn.fits_c uc u cs d.row w1 (HC.out _ HB1.out) (HU.out.later HB1.out)
  rw [HFE.out] at cf
  by_cases hE : Dd.fitE s d = 0
  ·have HE := Lib.hid (HV.out.trans (Dd.wV_ok hE))
   obtain ⟨hln, hfa⟩ := HLN.out hE
   have HFT : Hid (∀ (k : Nat) (c : Kn.C) (x : Kn.V), cs[k]? = some c → d.row[k]? = some x → Kn.fits c x = true) := Lib.hid fun k c x h1 h2 => Dd.fitsAll_at cs d.row k c x hfa h1 h2
   have HPL : Hid (∀ k, k ≤ d.row.length → (Dd.pre s d.gone d.row k).length ≤ 500) := Lib.hid fun k hk => Dd.pre_len hE hk
   have HPA := Lib.hid (Dd.pre_all hE)
   have HPS : Hid (∀ (k : Nat) (c : Kn.C) (x : Kn.V), cs[k]? = some c → d.row[k]? = some x → Dd.pre s d.gone d.row (k + 1) = Dd.pre s d.gone d.row k ++ Dd.encV c x) := Lib.hid fun k c x h1 h2 => Dd.pre_step (HAT.out k c h1) h2
   have hr6 : d.row.length ≤ 6 := by have := HCL.out; omega
   have HLEN := Lib.hid hln
   rw [hE] at cf
   obtain ⟨ac, cc, rfl, -⟩ := (HC.out _ HB1.out).is
   obtain ⟨au, cu, rfl, hUH⟩ := HU.out.is
   have HUH := Lib.hid hUH
   have HCC : Hid (∀ W, Below w.heap.size w W → cs = [] ∨ ∃ b2 o2, ac = some ⟨b2, o2, none⟩ ∧ b2 < W.heap.size ∧ ∀ i x, cs[i]? = some x → W.cell? ⟨b2, o2 + i * 2, none⟩ = some (.int .i64 x.k) ∧ W.cell? ⟨b2, o2 + i * 2 + 1, none⟩ = some (.bool x.null)) := Lib.hid fun W hW => by
    obtain ⟨a', c', e, h⟩ := (HC.out W hW).is
    simp only [Value.slice.injEq, true_and] at e
    obtain ⟨rfl, _⟩ := e
    rcases h with h | ⟨b2, o2, h1, h2, _, h3⟩
    ·exact .inl h
    ·exact .inr ⟨b2, o2, h1, h2, h3⟩
   clear hE hfa hUH HC
   with_reducible refine cf.mono ?_
   rintro e w2 ⟨rfl, g2⟩
   have HB2 := Lib.hid (HB1.out.trans (g2.mono HB1.out.size))
   have HX1 := Lib.hid ((g2.cell (p := ⟨w.heap.size, 1, none⟩) hs1).trans x1)
   have y0 := (g2.cell (p := ⟨w.heap.size, 0, none⟩) hs1).trans x0
   have hs2 : w.heap.size < w2.heap.size := by have := g2.size; omega
   have HT2 := Lib.hid (HW.out.below HB2.out)
   clear g2 cf x0 x1 hs1
   go_wp2_with fail
   with_reducible refine (Dd.appendFlag_c w2.heap.size _ [] d.gone w2 (Ty.Buf.nil _ _) (Nat.le_refl _) (by simp)).mono ?_
   rintro e w3 ⟨v3, rfl, hB3, hG3⟩
   have HG3 := Lib.hid (hG3.below (Nat.le_refl _) (fun k hk => by cases hk))
   have HB3 := Lib.hid hB3
   clear hB3 hG3 y0
   go_wp2_with fail
   rw [← hln]
   clear hln
   go_loopw [8, 30] (fun sv i wr => ∃ (k : Nat) (bv : Value), k ≤ d.row.length ∧ i = .int .i64 k ∧ bv = sv ∧ Ty.Buf w2.heap.size wr bv (Dd.pre s d.gone d.row k) ∧ Below w2.heap.size w2 wr) (fun _ i _ => d.row.length - (intOf i).toNat)
   case atStart => exact ⟨0, _, Nat.zero_le _, rfl, rfl, HB3.out, HG3.out⟩
   case round =>
    obtain ⟨k, bv, hk, rfl, rfl, hBk, hGk⟩ := hrel
    have HBK := Lib.hid hBk
    have HGK := Lib.hid hGk
    have HBW := Lib.hid (HB2.out.trans (hGk.mono HB2.out.size))
    have hws := hGk.size
    have x1 := (hGk.cell (p := ⟨w.heap.size, 1, none⟩) hs2).trans HX1.out
    have hk0 : (0 : Int) ≤ (k : Int) := by omega
    have HPK := Lib.hid (HPL.out k hk)
    clear hBk hGk HB3 HG3
    by_cases hlk : k < d.row.length
    ·rcases HCC.out wr HBW.out with h | ⟨b2, o2, rfl, hbl, hc2⟩
     ·exact absurd hlk (by have := HLEN.out; rw [h, List.length_nil] at this; omega)
     ·rcases HUH.out with h | ⟨b3, o3, rfl, hbl3, hm3, hx3⟩
      ·exact absurd hlk (by rw [h]; simp)
      ·obtain ⟨⟨ck, cn⟩, hc⟩ : ∃ c, cs[k]? = some c := ⟨_, List.getElem?_eq_getElem (by have := HLEN.out; omega)⟩
       obtain ⟨⟨xn, xi, xs⟩, hx⟩ : ∃ x, d.row[k]? = some x := ⟨_, List.getElem?_eq_getElem hlk⟩
       obtain ⟨e0, e1⟩ := hc2 k _ hc
       obtain ⟨a0, a1, a2⟩ := (hx3 k _ hx).later HBW.out
       have HST := Lib.hid (HPS.out k _ _ hc hx)
       have HFX := Lib.hid (HFT.out k _ _ hc hx)
       have HGX := Lib.hid (HGOOD.out k _ hc)
       have HIX := Lib.hid (HI.out _ (List.mem_of_getElem? hx))
       have hkl : (k : Int) < (d.row.length : Int) := by omega
       have hbl3r : b3 < wr.heap.size := by have := HBW.out.size; omega
       have hn0 := Kn.cell_new wr #[.int .i64 ck, .bool cn] 50 0 _ rfl
       have hn1 := Kn.cell_new wr #[.int .i64 ck, .bool cn] 50 1 _ rfl
       have gN : Below wr.heap.size wr (wr.alloc (.cells #[.int .i64 ck, .bool cn] 50)) := (Below.refl _ _).alloc (Nat.le_refl _) _
       simp only [List.getElem_toArray, List.getElem_cons_zero, List.getElem_cons_succ] at hn0 hn1
       simp only at e0 e1 a0 a1 a2 HIX
       have n1 := (gN.cell (p := ⟨w.heap.size, 1, none⟩) (by show w.heap.size < wr.heap.size; omega)).trans x1
       have m0 := (gN.cell (p := ⟨b3, o3 + k * 3, none⟩) hbl3r).trans a0
       have m1 := (gN.cell (p := ⟨b3, o3 + k * 3 + 1, none⟩) hbl3r).trans a1
       have m2 := (gN.cell (p := ⟨b3, o3 + k * 3 + 2, none⟩) hbl3r).trans a2
       have HGN := Lib.hid (HGK.out.trans (gN.mono hws))
       have HBN : Hid (Ty.Buf w2.heap.size (wr.alloc (.cells #[.int .i64 ck, .bool cn] 50)) bv (Dd.pre s d.gone d.row k)) := Lib.hid (HBK.out.later gN)
       clear hc hx hc2 hx3 hm3 hbl
       go_wp2_with fail
       generalize hwn : wr.alloc _ = wn at hn0 hn1 n1 m0 m1 m2 HGN HBN ⊢
       clear hwn gN x1 e0 e1 a0 a1 a2
       refine wp_region_still_tail 7 (by kernel_rfl) (by kernel_rfl) ?_
       simp only [List.take_succ_cons, List.take_zero, List.drop_succ_cons, List.drop_zero]
       change wpStill _ _ (World.drew _) (fun a' => wpList _ _ _ _ a' (World.drew _)) _ _
       still_step
       still_step
       still_step
       still_step
       still_step
       still_step
       still_step
       refine wpStill_nil ?_
       have HTN := Lib.hid (HT2.out.below HGN.out.drew)
       have ca := Dd.appendValue_c w2.heap.size bv (Dd.pre s d.gone d.row k) ⟨ck, cn⟩ ⟨xn, xi, xs⟩ wn.drew HTN.out (Ty.Tabs.two HT2.out) HBN.out HGN.out.size (by have := HPK.out; omega) HFX.out HGX.out HIX.out
       unfold Kn.C.val Kn.V.val at ca
       simp only at ca
       go_wp2_with fail
       with_reducible refine ca.mono ?_
       rintro e w5 ⟨v5, rfl, hB5, hG5⟩
       have HB5 := Lib.hid hB5
       have HG5 := Lib.hid ((hG5.drawn).below HGN.out.size HBN.out.base)
       clear ca hB5 hG5 hn0 hn1 n1 m0 m1 m2
       go_wp2
       go_roundw
       case rel => exact ⟨k + 1, _, by omega, by simp, rfl, by rw [HST.out]; exact HB5.out, HGN.out.trans HG5.out⟩
       case measure => simp [intOf]; omega
    ·obtain rfl : k = d.row.length := by omega
     have hkl : ¬ (d.row.length : Int) < (d.row.length : Int) := by omega
     have hstr := HBK.out.str
     rw [HPA.out] at hstr
     go_wp2
     go_ret2
     exact ⟨by rw [HE.out]; rfl, HBW.out⟩
  ·have HE := Lib.hid (HV.out.trans (Dd.wV_bad hE))
   have hEb : (Dd.fitE s d != 0) = true := by rw [bne_iff_ne]; exact hE
   generalize Dd.fitE s d = E at cf HE hEb
   clear hE
   with_reducible refine cf.mono ?_
   rintro e w2 ⟨rfl, g2⟩
   have HB2 := Lib.hid (HB1.out.trans (g2.mono HB1.out.size))
   clear g2 cf x0 x1
   go_wp2
   go_ret2
   exact ⟨by rw [HE.out]; rfl, HB2.out⟩
set_option maxHeartbeats 2000000 in
set_option maxRecDepth 100000 in
theorem Dd.read_c (v : Value) (s : List Kn.C) (t : ByteArray) (w : World) (hw : Dd.T w) (hs : Dd.Cols w v s) (ht : t.size ≤ 140737488351232) :
 Calls Tryz.prog 21 #[v, .string t] w (Dd.Got w (Dd.rd s t.data.toList)) := by
 have HS := Lib.hid hs
 have HW := Lib.hid hw
 have HB0 : Hid (Below w.heap.size w (w.alloc (.cells #[.bool false, .slice none 0 0] 26))) := Lib.hid ((Below.refl _ _).alloc (Nat.le_refl _) _)
 have HY0 : Hid ((w.alloc (.cells #[.bool false, .slice none 0 0] 26)).heap[w.heap.size]? = some (.cells #[.bool false, .slice none 0 0] 26 (0, 0))) := Lib.hid (heap_alloc_new w _)
 have hsz : (w.alloc (.cells #[.bool false, .slice none 0 0] 26)).heap.size = w.heap.size + 1 := World.size_alloc ..
 have CR := Lib.hid fun wz (h : Kn.Cols wz v s) => Kn.right_c v s wz h
 obtain ⟨R, hR⟩ : ∃ R, R = Dd.rd s t.data.toList := ⟨_, rfl⟩
 rw [← hR]
 have HRR := Lib.hid hR
 have HL : Hid (t.data.toList.length ≤ 140737488351232) := Lib.hid (by rw [Ty.length_data]; exact ht)
 have HTS := Lib.hid (Ty.S_data t)
 clear hR hs hw ht
 cases hrt : Kn.right s
 ·rw [hrt] at CR
  have HE := Lib.hid (HRR.out.trans (Dd.rd_k hrt))
  clear hrt
  go_enter Tryz.func21, Tryz.ntmps21
  go_wp2_with fail
  generalize hwo : w.alloc _ = wo at hsz HY0 HB0 ⊢
  clear hwo
  with_reducible refine (CR.out wo (HS.out.later HB0.out).kn).mono ?_
  rintro e w1 ⟨rfl, g1⟩
  have HY1 := Lib.hid ((g1.block w.heap.size (by omega)).trans HY0.out)
  have HB1 := Lib.hid (HB0.out.trans (g1.mono HB0.out.size))
  obtain ⟨y0, y1, z0, z1⟩ := Dd.two HY1.out
  clear g1
  go_wp2
  have HBE := Lib.hid (Dd.below2 (q := w.heap.size) HB1.out (Nat.le_refl _) (.bool false) (.slice none 0 0))
  (try simp only [Exit.inBlock, Exit.then])
  refine bodyPost_ret (v := .tuple #[.agg #[.bool false, .slice none 0 0], .int .i64 4]) ?_ rfl (Dd.Got.bad HE.out rfl HBE.out)
  rw [results_cell_tmp rfl]
  go_simp
 ·rw [hrt] at CR
  have HRT := Lib.hid hrt
  have hdd := Dd.rd_st hrt t.data.toList (b := (Dd.stF ⟨t.data.toList, 0, false⟩).1) (s1 := (Dd.stF ⟨t.data.toList, 0, false⟩).2) (s2 := (Dd.stR (Dd.cols s (Dd.stF ⟨t.data.toList, 0, false⟩).1) (Dd.stF ⟨t.data.toList, 0, false⟩).2).2) (M := (Dd.stR (Dd.cols s (Dd.stF ⟨t.data.toList, 0, false⟩).1) (Dd.stF ⟨t.data.toList, 0, false⟩).2).1) rfl rfl
  have HD := Lib.hid (HRR.out.trans hdd)
  have CD : Hid (∀ (r b : Nat) (wz : World), Below w.heap.size w wz → w.heap.size ≤ r → w.heap.size ≤ b → Dd.Rdr r b wz ⟨t.data.toList, 0, false⟩ → Calls Tryz.prog 42 #[.pointer (some ⟨r, 0, none⟩), v] wz (Dd.GotD r b wz (Dd.stF ⟨t.data.toList, 0, false⟩).1 (Dd.stR (Dd.cols s (Dd.stF ⟨t.data.toList, 0, false⟩).1) (Dd.stF ⟨t.data.toList, 0, false⟩).2))) :=
   Lib.hid fun r b wz h1 h2 h3 h4 => Dd.deed_c r b _ v s w wz HS.out h1 h2 h3 HRT.out h4 HL.out
  clear hrt hdd
  have HTL := Lib.hid (Eq.refl t.data.toList)
  go_enter Tryz.func21, Tryz.ntmps21
  go_wp2_with fail
  generalize hwo : w.alloc _ = wo at hsz HY0 HB0 ⊢
  clear hwo
  with_reducible refine (CR.out wo (HS.out.later HB0.out).kn).mono ?_
  rintro e w1 ⟨rfl, g1⟩
  have hs1 := g1.size
  have HY1 := Lib.hid ((g1.block w.heap.size (by omega)).trans HY0.out)
  have HB1 := Lib.hid (HB0.out.trans (g1.mono HB0.out.size))
  clear g1 HY0 HB0
  go_wp2_with fail
  have cfr := Ty.from_c t.data.toList w1
  rw [HTS.out] at cfr
  with_reducible refine cfr.mono ?_
  rintro e w2 ⟨rfl, h2⟩
  have hb2 : w1.heap.size < w2.heap.size := by rw [h2]; simp
  have HC2 : Hid (Ty.Cur w1.heap.size w2 t.data.toList 0) := Lib.hid (by rw [h2]; unfold Ty.Cur; rw [HTS.out]; exact heap_alloc_new w1 _)
  have HB2 : Hid (Below w1.heap.size w1 w2) := Lib.hid (by rw [h2]; exact (Below.refl _ _).alloc (Nat.le_refl _) _)
  clear h2 cfr
  go_wp2_with fail
  have hA : Below w2.heap.size w2 (w2.alloc (.cells #[.pointer (some ⟨w1.heap.size, 0, none⟩), .bool false] 84)) := (Below.refl _ _).alloc (Nat.le_refl _) _
  have hw3 : Below w.heap.size w (w2.alloc (.cells #[.pointer (some ⟨w1.heap.size, 0, none⟩), .bool false] 84)) := (HB1.out.trans (HB2.out.mono HB1.out.size)).trans (hA.mono (by have := HB1.out.size; have := HB2.out.size; omega))
  have hGw : Ty.G ≤ w.heap.size := Ty.Tabs.two HW.out
  have hwl := HB1.out.size
  have HR3 : Hid (Dd.Rdr w2.heap.size w1.heap.size (w2.alloc (.cells #[.pointer (some ⟨w1.heap.size, 0, none⟩), .bool false] 84)) ⟨t.data.toList, 0, false⟩) :=
   Lib.hid ⟨(hA.block _ hb2).trans HC2.out, heap_alloc_new w2 _, by omega, Ty.Tabs.below HW.out hw3 hGw, by omega, by omega, by have := HL.out; show t.data.toList.length ≤ _; omega⟩
  have HY3 := Lib.hid ((hA.block w.heap.size (by omega)).trans ((HB2.out.block w.heap.size (by omega)).trans HY1.out))
  have HB3 := Lib.hid hw3
  have hs3 : (w2.alloc (.cells #[.pointer (some ⟨w1.heap.size, 0, none⟩), .bool false] 84)).heap.size = w2.heap.size + 1 := World.size_alloc ..
  clear hA hw3 hGw HTL
  have cd := CD.out w2.heap.size w1.heap.size _ HB3.out (by omega) (by omega) HR3.out
  generalize (Dd.stF ⟨t.data.toList, 0, false⟩).1 = B at cd HD
  generalize Dd.stR _ _ = P at cd HD
  obtain ⟨M, s2⟩ := P
  generalize hwo : w2.alloc _ = w3 at cd HR3 HY3 HB3 hs3 ⊢
  clear hwo CD
  obtain ⟨b, hb⟩ : ∃ b, b = w1.heap.size := ⟨_, rfl⟩
  obtain ⟨r, hr⟩ : ∃ r, r = w2.heap.size := ⟨_, rfl⟩
  rw [← hb, ← hr] at cd HR3
  rw [← hr]
  have hrb : w.heap.size < b ∧ b < r ∧ r < w3.heap.size := by omega
  unfold Dd.GotD at cd
  simp only at cd HD
  clear HC2 HB2 HY1 HB1 hb2 hs3 hwl hs1 hsz hb hr
  with_reducible refine cd.mono ?_
  rintro e w4 ⟨u4, rfl, hV4, hF4, hR4, hG4⟩
  have hV := hV4.is
  obtain ⟨ua, uc, rfl, -⟩ := hV
  have HY4 := Lib.hid ((hG4.block w.heap.size (by omega) (by omega) (by omega)).trans HY3.out)
  have HB4 : Hid (Below w.heap.size w w4) := Lib.hid (HB3.out.trans (hG4.below (by omega) (by omega) HB3.out.size))
  have HV4 := Lib.hid hV4
  have HF4 := Lib.hid hF4
  have HR4 := Lib.hid hR4
  have hs4 := hG4.size
  clear cd hV4 hF4 hR4 hG4
  go_wp2_with fail
  have hA : Below w4.heap.size w4 (w4.alloc (.cells #[.bool B, .slice ua M.length uc] 26)) := (Below.refl _ _).alloc (Nat.le_refl _) _
  have cdn := Dd.done_c r b s2 _ (HR4.out.kept hA)
  have HN := Lib.hid (heap_alloc_new w4 (.cells #[.bool B, .slice ua M.length uc] 26))
  have HY5 := Lib.hid ((hA.block w.heap.size (by omega)).trans HY4.out)
  have HB5 := Lib.hid (HB4.out.trans (hA.mono HB4.out.size))
  have HV5 := Lib.hid (HV4.out.later hA)
  clear hA
  generalize hwo : w4.alloc _ = w5 at cdn HN HY5 HB5 HV5 ⊢
  clear hwo
  generalize s2.done = q at cdn HD
  with_reducible refine cdn.mono ?_
  rintro e w6 ⟨rfl, h6⟩
  subst w6
  obtain ⟨y0, y1, z0, z1⟩ := Dd.two HY5.out
  clear cdn
  by_cases hq : q = 0
  ·subst hq
   have HE : Hid (R = (0, ⟨B, M⟩)) := Lib.hid (by have := HD.out; rwa [if_neg (by decide)] at this)
   obtain ⟨n0, n1, _, _⟩ := Dd.two HN.out
   simp only [Int.natCast_zero]
   go_wp2
   have HBE := Lib.hid (Dd.below2 (q := w.heap.size) HB5.out (Nat.le_refl _) (.bool B) (.slice ua M.length uc))
   have hF5 : Dd.Fresh (w.heap.size + 1) (.slice ua M.length uc) := HF4.out.mono (by omega)
   have HV6 := Lib.hid (Dd.vals_put (i := 1) (Dd.vals_put (i := 0) HV5.out hF5 (Nat.lt_succ_self _) (.bool B)) hF5 (Nat.lt_succ_self _) (.slice ua M.length uc))
   (try simp only [Exit.inBlock, Exit.then])
   refine bodyPost_ret (v := .tuple #[.agg #[.bool B, .slice ua M.length uc], .int .i64 0]) ?_ rfl (Dd.Got.good HE.out HV6.out (hF5.mono (by omega)) HBE.out)
   rw [results_cell_tmp rfl]
   go_simp
  ·have HE : Hid (R = (q, ⟨false, []⟩)) := Lib.hid (by have := HD.out; rwa [if_pos hq] at this)
   have hqn : ((q : Int) != 0) = true := by rw [bne_iff_ne]; omega
   clear hq
   go_wp2
   have HBE := Lib.hid (Dd.below2 (q := w.heap.size) HB5.out (Nat.le_refl _) (.bool false) (.slice none 0 0))
   (try simp only [Exit.inBlock, Exit.then])
   refine bodyPost_ret (v := .tuple #[.agg #[.bool false, .slice none 0 0], .int .i64 (q : Int)]) ?_ rfl (Dd.Got.bad HE.out rfl HBE.out)
   rw [results_cell_tmp rfl]
   go_simp
end
section
open Go.RowKit
def Fr.all (l : List UInt8) : Nat × List Fr.Str := if (Fr.scan l).1 ≠ 0 then ((Fr.scan l).1, []) else if (Fr.scan l).2.2 < l.length then (2, []) else (0, (Fr.scan l).2.1)
def Fr.GotA (w : World) (r : Nat × List Fr.Str) (e : Ending) (w' : World) : Prop :=
 ∃ v, e = .returned (.tuple #[v, .int .i64 ((r.1 : Nat) : Int)]) ∧ Tx.At w'.heap.size w' v r.2 ∧ Below w.heap.size w w'
theorem Fr.GotA.good {w w' : World} {r : Nat × List Fr.Str} {v : Value} {L : List Fr.Str} (hr : r = (0, L)) (h : Tx.At w'.heap.size w' v L) (g : Below w.heap.size w w') : Fr.GotA w r (.returned (.tuple #[v, .int .i64 0])) w' :=
 ⟨_, by rw [hr]; rfl, by rw [hr]; exact h, g⟩
end
end Go.Proofs.YtkhiemkekmdhgaaGreatDoor
