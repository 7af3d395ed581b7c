import Derived.Test.YtbelkhkllneifaaGreatDoorWEAX
import Derived.Deep.RegionHeld3
import Derived.Test.YtbelkhkllneifaaGreatDoorWEAK
import Derived.Test.YtbelkhkllneifaaGreatDoorWEAD
import Derived.Deep.OwnRows
import Derived.Test.YtbelkhkllneifaaGreatDoorWEAW
import Derived.Test.YtbelkhkllneifaaGreatDoorWEAL
import Derived.Test.YtbelkhkllneifaaGreatDoorWEAT
import Derived.Deep.RegionLaw
namespace Go.Proofs.YtbelkhkllneifaaGreatDoor
section
open Go.RowKit
open Ty (num txt)
theorem Bk.hl_nil (i : Nat) (R : Nat → Option Addr × Nat × Nat) : ∀ (k : Nat) (l : List Dd.D) (vs : List Kn.V), Bk.hl i R k l = [] → Bk.give i l vs = l
 | _, [], _, _ => rfl
 | k, d :: l, vs, h => by
   unfold Bk.hl at h
   unfold Bk.give
   by_cases hh : Bk.has i d = true
   ·rw [if_pos hh] at h; cases h
   ·rw [if_neg hh] at h ⊢
    rw [Bk.hl_nil i R (k + 1) l vs h]
structure Bk.MidG (i : Nat) (R : Nat → Option Addr × Nat × Nat) (A : List Dd.D) (vs : List Kn.V) (hd : List (Option Addr × Nat × Nat)) (B : List Dd.D) (j k : Nat) : Prop where
 len : B.length = A.length
 le : j ≤ A.length
 tail : B.drop j = A.drop j
 held : hd.drop k = Bk.hl i R j (A.drop j)
 cnt : k + ((A.drop j).filter (Bk.has i)).length = vs.length
 val : Bk.give i A vs = B.take j ++ Bk.give i (A.drop j) (vs.drop k)
theorem Bk.MidG.start {i : Nat} {R : Nat → Option Addr × Nat × Nat} {A : List Dd.D} {vs : List Kn.V} (h : vs.length = (A.filter (Bk.has i)).length) : Bk.MidG i R A vs (Bk.hl i R 0 A) A 0 0 :=
 ⟨rfl, Nat.zero_le _, rfl, rfl, by rw [List.drop_zero, Nat.zero_add, h], rfl⟩
theorem Bk.MidG.at_ {i : Nat} {R : Nat → Option Addr × Nat × Nat} {A B : List Dd.D} {vs : List Kn.V} {hd : List (Option Addr × Nat × Nat)} {j k : Nat} (h : Bk.MidG i R A vs hd B j k) : B[j]? = A[j]? := by
 have := congrArg (fun l => l[0]?) h.tail
 simpa using this
theorem Bk.MidG.next {i : Nat} {R : Nat → Option Addr × Nat × Nat} {A : List Dd.D} {vs : List Kn.V} {hd : List (Option Addr × Nat × Nat)} {k : Nat} : ∀ (n j : Nat) (B : List Dd.D), A.length - j = n → Bk.MidG i R A vs hd B j k → k < hd.length →
 ∃ j' d x, B[j']? = some d ∧ Bk.has i d = true ∧ hd[k]? = some (R j') ∧ vs[k]? = some x ∧ Bk.MidG i R A vs hd (B.set j' ⟨d.gone, d.row.set i x⟩) (j' + 1) (k + 1)
 | 0, j, B, hn, h, hk => by
   have : A.drop j = [] := List.drop_eq_nil_of_le (by omega)
   have h2 := h.held
   rw [this] at h2
   have h3 : (hd.drop k).length = 0 := by rw [h2]; rfl
   rw [List.length_drop] at h3
   omega
 | n + 1, j, B, hn, h, hk => by
   have hb := h.at_
   have hjA : j < A.length := by omega
   have hjB : j < B.length := by rw [h.len]; exact hjA
   rw [List.getElem?_eq_getElem hjA, List.getElem?_eq_getElem hjB, Option.some.injEq] at hb
   have hdr : A.drop j = B[j] :: A.drop (j + 1) := by rw [List.drop_eq_getElem_cons hjA, hb]
   have ht := h.tail
   have hheld := h.held
   have hcnt := h.cnt
   have hval := h.val
   rw [hdr] at hheld hcnt hval
   unfold Bk.hl at hheld
   rw [List.filter_cons] at hcnt
   have htl : B.drop (j + 1) = A.drop (j + 1) := by
    have := congrArg List.tail ht
    simpa using this
   by_cases hh : Bk.has i B[j] = true
   ·rw [if_pos hh] at hheld hcnt
    rw [List.length_cons] at hcnt
    have hkv : k < vs.length := by omega
    have hvs : vs.drop k = vs[k] :: vs.drop (k + 1) := List.drop_eq_getElem_cons hkv
    refine ⟨j, B[j], vs[k], List.getElem?_eq_getElem hjB, hh, ?_, List.getElem?_eq_getElem hkv, ?_⟩
    ·have := congrArg (fun l => l[0]?) hheld
     simpa using this
    ·refine ⟨by rw [List.length_set]; exact h.len, hjA, ?_, ?_, by omega, ?_⟩
     ·rw [List.drop_set_of_lt (by omega)]
      exact htl
     ·have := congrArg List.tail hheld
      simpa using this
     ·rw [hval, hvs]
      conv => lhs; rw [Bk.give, if_pos hh]
      rw [List.headD_cons, List.tail_cons, List.take_succ_eq_append_getElem (by rw [List.length_set]; exact hjB), List.getElem_set_self, List.take_set_of_le (Nat.le_refl _), List.append_assoc]
      rfl
   ·rw [if_neg hh] at hheld hcnt
    refine Bk.MidG.next n (j + 1) B (by omega) ⟨h.len, hjA, htl, hheld, hcnt, ?_⟩ hk
    rw [hval, List.take_succ_eq_append_getElem hjB, List.append_assoc]
    conv => lhs; rw [Bk.give, if_neg hh]
    rfl
theorem Bk.MidG.done {i : Nat} {R : Nat → Option Addr × Nat × Nat} {A B : List Dd.D} {vs : List Kn.V} {hd : List (Option Addr × Nat × Nat)} {j k : Nat} (h : Bk.MidG i R A vs hd B j k) (hk : k = hd.length) : Bk.give i A vs = B := by
 have h2 := h.held
 rw [hk, List.drop_length] at h2
 rw [h.val, Bk.hl_nil i R j _ _ h2.symm, ← h.tail, List.take_append_drop]
theorem Bk.wide_set {w i j : Nat} {A : List Dd.D} {d : Dd.D} (h : Bk.Wide w A) (hd : A[j]? = some d) (x : Kn.V) : Bk.Wide w (A.set j ⟨d.gone, d.row.set i x⟩) := fun y hy => by
 rcases List.mem_or_eq_of_mem_set hy with hy | rfl
 ·exact h y hy
 ·rw [List.length_set]
  exact h d (List.mem_of_getElem? hd)
theorem Bk.wide_has {w i : Nat} (hi : i < w) {d : Dd.D} (hd : d.row.length = Bk.wdt w d.gone) (h : Bk.has i d = true) : i < d.row.length := by
 unfold Bk.has at h
 unfold Bk.wdt at hd
 rw [hd]
 cases hg : d.gone
 ·rw [if_neg (by decide)]; exact hi
 ·rw [hg] at h
  have : i = 0 := by simpa using h
  rw [if_pos rfl]
  omega
def Bk.mx (A : List Dd.D) (R : Nat → Option Addr × Nat × Nat) (i : Nat) : Value := if i % 2 = 0 then .bool (A.getD (i / 2) Bk.nod).gone else Bk.sv (R (i / 2))
structure Bk.Mx (q : Nat) (w : World) (R : Nat → Option Addr × Nat × Nat) (A : List Dd.D) : Prop where
 row : w.rowIs q 41 (A.length * 2) (Bk.mx A R)
 rows : ∀ j d, A[j]? = some d → ∃ g, R j = (some ⟨g, 0, none⟩, d.row.length, d.row.length) ∧ q < g ∧ Cl.Row w g d.row.length (fun k => d.row.getD k Cl.nul)
 sep : ∀ j k, j < A.length → k < A.length → j ≠ k → ∀ g, (R j).1 = some ⟨g, 0, none⟩ → (R k).1 ≠ some ⟨g, 0, none⟩
theorem Bk.Mx.same {q : Nat} {w w' : World} {R : Nat → Option Addr × Nat × Nat} {A : List Dd.D} (h : Bk.Mx q w R A) (g : ∀ k, q ≤ k → k < w.heap.size → w'.heap[k]? = w.heap[k]?) : Bk.Mx q w' R A := by
 refine ⟨h.row.of_block (g q (Nat.le_refl _) h.row.lt), fun j d hd => ?_, h.sep⟩
 obtain ⟨b, h1, h2, h3⟩ := h.rows j d hd
 exact ⟨b, h1, h2, World.rowIs.of_block h3 (g b (by omega) h3.lt)⟩
theorem Bk.Mx.kept {q : Nat} {w w' : World} {R : Nat → Option Addr × Nat × Nat} {A : List Dd.D} (h : Bk.Mx q w R A) (g : Below w.heap.size w w') : Bk.Mx q w' R A := h.same fun k _ hk => g.block k hk
theorem Bk.Mx.by_ {q b : Nat} {w w' : World} {R : Nat → Option Addr × Nat × Nat} {A : List Dd.D} (h : Bk.Mx q w R A) (g : w.grownBy w' (some b)) (hb : b < q) : Bk.Mx q w' R A :=
 h.same fun k hq hk => g.block k hk (fun e => by have := Option.some.inj e; omega)
theorem Bk.Mx.cells {q : Nat} {w : World} {R : Nat → Option Addr × Nat × Nat} {A : List Dd.D} (h : Bk.Mx q w R A) {j : Nat} {d : Dd.D} (hd : A[j]? = some d) : w.cell? ⟨q, j * 2, none⟩ = some (.bool d.gone) ∧ w.cell? ⟨q, j * 2 + 1, none⟩ = some (Bk.sv (R j)) := by
 have hl := (List.getElem?_eq_some_iff.1 hd).1
 constructor
 ·rw [h.row.cell (by omega)]
  unfold Bk.mx
  rw [if_pos (by omega), show j * 2 / 2 = j by omega, List.getD_eq_getElem?_getD, hd]
  rfl
 ·rw [h.row.cell (by omega)]
  unfold Bk.mx
  rw [if_neg (by omega), show (j * 2 + 1) / 2 = j by omega]
theorem Bk.Mx.dr {q : Nat} {w : World} {R : Nat → Option Addr × Nat × Nat} {A : List Dd.D} (h : Bk.Mx q w R A) (c : Nat) : Bk.Dr w (.slice (some ⟨q, 0, none⟩) A.length c) A R :=
 ⟨_, c, rfl, .inr ⟨q, 0, rfl, h.row.lt, fun i x hx => by rw [Nat.zero_add]; exact h.cells hx⟩⟩
theorem Bk.Mx.ds {q : Nat} {w : World} {R : Nat → Option Addr × Nat × Nat} {A : List Dd.D} (h : Bk.Mx q w R A) (h8 : A.length ≤ 8) (h6 : ∀ d ∈ A, d.row.length ≤ 6) : Bk.Ds w (.slice (some ⟨q, 0, none⟩) A.length A.length) A := by
 refine ⟨_, A.length, rfl, Nat.le_refl _, by omega, .inr ⟨q, 0, rfl, h.row.lt, fun i x hx => ?_⟩⟩
 rw [Nat.zero_add]
 obtain ⟨c0, c1⟩ := h.cells hx
 obtain ⟨g, hg, _, hr⟩ := h.rows i x hx
 rw [hg] at c1
 have hm := h6 x (List.mem_of_getElem? hx)
 exact ⟨_, c0, c1, hr.vals rfl (fun k v hk => by rw [List.getD_eq_getElem?_getD, hk]; rfl) (by omega)⟩
theorem Bk.Mx.put {q : Nat} {w : World} {R : Nat → Option Addr × Nat × Nat} {A : List Dd.D} (h : Bk.Mx q w R A) {j : Nat} {d : Dd.D} (hd : A[j]? = some d) {g : Nat} (hg : (R j).1 = some ⟨g, 0, none⟩) {i : Nat} (x : Kn.V) :
 Bk.Mx q (((w.setCell ⟨g, i * 3, none⟩ (.bool x.null)).setCell ⟨g, i * 3 + 1, none⟩ (.int .i64 x.n)).setCell ⟨g, i * 3 + 2, none⟩ (.string x.s)) R (A.set j ⟨d.gone, d.row.set i x⟩) := by
 have hjl := (List.getElem?_eq_some_iff.1 hd).1
 obtain ⟨g', e, hq, hr⟩ := h.rows j d hd
 have : g' = g := by rw [e] at hg; simpa using hg
 subst this
 have hoth : ∀ k, k ≠ g' → (((w.setCell ⟨g', i * 3, none⟩ (.bool x.null)).setCell ⟨g', i * 3 + 1, none⟩ (.int .i64 x.n)).setCell ⟨g', i * 3 + 2, none⟩ (.string x.s)).heap[k]? = w.heap[k]? := fun k hk =>
  (Below.heap_setCell _ _ _ _ hk).trans ((Below.heap_setCell _ _ _ _ hk).trans (Below.heap_setCell _ _ _ _ hk))
 refine ⟨?_, fun k y hy => ?_, by rw [List.length_set]; exact h.sep⟩
 ·rw [List.length_set]
  refine World.rowIs.congr (h.row.of_block (hoth q (by omega))) fun m hm => ?_
  unfold Bk.mx
  split
  ·congr 1
   simp only [List.getD_eq_getElem?_getD, List.getElem?_set]
   by_cases e3 : j = m / 2
   ·rw [if_pos e3, if_pos hjl, ← e3, hd]
    rfl
   ·rw [if_neg e3]
  ·rfl
 ·rw [List.getElem?_set] at hy
  by_cases e2 : j = k
  ·subst e2
   rw [if_pos rfl, if_pos hjl] at hy
   obtain rfl := Option.some.inj hy
   refine ⟨g', by rw [e, List.length_set], hq, ?_⟩
   rw [List.length_set]
   refine Cl.Row.congr (hr.setV i x) fun m hm => ?_
   simp only [List.getD_eq_getElem?_getD, List.getElem?_set]
   by_cases e3 : m = i
   ·subst e3
    rw [if_pos rfl, if_pos rfl, if_pos hm]
    rfl
   ·rw [if_neg e3, if_neg (fun h => e3 h.symm)]
  ·rw [if_neg e2] at hy
   obtain ⟨g2, f1, f2, f3⟩ := h.rows k y hy
   have hkl := (List.getElem?_eq_some_iff.1 hy).1
   refine ⟨g2, f1, f2, World.rowIs.of_block f3 (hoth g2 fun e4 => ?_)⟩
   subst e4
   exact h.sep j k hjl hkl e2 g2 hg (by rw [f1])
structure Bk.Btw (q s : Nat) (w w' : World) : Prop where
 os : w'.os = w.os
 tape : w'.tape = w.tape
 output : w'.output = w.output
 size : w.heap.size ≤ w'.heap.size
 block : ∀ k, k < w.heap.size → (k ≤ q ∨ s ≤ k) → w'.heap[k]? = w.heap[k]?
theorem Bk.Btw.refl (q s : Nat) (w : World) : Bk.Btw q s w w := ⟨rfl, rfl, rfl, Nat.le_refl _, fun _ _ _ => rfl⟩
theorem Bk.Btw.set {q s : Nat} {w w' : World} (h : Bk.Btw q s w w') {g : Nat} (h1 : q < g) (h2 : g < s) (i : Nat) (u : Value) : Bk.Btw q s w (w'.setCell ⟨g, i, none⟩ u) :=
 ⟨h.os, h.tape, h.output, by have := h.size; simpa [World.setCell] using this, fun k hk hq => (Below.heap_setCell _ _ _ _ (by show k ≠ g; omega)).trans (h.block k hk hq)⟩
theorem Bk.Btw.below {q s B : Nat} {w w' : World} (h : Bk.Btw q s w w') (hB : B ≤ q) (hs : B ≤ w.heap.size) : Below B w w' := ⟨h.os, h.tape, h.output, h.size, fun k hk => h.block k (by omega) (.inl (by omega))⟩
theorem Bk.by_of {b : Nat} {w w' : World} (g : Below w.heap.size w w') : w.grownBy w' (some b) := ⟨g.os, g.tape, g.output, g.size, fun k hk _ => g.block k hk⟩
theorem Bk.below_of {b B : Nat} {w w' : World} (g : w.grownBy w' (some b)) (hb : B ≤ b) (hB : B ≤ w.heap.size) : Below B w w' := Ty.below_at g hB hb
theorem Bk.vals_btw {q s : Nat} {w w' : World} {v : Value} {L : List Kn.V} (h : Kn.Vals w v L) (hf : Dd.Fresh s v) (g : Bk.Btw q s w w') : Kn.Vals w' v L := by
 obtain ⟨a, c, rfl, h⟩ := h
 refine ⟨a, c, rfl, ?_⟩
 rcases h with h | ⟨b, o, rfl, hlt, hm, h⟩
 ·exact .inl h
 ·have hb : w'.heap[b]? = w.heap[b]? := g.block b hlt (.inr (hf b rfl))
  have hc : ∀ j, w'.cell? ⟨b, j, none⟩ = w.cell? ⟨b, j, none⟩ := fun j => World.cell?_of_block (a := ⟨b, j, none⟩) hb
  exact .inr ⟨b, o, rfl, Nat.lt_of_lt_of_le hlt g.size, hm, fun i x hx => ⟨(hc _).trans (h i x hx).c0, (hc _).trans (h i x hx).c1, (hc _).trans (h i x hx).c2⟩⟩
theorem Bk.Rdr.btw {r b q s : Nat} {w w' : World} {t : Dd.St} (h : Bk.Rdr r b w t) (g : Bk.Btw q s w w') (hr : r < q) (hb : b < q) : Bk.Rdr r b w' t :=
 h.same g.size (fun k hk => g.block k (by have := h.lt.1; have := h.gr; omega) (.inl (by have := h.gr; omega))) (g.block r h.lt.1 (.inl (by omega))) (g.block b h.lt.2 (.inl (by omega)))
def Bk.Cld (r b q : Nat) (w : World) (R : Nat → Option Addr × Nat × Nat) (X : List Dd.D × Dd.St) (e : Ending) (w' : World) : Prop :=
 e = .returned (.tuple #[]) ∧ Bk.Rdr r b w' X.2 ∧ Bk.Mx q w' R X.1 ∧ ∀ B, B ≤ r → B ≤ b → Below B w w'
theorem Bk.stC_bad1 {c : Kn.C} {i : Nat} {A : List Dd.D} {s : Dd.St} {t l2 : List UInt8} {e2 : Nat} (h : Bk.rdL s = (t, l2, e2)) (hn : ¬ Bk.okS c i A t) : Bk.stC c i A s = (A, ⟨l2, e2, true⟩) := by
 unfold Bk.stC
 rw [h]
 exact if_neg hn
theorem Bk.stC_ok1 {c : Kn.C} {i : Nat} {A : List Dd.D} {s : Dd.St} {t l2 : List UInt8} {e2 : Nat} (h : Bk.rdL s = (t, l2, e2)) (hn : Bk.okS c i A t) : Bk.stC c i A s = (Bk.give i A (Cl.rd c t).2, ⟨l2, e2, s.wr⟩) := by
 unfold Bk.stC
 rw [h]
 exact if_pos hn
end
section
open Go.RowKit
open Ty (num txt)
set_option maxHeartbeats 8000000 in
set_option maxRecDepth 100000 in
theorem Bk.column_c (r b q : Nat) (s : Dd.St) (c : Kn.C) (A : List Dd.D) (i wd : Nat) (R : Nat → Option Addr × Nat × Nat) (w : World) (h : Bk.Rdr r b w s) (hm : Bk.Mx q w R A) (h8 : A.length ≤ 8) (hW : Bk.Wide wd A) (hi : i < wd) (hw6 : wd ≤ 6) (hr : r < q) (hb : b < q) :
 Calls Tryz.prog 140 #[.pointer (some ⟨r, 0, none⟩), c.val, .slice (some ⟨q, 0, none⟩) A.length A.length, .int .i64 (i : Int)] w (Bk.Cld r b q w R (Bk.stC c i A s)) := by
 obtain ⟨X, hX⟩ : ∃ X, X = Bk.stC c i A s := ⟨_, rfl⟩
 rw [← hX]
 have HR := Lib.hid h
 have HM := Lib.hid hm
 have H8 := Lib.hid h8
 have HW := Lib.hid hW
 have HI := Lib.hid (And.intro hi hw6)
 have HRQ := Lib.hid (And.intro hr hb)
 have hi0 : (0 : Int) ≤ (i : Int) := by omega
 have hi6 : (i : Int) ≤ 6 := by omega
 have HBADX := Lib.hid fun t l2 e2 h1 h2 => hX.trans (Bk.stC_bad1 (t := t) (l2 := l2) (e2 := e2) h1 h2)
 have HOKX := Lib.hid fun t l2 e2 h1 h2 => hX.trans (Bk.stC_ok1 (t := t) (l2 := l2) (e2 := e2) h1 h2)
 have HGL : Hid (∀ j d g, A[j]? = some d → (R j).1 = some ⟨g, 0, none⟩ → g < w.heap.size) := Lib.hid fun j d g hd hg => by
  obtain ⟨g', e, _, h3⟩ := HM.out.rows j d hd
  rw [e] at hg
  obtain rfl : g' = g := by simpa using hg
  exact h3.lt
 clear hX hW hm h8 hi hw6
 have hle := Bk.rdT_le (s.l.length : Int) s.l s.e
 have CT := Lib.hid fun (wz : World) (h : Bk.Rdr r b wz s) => Ty.ctext_c b s.l s.e (s.l.length : Int) (by have := h.short; omega) wz h.tabs h.cur (by have := h.short; omega)
 have CL := Lib.hid fun (wz : World) (h : Bk.Rdr r b wz s) => Ty.left_c b s.l s.e wz h.cur
 have CH := Lib.hid (Bk.having_c i)
 unfold Bk.fv at CH
 obtain ⟨T, hT⟩ : ∃ T, T = Bk.rdL s := ⟨_, rfl⟩
 have hT2 := hT
 unfold Bk.rdL at hT2
 rw [← hT2] at hle
 simp only [← hT2] at CT
 obtain ⟨t1, l2, e2⟩ := T
 simp only at hle CT
 have HBADX := Lib.hid (HBADX.out t1 l2 e2 hT.symm)
 have HOKX := Lib.hid (HOKX.out t1 l2 e2 hT.symm)
 have HL2 := Lib.hid hle.1
 have HS1 : Hid ((Ty.S t1).size ≤ 140737488351232) := Lib.hid (by rw [Ty.size_S]; have := HR.out.short; have := hle.2; omega)
 have C6 := Lib.hid fun (wz : World) (h : Ty.Tabs wz) => Bk.read6_c c (Ty.S t1) wz h HS1.out
 rw [show (Ty.S t1).data.toList = t1 from rfl] at C6
 unfold Bk.okS at HBADX HOKX
 generalize Cl.rd c t1 = V at C6 HBADX HOKX
 generalize Ty.S t1 = S1 at CT C6
 obtain ⟨E, vs⟩ := V
 unfold Bk.GotF at C6
 unfold Kn.C.val at C6 ⊢
 simp only at C6 HBADX HOKX
 clear hT hT2 hle HS1 h
 generalize c.k = ck at C6 ⊢
 generalize c.null = cn at C6 ⊢
 have HB0 : Hid (Below w.heap.size w (w.alloc (.cells #[.int .i64 ck, .bool cn] 76))) := Lib.hid ((Below.refl _ _).alloc (Nat.le_refl _) _)
 have x0 := Kn.cell_new w #[.int .i64 ck, .bool cn] 76 0 _ rfl
 have x1 := Kn.cell_new w #[.int .i64 ck, .bool cn] 76 1 _ rfl
 simp only [List.getElem_toArray, List.getElem_cons_zero, List.getElem_cons_succ] at x0 x1
 have hsz : (w.alloc (.cells #[.int .i64 ck, .bool cn] 76)).heap.size = w.heap.size + 1 := World.size_alloc ..
 have HX := Lib.hid (And.intro x0 (And.intro x1 hsz))
 clear x0 x1 hsz
 go_enter Tryz.func140, Tryz.ntmps140
 go_upto_region 1 with (fail)
 obtain ⟨x0, x1, hsz⟩ := HX.out
 obtain ⟨p, hp⟩ : ∃ p, p = w.heap.size := ⟨_, rfl⟩
 rw [← hp] at x0 x1 ⊢
 generalize w.alloc _ = w1 at HB0 x0 x1 hsz ⊢
 have hpb : p ≠ b := by have := HR.out.lt.2; omega
 have hrb : r ≠ b := fun e => HR.out.ne e.symm
 have HR1 := Lib.hid (HR.out.kept HB0.out)
 have hr0 := (Dd.two HR1.out.box).1
 have HHS : Hid (∀ W, w1.grownBy W (some b) → W.cell? ⟨p, 0, none⟩ = some (.int .i64 ck) ∧ W.cell? ⟨p, 1, none⟩ = some (.bool cn) ∧ W.cell? ⟨r, 0, none⟩ = some (.pointer (some ⟨b, 0, none⟩))) := Lib.hid fun W g =>
  ⟨(World.cell?_of_block (a := ⟨p, 0, none⟩) (g.block p (by omega) (fun e => hpb (Option.some.inj e)))).trans x0, (World.cell?_of_block (a := ⟨p, 1, none⟩) (g.block p (by omega) (fun e => hpb (Option.some.inj e)))).trans x1,
    (World.cell?_of_block (a := ⟨r, 0, none⟩) (g.block r HR1.out.lt.1 (fun e => hrb (Option.some.inj e)))).trans hr0⟩
 have HDW : Hid (w1.grownBy w1.drew (some b)) := Lib.hid (Bk.by_of (Bt.drewN_below w1 1))
 have HRD : Hid (Bk.Rdr r b w1.drew s) := Lib.hid (HR1.out.kept (Bt.drewN_below w1 1))
 have HM1 := Lib.hid (HM.out.kept HB0.out)
 have HTB : Hid (∀ W, w1.drew.grownBy W (some b) → Ty.Cur b W l2 e2 → Ty.Tabs W) := Lib.hid fun W g hc => (HRD.out.moved hc g HL2.out).tabs
 have HS9 := Lib.hid hsz
 have HP := Lib.hid hp
 clear hr0 hsz x0 x1 HR HM HX hpb hrb hp hr hb
 go_region_held3 (fun W => W.cell? ⟨p, 0, none⟩ = some (.int .i64 ck) ∧ W.cell? ⟨p, 1, none⟩ = some (.bool cn) ∧ W.cell? ⟨r, 0, none⟩ = some (.pointer (some ⟨b, 0, none⟩)))
  (first
   | exact HHS.out _ HDW.out
   | exact HHS.out _ (Ty.by_trans HDW.out g6)
   | exact HHS.out _ (Ty.by_trans HDW.out (Ty.by_trans g6 (Bk.by_of g7))))
  (first
   | (go_at_call 142; (with_reducible refine (CL.out _ HRD.out).mono ?_); rintro e w5 ⟨rfl, rfl⟩)
   | (go_at_call 153; (with_reducible refine (CT.out _ HRD.out).mono ?_); rintro e w6 ⟨rfl, hc6, g6⟩)
   | (go_at_call 152; (with_reducible refine (C6.out _ (HTB.out _ g6 hc6)).mono ?_); rintro e w7 ⟨v7, rfl, hv7, hf7, g7⟩))
 have HZ9 : Hid (w.heap.size ≤ w6.heap.size) := Lib.hid (by
  have h1 := g6.size
  have h2 : w1.drew.heap.size = w1.heap.size := rfl
  have h3 := HS9.out
  have h4 := HP.out
  omega)
 have HR7 := Lib.hid ((HRD.out.moved hc6 g6 HL2.out).kept g7)
 have HM7 := Lib.hid (((HM1.out.kept (Bt.drewN_below w1 1)).by_ g6 HRQ.out.2).kept g7)
 have HV7 := Lib.hid hv7
 have HF7 : Hid (Dd.Fresh w.heap.size v7) := Lib.hid (hf7.mono HZ9.out)
 have HB7 : Hid (∀ B, B ≤ r → B ≤ b → B ≤ w.heap.size → Below B w w7) := Lib.hid fun B h1 h2 h3 =>
  (HB0.out.mono h3).trans (((Bt.drewN_below w1 1).mono (Nat.le_trans h3 HB0.out.size)).trans ((Bk.below_of g6 h2 (Nat.le_trans h3 HB0.out.size)).trans (g7.mono (Nat.le_trans h3 HZ9.out))))
 have HZ7 : Hid (w.heap.size ≤ w7.heap.size) := Lib.hid (Nat.le_trans HZ9.out g7.size)
 obtain ⟨a7, c7, rfl, -⟩ := hv7
 have HRL : Hid (r < w.heap.size) := Lib.hid (by
  have h1 := HRQ.out.1
  have h2 := HM1.out.row.lt
  have h3 := HS9.out
  have h4 := HP.out
  omega)
 clear hc6 g6 g7 hf7 HRD HM1 HDW HHS HTB HR1 CT CL C6 HS9 HP HB0
 go_wp2_with fail
 with_reducible refine (CH.out _).mono ?_
 rintro e w8 ⟨p8, rfl, hp1, hp2, hp3, g8⟩
 have HM8 := Lib.hid (HM7.out.kept g8)
 have HR8 := Lib.hid (HR7.out.kept g8)
 have HV8 := Lib.hid (HV7.out.later g8)
 have HZ8 : Hid (w.heap.size ≤ w8.heap.size) := Lib.hid (Nat.le_trans HZ7.out g8.size)
 have HB8 : Hid (∀ B, B ≤ r → B ≤ b → B ≤ w.heap.size → Below B w w8) := Lib.hid fun B h1 h2 h3 => (HB7.out B h1 h2 h3).trans (g8.mono (Nat.le_trans h3 HZ7.out))
 have cr := Bk.rows_c i p8 _ A R w8 (HM8.out.dr A.length) hp3 hp2 H8.out
 clear g8 hp1 hp2 hp3 CH HR7 HM7 HV7 HB7 HZ7
 go_wp2_with fail
 with_reducible refine cr.mono ?_
 rintro e w9 ⟨hd, rfl, hO, g9⟩
 have HM9 := Lib.hid (HM8.out.kept g9)
 have HR9 := Lib.hid (HR8.out.kept g9)
 have HV9 := Lib.hid (HV8.out.later g9)
 have HZ9' : Hid (w.heap.size ≤ w9.heap.size) := Lib.hid (Nat.le_trans HZ8.out g9.size)
 have HB9 : Hid (∀ B, B ≤ r → B ≤ b → B ≤ w.heap.size → Below B w w9) := Lib.hid fun B h1 h2 h3 => (HB8.out B h1 h2 h3).trans (g9.mono (Nat.le_trans h3 HZ8.out))
 have HO := Lib.hid hO
 have hf := hO.form
 have HG0 := Lib.hid fun h => Bk.MidG.start (i := i) (R := R) (A := A) (vs := vs) h
 have hML := Bk.hl_len i R 0 A
 have HFL : Hid ((A.filter (Bk.has i)).length ≤ 8) := Lib.hid (Nat.le_trans (List.length_filter_le ..) H8.out)
 obtain ⟨m, hmm⟩ : ∃ m, m = (A.filter (Bk.has i)).length := ⟨_, rfl⟩
 rw [← hmm] at hML HG0 HFL HBADX HOKX
 generalize Bk.hl i R 0 A = M at hf hO HO hML HG0
 have HFM : Hid ((hd = .slice none 0 0 ∧ M = []) ∨ ∃ g c, hd = .slice (some ⟨g, 0, none⟩) M.length c ∧ w8.heap.size ≤ g ∧ g < w9.heap.size) := Lib.hid (hf.imp id fun ⟨g, c, h1, _, _, h2, h3⟩ => ⟨g, c, h1, h2, h3⟩)
 obtain ⟨ha, hc, rfl⟩ : ∃ ha hc, hd = .slice ha M.length hc := by
  rcases hf with ⟨rfl, rfl⟩ | ⟨g, c, rfl, _⟩
  ·exact ⟨none, 0, rfl⟩
  ·exact ⟨_, c, rfl⟩
 have HML := Lib.hid hML
 clear hf hO hML hmm g9 cr HM8 HR8 HV8 HB8
 by_cases hE : E = 0
 rotate_left
 ·have hEb : ((E : Int) != 0) = true := by rw [bne_iff_ne]; omega
  have HX := Lib.hid (HBADX.out fun h => hE h.1)
  obtain ⟨d0, d1, f0, f1⟩ := Dd.two HR9.out.box
  clear hE
  go_wp2
  go_end0
  exact ⟨rfl, by rw [HX.out]; exact HR9.out.marked true, by rw [HX.out]; exact HM9.out.same fun k hq _ => Below.heap_setCell _ _ _ _ (by show k ≠ r; have := HRQ.out.1; omega), fun B h1 h2 => Cl.below_cell (HB9.out B h1 h2 (by have := HRL.out; omega)) h1 _⟩
 subst hE
 simp only [Int.natCast_zero]
 by_cases hvl : vs.length = m
 rotate_left
 ·have hlb : ((vs.length : Int) != (M.length : Int)) = true := by rw [bne_iff_ne, HML.out]; omega
  have HX := Lib.hid (HBADX.out fun h => hvl h.2)
  obtain ⟨d0, d1, f0, f1⟩ := Dd.two HR9.out.box
  clear hvl
  go_wp2
  go_end0
  exact ⟨rfl, by rw [HX.out]; exact HR9.out.marked true, by rw [HX.out]; exact HM9.out.same fun k hq _ => Below.heap_setCell _ _ _ _ (by show k ≠ r; have := HRQ.out.1; omega), fun B h1 h2 => Cl.below_cell (HB9.out B h1 h2 (by have := HRL.out; omega)) h1 _⟩
 have hlb : ((vs.length : Int) != (M.length : Int)) = false := by rw [bne_eq_false_iff_eq, HML.out, hvl]
 have HX := Lib.hid (HOKX.out ⟨rfl, hvl⟩)
 have HG1 := Lib.hid (HG0.out hvl)
 have HVL : Hid (vs.length = M.length) := Lib.hid (by rw [HML.out, hvl])
 have HM8' : Hid (M.length ≤ 8) := Lib.hid (by rw [HML.out]; exact HFL.out)
 clear hvl HBADX HOKX HG0
 go_wp2_with fail
 clear hlb
 go_loopw [46] (fun i9 wr => ∃ (k j : Nat) (B : List Dd.D), i9 = .int .i64 k ∧ k ≤ M.length ∧ Bk.MidG i R A vs M B j k ∧ Bk.Mx q wr R B ∧ Bk.Wide wd B ∧ Bk.Btw q w.heap.size w9 wr) (fun i9 _ => M.length - (intOf i9).toNat)
 case atStart => exact ⟨0, 0, A, rfl, Nat.zero_le _, HG1.out, HM9.out, HW.out, Bk.Btw.refl _ _ _⟩
 case round =>
  obtain ⟨k, j, B, rfl, hk, hG, hMx, hWd, hB⟩ := hrel
  have HMX := Lib.hid hMx
  have HWD := Lib.hid hWd
  have HBT := Lib.hid hB
  by_cases hl : k < M.length
  ·obtain ⟨j', d, x, hBd, hh, hMk, hvx, hG'⟩ := hG.next _ _ _ rfl hl
   rcases HFM.out with ⟨h1, h2⟩ | ⟨gh, c9, h1, hg8, hg9⟩
   ·rw [h2] at hl
    simp at hl
   ·simp only [Value.slice.injEq, true_and] at h1
    obtain ⟨rfl, rfl⟩ := h1
    have c0 := HO.out.cell Bk.e1_len rfl hMk (j := 0) (by decide)
    rw [Nat.mul_one, Nat.add_zero] at c0
    have c0 := (World.cell?_of_block (a := ⟨gh, k, none⟩) (hB.block gh hg9 (.inr (Nat.le_trans HZ8.out hg8)))).trans c0
    obtain ⟨g, hRj, hqg, hrow⟩ := hMx.rows j' d hBd
    simp only [Bk.e1, hRj, Bk.sv, List.getElem?_cons_zero] at c0
    obtain ⟨hvn, b2, o2, ha7, hb2, hat⟩ := Bk.row_at (Bk.vals_btw HV9.out HF7.out hB) hvx
    have hil := Bk.wide_has HI.out.1 (hWd d (List.mem_of_getElem? hBd)) hh
    have hilt : (i : Int) < (d.row.length : Int) := by omega
    have r0 := hrow.c0 hil
    have r1 := hrow.c1 hil
    have r2 := hrow.c2 hil
    have f0 := World.rowIs.frozen hrow (i * 3)
    have f1 := World.rowIs.frozen hrow (i * 3 + 1)
    have f2 := World.rowIs.frozen hrow (i * 3 + 2)
    have e0 := hat.c0
    have e1 := hat.c1
    have e2 := hat.c2
    have hkl : (k : Int) < (M.length : Int) := by omega
    have hk0 : (0 : Int) ≤ (k : Int) := by omega
    have hk7 : (k : Int) ≤ 7 := by have := HM8'.out; omega
    have hkv : (k : Int) < (vs.length : Int) := by have := HVL.out; omega
    have HMX2 := Lib.hid (hMx.put hBd (by rw [hRj]) (i := i) x)
    have HWD2 := Lib.hid (Bk.wide_set (i := i) hWd hBd x)
    have hAd : ∃ d', A[j']? = some d' := ⟨_, List.getElem?_eq_getElem (by rw [← hG.len]; exact (List.getElem?_eq_some_iff.1 hBd).1)⟩
    obtain ⟨d', hAd⟩ := hAd
    have HGS : Hid (q < g ∧ g < w.heap.size) := Lib.hid ⟨hqg, HGL.out j' d' g hAd (by rw [hRj])⟩
    have HG' := Lib.hid hG'
    have HK := Lib.hid hl
    subst ha7
    clear hAd hG' hG hMx hWd hB hBd hh hMk hvx hRj hrow hat hl hk hvn hqg hb2 hil
    go_wp2
    go_roundw
    case rel => exact ⟨k + 1, j' + 1, _, by simp, HK.out, HG'.out, HMX2.out, HWD2.out, ((HBT.out.set HGS.out.1 HGS.out.2 _ _).set HGS.out.1 HGS.out.2 _ _).set HGS.out.1 HGS.out.2 _ _⟩
    case measure => (have := HK.out; simp [intOf]; omega)
  ·obtain rfl : k = M.length := by omega
   have hkl : ¬ (M.length : Int) < (M.length : Int) := by omega
   have HD := Lib.hid (hG.done rfl)
   clear hk hl hG hMx hWd hB
   go_wp2
   go_end0
   exact ⟨rfl, by rw [HX.out]; exact HR9.out.btw HBT.out HRQ.out.1 HRQ.out.2, by rw [HX.out]; show Bk.Mx q _ R (Bk.give i A vs); rw [HD.out]; exact HMX.out, fun B' h1 h2 => (HB9.out B' h1 h2 (by have := HRL.out; omega)).trans (HBT.out.below (by have := HRQ.out.1; omega) (Nat.le_trans (by have := HRL.out; omega) HZ9'.out))⟩
end
section
open Go.RowKit
def Bk.df (L : List Dd.D) (R : Nat → Value) (i : Nat) : Value := if i % 2 = 0 then .bool (L.getD (i / 2) Bk.nod).gone else R (i / 2)
structure Bk.St (base q : Nat) (w : World) (R : Nat → Value) (L : List Dd.D) : Prop where
 row : w.rowIs q 41 (L.length * 2) (Bk.df L R)
 own : ∀ i x, L[i]? = some x → Cl.Own base w (R i) x.row
 sep : ∀ i j b, i < L.length → j < L.length → i ≠ j → (R i).ownBlock = some b → (R j).ownBlock ≠ some b
 lt : q < base
 le : base ≤ w.heap.size
variable {base q : Nat} {w w' : World} {R : Nat → Value} {L : List Dd.D}
theorem Bk.St.cells (h : Bk.St base q w R L) {k : Nat} {d : Dd.D} (hk : L[k]? = some d) : w.cell? ⟨q, k * 2, none⟩ = some (.bool d.gone) ∧ w.cell? ⟨q, k * 2 + 1, none⟩ = some (R k) ∧ w.frozen? ⟨q, k * 2, none⟩ = false ∧ w.frozen? ⟨q, k * 2 + 1, none⟩ = false := by
 have hl := (List.getElem?_eq_some_iff.1 hk).1
 refine ⟨?_, ?_, h.row.frozen _, h.row.frozen _⟩
 ·rw [h.row.cell (by omega)]
  unfold Bk.df
  rw [if_pos (by omega), show k * 2 / 2 = k by omega, List.getD_eq_getElem?_getD, hk]
  rfl
 ·rw [h.row.cell (by omega)]
  unfold Bk.df
  rw [if_neg (by omega), show (k * 2 + 1) / 2 = k by omega]
theorem Bk.St.ob {i : Nat} {x : Dd.D} (h : Bk.St base q w R L) (hi : L[i]? = some x) : ∀ b, (R i).ownBlock = some b → base ≤ b ∧ b < w.heap.size := fun b hb => World.ownsRow.lt (h.own i x hi) b hb
theorem Bk.St.same (h : Bk.St base q w R L) (hs : w.heap.size ≤ w'.heap.size) (g : ∀ b, (b = q ∨ base ≤ b) → b < w.heap.size → w'.heap[b]? = w.heap[b]?) : Bk.St base q w' R L := by
 refine ⟨h.row.of_block (g q (.inl rfl) h.row.lt), fun i x hx => ?_, h.sep, h.lt, Nat.le_trans h.le hs⟩
 have ho := h.own i x hx
 refine ⟨ho.1, ?_⟩
 rcases ho.2 with hn | ⟨b, cap, cur, e, hbb, hgg, rest⟩
 ·exact .inl hn
 ·exact .inr ⟨b, cap, cur, e, hbb, by rw [g b (.inr hbb) (lt_of_block hgg)]; exact hgg, rest⟩
theorem Bk.St.kept (h : Bk.St base q w R L) (g : Below w.heap.size w w') : Bk.St base q w' R L := h.same g.size fun b _ hb => g.block b hb
theorem Bk.St.by_ {r : Nat} (h : Bk.St base q w R L) (g : w.grownBy w' (some r)) (hr : r < base) (hq : q ≠ r) : Bk.St base q w' R L :=
 h.same g.size fun b hb hbs => g.block b hbs (fun e => by
  have := Option.some.inj e
  rcases hb with rfl | hb <;> omega)
theorem Bk.St.alloc (h : Bk.St base q w R L) (o : Obj) : Bk.St base q (w.alloc o) R L := h.kept ((Below.refl _ w).alloc (Nat.le_refl _) o)
theorem Bk.St.ds (h : Bk.St base q w R L) (hl : L.length ≤ 8) (c : Nat) (hc : c = L.length) : Bk.Ds w (.slice (some ⟨q, 0, none⟩) L.length c) L := by
 subst hc
 refine ⟨_, L.length, rfl, Nat.le_refl _, by omega, .inr ⟨q, 0, rfl, h.row.lt, fun i x hx => ?_⟩⟩
 obtain ⟨c0, c1, _⟩ := h.cells hx
 rw [Nat.zero_add]
 exact ⟨R i, c0, c1, (h.own i x hx).vals⟩
theorem Bk.St.grow (h : Bk.St base q w R L) {k : Nat} {d : Dd.D} (hk : L[k]? = some d) {x : Kn.V} {v' : Value} (ho : Cl.Own base w' v' (d.row ++ [x])) (g : Ty.Grew w w' (R k) v') :
 Bk.St base q (w'.setCell ⟨q, k * 2 + 1, none⟩ v') (fun i => if i = k then v' else R i) (L.set k ⟨d.gone, d.row ++ [x]⟩) := by
 have hl := (List.getElem?_eq_some_iff.1 hk).1
 have hqk : ∀ b, (R k).ownBlock = some b → b ≠ q := fun b hb => by have := (h.ob hk b hb).1; have := h.lt; omega
 have hrow : w'.rowIs q 41 (L.length * 2) (Bk.df L R) := h.row.of_block (g.by_.block q h.row.lt (fun e => hqk q e.symm rfl))
 have hset : ∀ b, b ≠ q → (w'.setCell ⟨q, k * 2 + 1, none⟩ v').heap[b]? = w'.heap[b]? := fun b hb => Below.heap_setCell _ _ _ _ hb
 have hown : ∀ b, base ≤ b → b ≠ q := fun b hb => by have := h.lt; omega
 refine ⟨?_, fun i y hy => ?_, fun i j b hi hj hij hb => ?_, h.lt, by have := h.le; have := g.by_.size; simp only [World.setCell, Array.size_modify]; omega⟩
 ·rw [List.length_set]
  refine (World.rowIs.set hrow (k * 2 + 1) v').congr fun i hi => ?_
  unfold Bk.df
  by_cases e : i = k * 2 + 1
  ·subst e
   rw [if_pos rfl, if_neg (by omega)]
   dsimp only
   rw [if_pos (by omega)]
  ·rw [if_neg e]
   by_cases e2 : i % 2 = 0
   ·rw [if_pos e2, if_pos e2]
    congr 1
    simp only [List.getD_eq_getElem?_getD, List.getElem?_set]
    by_cases e3 : k = i / 2
    ·rw [if_pos e3, if_pos (by omega), ← e3, hk]
     rfl
    ·rw [if_neg e3]
   ·rw [if_neg e2, if_neg e2]
    dsimp only
    rw [if_neg (by omega)]
 ·rw [List.getElem?_set] at hy
  by_cases e : k = i
  ·subst e
   rw [if_pos rfl, if_pos hl] at hy
   obtain rfl := Option.some.inj hy
   rw [if_pos rfl]
   refine ⟨ho.1, ?_⟩
   rcases ho.2 with hn | ⟨b, cap, cur, e, hbb, hgg, rest⟩
   ·exact .inl hn
   ·exact .inr ⟨b, cap, cur, e, hbb, by rw [hset b (hown b hbb)]; exact hgg, rest⟩
  ·rw [if_neg e] at hy
   rw [if_neg (fun e2 => e e2.symm)]
   have hio := h.own i y hy
   refine ⟨hio.1, ?_⟩
   rcases hio.2 with hn | ⟨b, cap, cur, e4, hbb, hgg, rest⟩
   ·exact .inl hn
   ·have hob : (R i).ownBlock = some b := by rw [e4]; rfl
    have hil := (List.getElem?_eq_some_iff.1 hy).1
    refine .inr ⟨b, cap, cur, e4, hbb, ?_, rest⟩
    rw [hset b (hown b hbb), g.by_.block b (lt_of_block hgg) (fun e5 => h.sep i k b hil hl (fun e6 => e e6.symm) hob e5.symm)]
    exact hgg
 ·rw [List.length_set] at hi hj
  have hnew : ∀ (m : Nat) (c : Nat), m < L.length → m ≠ k → (R m).ownBlock = some c → v'.ownBlock ≠ some c := fun m c hm hmk hc hv => by
   have hml := List.getElem?_eq_getElem hm
   rcases g.own with e | ⟨n, e, hn⟩
   ·rw [e] at hv
    exact h.sep m k c hm hl hmk hc hv
   ·rw [e] at hv
    have := (h.ob hml c hc).2
    have := Option.some.inj hv
    omega
  by_cases ei : i = k
  ·have ej : j ≠ k := fun e => hij (ei.trans e.symm)
   simp only [if_pos ei] at hb
   simp only [if_neg ej]
   intro hc
   exact hnew j b hj ej hc hb
  ·by_cases ej : j = k
   ·simp only [if_neg ei] at hb
    simp only [if_pos ej]
    exact hnew i b hi ei hb
   ·simp only [if_neg ei] at hb
    simp only [if_neg ej]
    exact h.sep i j b hi hj hij hb
end
section
open Go.RowKit
def Bk.ve (v : Kn.V) : List Value := [.bool v.null, .int .i64 v.n, .string v.s]
end
section
open Go.RowKit
open Ty (num txt)
open Ig (rest)
def Bk.Got (w : World) (r : Nat × List Dd.D) (e : Ending) (w' : World) : Prop :=
 ∃ v, e = .returned (.tuple #[v, .int .i64 ((r.1 : Nat) : Int)]) ∧ Bk.Ds w' v r.2 ∧ Below w.heap.size w w'
theorem Bk.Got.bad {w w' : World} {r : Nat × List Dd.D} {z : Int} {q : Nat} (hr : r = (q, [])) (hz : z = (q : Int)) (g : Below w.heap.size w w') : Bk.Got w r (.returned (.tuple #[.slice none 0 0, .int .i64 z])) w' :=
 ⟨_, by rw [hr, hz], by rw [hr]; exact ⟨none, 0, rfl, Nat.le_refl _, by decide, .inl rfl⟩, g⟩
theorem Bk.Got.good {w w' : World} {r : Nat × List Dd.D} {v : Value} {L : List Dd.D} (hr : r = (0, L)) (h : Bk.Ds w' v L) (g : Below w.heap.size w w') : Bk.Got w r (.returned (.tuple #[v, .int .i64 0])) w' :=
 ⟨v, by rw [hr]; rfl, by rw [hr]; exact h, g⟩
theorem Bk.run_make (n : Nat) (hn : n ≤ 8) (w : World) : (Instr.makeSlice 23 (.int .u64 (n : Int)) (.int .u64 (n : Int))).run Tryz.prog w = .ok (.slice (some ⟨w.heap.size, 0, none⟩) n n) (w.alloc (.cells (madeCells #[.bool false, .slice none 0 0] (n * 2)) 41)) := by
 obtain ⟨i0, hi, hz0, hz1, hz2⟩ := info_parts (show (Tryz.prog.info? 41).map (fun i => (i.zero, i.size, i.bytes)) = some (some (.agg #[.bool false, .slice none 0 0]), 2, 32) by kernel_rfl)
 have := Go.run_make (P := Tryz.prog) w 23 41 i0 _ Tryz.underlying23 hi hz0 .u64 .u64 n n (by omega) (Int.le_refl _) (by rw [hz2]; omega) (by omega)
 rw [hz1, Int.toNat_natCast] at this
 exact this
theorem Bk.rd_zs {c : Kn.C} {l : List UInt8} (h : (Cl.rd c l).1 = 0) : ∀ v ∈ (Cl.rd c l).2, Kn.Z v := fun v hv => by
 obtain ⟨h1, _, _, _⟩ := Cl.enc_rd h
 have ha : (Cl.rd c l).2.all (Cl.is c) = true := by
  unfold Cl.wE at h1
  by_cases hg : c.good = true
  ·rw [if_pos hg] at h1
   by_cases hl : 65536 < (Cl.rd c l).2.length
   ·rw [if_pos hl] at h1; cases h1
   ·rw [if_neg hl] at h1
    by_cases ha : (Cl.rd c l).2.all (Cl.is c) = true
    ·exact ha
    ·rw [if_neg ha] at h1; cases h1
  ·rw [if_neg hg] at h1; cases h1
 have hi := List.all_eq_true.1 ha v hv
 unfold Kn.Z
 cases hn : v.null
 ·by_cases hk : c.k = 1
  ·rw [Cl.is_num hk hi hn]
   exact Nat.zero_le _
  ·have := (Cl.is_str hk hi hn).2
   rw [Bt.length_data] at this
   omega
 ·rw [(Cl.is_null hi hn).1]
  exact Nat.zero_le _
end
section
open Go.RowKit
open Ty (num txt)
theorem Bk.stC_len (c : Kn.C) (i : Nat) (A : List Dd.D) (s : Dd.St) : (Bk.stC c i A s).1.length = A.length := by
 unfold Bk.stC
 split
 ·exact Bk.give_len i A _
 ·rfl
theorem Bk.stC_wide {c : Kn.C} {i w : Nat} {A : List Dd.D} {s : Dd.St} (h : Bk.Wide w A) : Bk.Wide w (Bk.stC c i A s).1 := by
 unfold Bk.stC
 split
 ·exact Bk.give_wide i w A _ h
 ·exact h
theorem Bk.give_zs (i : Nat) : ∀ (L : List Dd.D) (vs : List Kn.V), Bk.Zs L → (∀ v ∈ vs, Kn.Z v) → Bk.Zs (Bk.give i L vs)
 | [], _, _, _ => fun d hd => by cases hd
 | x :: L, vs, h, hv => fun d hd v hvd => by
   have hx := h x (List.mem_cons_self ..)
   have hL : Bk.Zs L := fun y hy => h y (List.mem_cons_of_mem _ hy)
   unfold Bk.give at hd
   split at hd
   ·rcases List.mem_cons.1 hd with rfl | hd
    ·rcases List.mem_or_eq_of_mem_set hvd with h1 | h1
     ·exact hx v h1
     ·subst h1
      cases vs with
      | nil => unfold Kn.Z; exact Nat.zero_le _
      | cons y vs => exact hv y (List.mem_cons_self ..)
    ·exact Bk.give_zs i L _ hL (fun y hy => hv y (List.mem_of_mem_tail hy)) d hd v hvd
   ·rcases List.mem_cons.1 hd with rfl | hd
    ·exact hx v hvd
    ·exact Bk.give_zs i L _ hL hv d hd v hvd
theorem Bk.stC_zs {c : Kn.C} {i : Nat} {A : List Dd.D} {s : Dd.St} (h : Bk.Zs A) : Bk.Zs (Bk.stC c i A s).1 := by
 unfold Bk.stC
 split
 ·rename_i hk
  exact Bk.give_zs i A _ h (Bk.rd_zs hk.1)
 ·exact h
theorem Bk.stD_next {j : Nat} {s : List Kn.C} {c : Kn.C} (h : s[j]? = some c) (A : List Dd.D) (st : Dd.St) : Bk.stD j (s.drop j) A st = Bk.stD (j + 1) (s.drop (j + 1)) (Bk.stC c j A st).1 (Bk.stC c j A st).2 := by
 obtain ⟨hj, rfl⟩ := List.getElem?_eq_some_iff.1 h
 rw [List.drop_eq_getElem_cons hj]
 rfl
theorem Bk.stD_end {j : Nat} {s : List Kn.C} (h : j = s.length) (A : List Dd.D) (st : Dd.St) : Bk.stD j (s.drop j) A st = (A, st) := by
 rw [h, List.drop_length]
 rfl
def Bk.zk (w n : Nat) (b : UInt8) (k : Nat) : List Dd.D := (List.range n).map fun i => if i < k then ⟨b.toNat.testBit i, List.replicate (Bk.wdt w (b.toNat.testBit i)) (Cl.ofN 0)⟩ else Bk.nod
theorem Bk.zk_len (w n : Nat) (b : UInt8) (k : Nat) : (Bk.zk w n b k).length = n := by unfold Bk.zk; simp
theorem Bk.zk_zero (w n : Nat) (b : UInt8) : Bk.zk w n b 0 = (List.range n).map fun _ => Bk.nod := by unfold Bk.zk; simp
theorem Bk.zk_step {w n : Nat} (b : UInt8) {j : Nat} (h : j < n) : (Bk.zk w n b j).set j ⟨b.toNat.testBit j, List.replicate (Bk.wdt w (b.toNat.testBit j)) (Cl.ofN 0)⟩ = Bk.zk w n b (j + 1) := by
 refine List.ext_getElem? fun i => ?_
 rw [List.getElem?_set, Bk.zk_len]
 by_cases hi : i < n
 ·by_cases e : j = i
  ·subst e
   rw [if_pos rfl, if_pos hi]
   unfold Bk.zk
   rw [List.getElem?_map, List.getElem?_range hi, Option.map_some, if_pos (by omega)]
  ·rw [if_neg e]
   unfold Bk.zk
   rw [List.getElem?_map, List.getElem?_map, List.getElem?_range hi, Option.map_some, Option.map_some]
   by_cases e2 : i < j
   ·rw [if_pos e2, if_pos (by omega)]
   ·rw [if_neg e2, if_neg (by omega)]
 ·have h1 : (Bk.zk w n b j)[i]? = none := List.getElem?_eq_none (by rw [Bk.zk_len]; omega)
  have h2 : (Bk.zk w n b (j + 1))[i]? = none := List.getElem?_eq_none (by rw [Bk.zk_len]; omega)
  rw [if_neg (by omega), h1, h2]
theorem Bk.zk_done (w n : Nat) (b : UInt8) : Bk.zk w n b n = Bk.zero w n b := by
 unfold Bk.zk Bk.zero
 refine List.map_congr_left fun i hi => ?_
 rw [if_pos (List.mem_range.1 hi)]
theorem Bk.zero_zs (w n : Nat) (b : UInt8) : Bk.Zs (Bk.zero w n b) := fun d hd v hv => by
 unfold Bk.zero at hd
 obtain ⟨i, _, rfl⟩ := List.mem_map.1 hd
 rw [List.eq_of_mem_replicate hv]
 unfold Kn.Z
 exact Nat.zero_le _
structure Bk.Pm (q k : Nat) (w : World) (R : Nat → Option Addr × Nat × Nat) (A : List Dd.D) : Prop where
 row : w.rowIs q 41 (A.length * 2) (Bk.mx A R)
 rows : ∀ j d, j < k → A[j]? = some d → ∃ g, R j = (some ⟨g, 0, none⟩, d.row.length, d.row.length) ∧ q < g ∧ Cl.Row w g d.row.length (fun k => d.row.getD k Cl.nul)
 sep : ∀ j l, j < k → l < k → j < A.length → l < A.length → j ≠ l → ∀ g, (R j).1 = some ⟨g, 0, none⟩ → (R l).1 ≠ some ⟨g, 0, none⟩
theorem Bk.Pm.done {q k : Nat} {w : World} {R : Nat → Option Addr × Nat × Nat} {A : List Dd.D} (h : Bk.Pm q k w R A) (hk : k = A.length) : Bk.Mx q w R A :=
 ⟨h.row, fun j d hd => h.rows j d (by rw [hk]; exact (List.getElem?_eq_some_iff.1 hd).1) hd, fun j l hj hl hn => h.sep j l (by omega) (by omega) hj hl hn⟩
theorem Bk.Pm.made (w : World) (n : Nat) : Bk.Pm w.heap.size 0 (w.alloc (.cells (madeCells #[.bool false, .slice none 0 0] (n * 2)) 41)) (fun _ => (none, 0, 0)) ((List.range n).map fun _ => Bk.nod) := by
 have hl : ((List.range n).map fun _ => Bk.nod).length = n := by simp
 refine ⟨?_, fun j d hj => by omega, fun j l hj => by omega⟩
 rw [hl]
 refine ⟨_, Go.Deep.blk_alloc_new _ _, size_madeCells _ _, fun i hi => ?_⟩
 unfold madeCells
 rw [Array.getElem?_map, Array.getElem?_range, if_pos hi]
 unfold Bk.mx
 have hg : (((List.range n).map fun _ => Bk.nod).getD (i / 2) Bk.nod).gone = false := by
  rw [List.getD_eq_getElem?_getD, List.getElem?_map, List.getElem?_range (by omega)]
  rfl
 rw [hg]
 have h2 : i % 2 = 0 ∨ i % 2 = 1 := by omega
 rcases h2 with h | h <;> simp [h, Bk.sv]
theorem Bk.Pm.step {q k : Nat} {w : World} {R : Nat → Option Addr × Nat × Nat} {A : List Dd.D} (h : Bk.Pm q k w R A) (hk : k < A.length) (gd : Bool) (m : Nat) :
 Bk.Pm q (k + 1) (((w.alloc (.cells (madeCells #[.bool false, .int .i64 0, .string ⟨#[]⟩] (m * 3)) 33)).setCell ⟨q, k * 2, none⟩ (.bool gd)).setCell ⟨q, k * 2 + 1, none⟩ (.slice (some ⟨w.heap.size, 0, none⟩) m m))
  (fun i => if i = k then (some ⟨w.heap.size, 0, none⟩, m, m) else R i) (A.set k ⟨gd, List.replicate m (Cl.ofN 0)⟩) := by
 have hq := h.row.lt
 have hal : Below w.heap.size w (w.alloc (.cells (madeCells #[.bool false, .int .i64 0, .string ⟨#[]⟩] (m * 3)) 33)) := (Below.refl _ _).alloc (Nat.le_refl _) _
 have hnew := Cl.Row.made w m
 have hrow := h.row.of_block (hal.block q hq)
 generalize w.alloc (.cells (madeCells #[.bool false, .int .i64 0, .string ⟨#[]⟩] (m * 3)) 33) = w1 at hal hnew hrow ⊢
 have hoth : ∀ g, g ≠ q → ((w1.setCell ⟨q, k * 2, none⟩ (.bool gd)).setCell ⟨q, k * 2 + 1, none⟩ (.slice (some ⟨w.heap.size, 0, none⟩) m m)).heap[g]? = w1.heap[g]? := fun g hg =>
  (Below.heap_setCell _ _ _ _ hg).trans (Below.heap_setCell _ _ _ _ hg)
 refine ⟨?_, fun j d hj hd => ?_, fun j l hj hl hja hla hn g hg => ?_⟩
 ·rw [List.length_set]
  refine World.rowIs.congr (World.rowIs.set (World.rowIs.set hrow (k * 2) (.bool gd)) (k * 2 + 1) (.slice (some ⟨w.heap.size, 0, none⟩) m m)) fun i hi => ?_
  unfold Bk.mx
  by_cases e : i = k * 2 + 1
  ·subst e
   rw [if_pos rfl, if_neg (by omega)]
   dsimp only
   rw [if_pos (by omega)]
   rfl
  ·rw [if_neg e]
   by_cases e1 : i = k * 2
   ·subst e1
    rw [if_pos rfl, if_pos (by omega), show k * 2 / 2 = k by omega, List.getD_eq_getElem?_getD, List.getElem?_set_self hk]
    rfl
   ·rw [if_neg e1]
    by_cases e2 : i % 2 = 0
    ·rw [if_pos e2, if_pos e2]
     simp only [List.getD_eq_getElem?_getD, List.getElem?_set]
     rw [if_neg (by omega)]
    ·rw [if_neg e2, if_neg e2]
     dsimp only
     rw [if_neg (by omega)]
 ·rw [List.getElem?_set] at hd
  by_cases e : k = j
  ·subst e
   rw [if_pos rfl, if_pos hk] at hd
   obtain rfl := Option.some.inj hd
   refine ⟨w.heap.size, by simp only [if_pos, List.length_replicate], hq, ?_⟩
   simp only [List.length_replicate]
   refine Cl.Row.congr (World.rowIs.of_block hnew (hoth _ (by omega))) fun i hi => ?_
   rw [List.getD_eq_getElem?_getD, List.getElem?_replicate, if_pos hi]
   rfl
  ·rw [if_neg e] at hd
   obtain ⟨g, f1, f2, f3⟩ := h.rows j d (by omega) hd
   refine ⟨g, by simp only [if_neg (show ¬ j = k by omega)]; exact f1, f2, ?_⟩
   exact World.rowIs.of_block f3 ((hoth g (by omega)).trans (hal.block g f3.lt))
 ·rw [List.length_set] at hja hla
  have hold : ∀ i, i < k → ∀ g, (R i).1 = some ⟨g, 0, none⟩ → i < A.length → g < w.heap.size := fun i hi g hg hia => by
   obtain ⟨g', f1, _, f3⟩ := h.rows i A[i] hi (List.getElem?_eq_getElem hia)
   rw [f1] at hg
   obtain rfl : g' = g := by simpa using hg
   exact f3.lt
  by_cases ej : j = k
  ·simp only [if_pos ej, Option.some.injEq, Addr.mk.injEq, and_true] at hg
   simp only [if_neg (show ¬ l = k by omega)]
   intro h2
   have := hold l (by omega) g h2 hla
   omega
  ·simp only [if_neg ej] at hg
   by_cases el : l = k
   ·simp only [if_pos el]
    intro h2
    simp only [Option.some.injEq, Addr.mk.injEq, and_true] at h2
    have := hold j (by omega) g hg hja
    omega
   ·simp only [if_neg el]
    exact h.sep j l (by omega) (by omega) hja hla hn g hg
theorem Bk.Pm.lt {q k : Nat} {w : World} {R : Nat → Option Addr × Nat × Nat} {A : List Dd.D} (h : Bk.Pm q k w R A) : q < w.heap.size := h.row.lt
theorem Bk.run_makeD (n : Nat) (hn : n ≤ 8) (w : World) : (Instr.makeSlice 23 (.int .i64 (n : Int)) (.int .i64 (n : Int))).run Tryz.prog w = .ok (.slice (some ⟨w.heap.size, 0, none⟩) n n) (w.alloc (.cells (madeCells #[.bool false, .slice none 0 0] (n * 2)) 41)) := by
 obtain ⟨i0, hi, hz0, hz1, hz2⟩ := info_parts (show (Tryz.prog.info? 41).map (fun i => (i.zero, i.size, i.bytes)) = some (some (.agg #[.bool false, .slice none 0 0]), 2, 32) by kernel_rfl)
 have := Go.run_make (P := Tryz.prog) w 23 41 i0 _ Tryz.underlying23 hi hz0 .i64 .i64 n n (by omega) (Int.le_refl _) (by rw [hz2]; omega) (by omega)
 rw [hz1, Int.toNat_natCast] at this
 exact this
theorem Bk.run_makeR (n : Nat) (hn : n ≤ 8) (w : World) : (Instr.makeSlice 39 (.int .i64 (n : Int)) (.int .i64 (n : Int))).run Tryz.prog w = .ok (.slice (some ⟨w.heap.size, 0, none⟩) n n) (w.alloc (.cells (madeCells #[.bool false, .int .i64 0, .string ⟨#[]⟩] (n * 3)) 33)) := by
 obtain ⟨i0, hi, hz0, hz1, hz2⟩ := info_parts Cl.infoV
 have := Go.run_make (P := Tryz.prog) w 39 33 i0 _ Tryz.underlying39 hi hz0 .i64 .i64 n n (by omega) (Int.le_refl _) (by rw [hz2]; omega) (by omega)
 rw [hz1, Int.toNat_natCast] at this
 exact this
def Bk.Dsd (r b : Nat) (w0 : World) (X : List Dd.D × Dd.St) (e : Ending) (w' : World) : Prop :=
 ∃ q R, e = .returned (.slice (some ⟨q, 0, none⟩) X.1.length X.1.length) ∧ Bk.Rdr r b w' X.2 ∧ Bk.Mx q w' R X.1 ∧ Below w0.heap.size w0 w' ∧ w0.heap.size ≤ q
end
section
open Go.RowKit
open Ty (num txt)
set_option maxHeartbeats 8000000 in
set_option maxRecDepth 100000 in
theorem Bk.deeds_c (r b : Nat) (st : Dd.St) (vs : Value) (s : List Kn.C) (w0 w : World) (h : Bk.Rdr r b w st) (hs : Kn.Cols w0 vs s) (hw : Below w0.heap.size w0 w) (hr : w0.heap.size ≤ r) (hb : w0.heap.size ≤ b) (hl : 1 ≤ s.length ∧ s.length ≤ 6) (hn : (Bk.stG st).1 ≤ 8) :
 Calls Tryz.prog 114 #[.pointer (some ⟨r, 0, none⟩), vs] w (Bk.Dsd r b w0 (Bk.stD 0 s (Bk.zero s.length (Bk.stG st).1 (Bk.stG st).2.1) (Bk.stG st).2.2)) := by
 obtain ⟨X, hX⟩ : ∃ X, X = Bk.stD 0 s (Bk.zero s.length (Bk.stG st).1 (Bk.stG st).2.1) (Bk.stG st).2.2 := ⟨_, rfl⟩
 rw [← hX]
 have HX := Lib.hid hX
 have HS := Lib.hid hs
 have HL := Lib.hid hl
 have HRB := Lib.hid (And.intro hr hb)
 have HW := Lib.hid hw
 have cf := Bk.rflags_c r b st w h
 have CWD := Lib.hid fun (g : Bool) (wz : World) (hz : Kn.Cols wz vs s) => Bk.width_c vs s g wz hz
 obtain ⟨sa, sc, rfl, hsc⟩ := hs
 have HSC := Lib.hid hsc
 unfold Bk.Flg at cf
 clear hX hl hsc h
 generalize Bk.stG st = G at cf hn HX
 obtain ⟨n, b8, s1⟩ := G
 simp only at cf hn HX
 have hmk := Bk.run_makeD n hn
 have HN := Lib.hid hn
 go_enter Tryz.func114, Tryz.ntmps114
 go_wp2_with fail
 with_reducible refine cf.mono ?_
 rintro e w1 ⟨u, rfl, hSl, hR1, hB1⟩
 have HB1 := Lib.hid (HW.out.trans (hB1 _ HRB.out.1 HRB.out.2 HW.out.size))
 have HR1 := Lib.hid hR1
 obtain ⟨ua, uc, rfl, hua⟩ := hSl
 have HUA := Lib.hid hua
 clear cf hR1 hB1 hua hw hr hb
 go_wp2_with fail
 have hP := Bk.Pm.made w1 n
 rw [← Bk.zk_zero s.length n b8] at hP
 have hal : Below w1.heap.size w1 (w1.alloc (.cells (madeCells #[.bool false, .slice none 0 0] (n * 2)) 41)) := (Below.refl _ w1).alloc (Nat.le_refl _) _
 generalize w1.alloc _ = w2 at hP hal ⊢
 obtain ⟨q, hq⟩ : ∃ q, q = w1.heap.size := ⟨_, rfl⟩
 rw [← hq] at hP ⊢
 have HQ : Hid (r < q ∧ b < q ∧ w0.heap.size ≤ q) := Lib.hid (by have h1 := HR1.out.lt; have h2 := HB1.out.size; rw [hq]; exact ⟨h1.1, h1.2, h2⟩)
 have HP := Lib.hid hP
 have HAL : Hid (Below q w1 w2) := Lib.hid (by rw [hq]; exact hal)
 have HQE := Lib.hid hq
 clear hmk hP hal hq hn
 go_loopw [17] (fun i wr => ∃ (k : Nat) (R : Nat → Option Addr × Nat × Nat), k ≤ n ∧ i = .int .i64 k ∧ Bk.Pm q k wr R (Bk.zk s.length n b8 k) ∧ Below q w1 wr) (fun i _ => n - (intOf i).toNat)
 case atStart => exact ⟨0, _, Nat.zero_le _, rfl, HP.out, HAL.out⟩
 case round =>
  obtain ⟨k, R, hk, rfl, hP, hB⟩ := hrel
  have HPk := Lib.hid hP
  have HB := Lib.hid hB
  clear hP hB
  by_cases hkn : k < n
  ·rcases HUA.out with h0 | ⟨gb, go, rfl, hgb, hc⟩
   ·omega
   ·have c0 : w1.cell? ⟨gb, go + k, none⟩ = some (.bool (b8.toNat.testBit k)) := hc k hkn
    have hgq : gb < q := by rw [HQE.out]; exact hgb
    have hwr : q ≤ wr.heap.size := Nat.le_of_lt HPk.out.lt
    have hkl : (k : Int) < (n : Int) := by omega
    have hk0 : (0 : Int) ≤ (k : Int) := by omega
    have hk7 : (k : Int) ≤ 7 := by have := HN.out; omega
    have HPD : Hid (Bk.Pm q k wr.drew R (Bk.zk s.length n b8 k)) := Lib.hid ⟨HPk.out.row, HPk.out.rows, HPk.out.sep⟩
    have HPS := Lib.hid (HPk.out.step (show k < (Bk.zk s.length n b8 k).length by rw [Bk.zk_len]; exact hkn) (b8.toNat.testBit k) (Bk.wdt s.length (b8.toNat.testBit k)))
    rw [Bk.zk_step b8 hkn] at HPS
    have hz := HPk.out.row
    rw [Bk.zk_len] at hz
    have q0 := hz.cell (show k * 2 < n * 2 by omega)
    have q1 := hz.cell (show k * 2 + 1 < n * 2 by omega)
    have z0 := hz.frozen (k * 2)
    have z1 := hz.frozen (k * 2 + 1)
    have HQ0 : Hid (∀ W, Below wr.heap.size wr W → ∃ x y, W.cell? ⟨q, k * 2, none⟩ = some x ∧ W.cell? ⟨q, k * 2 + 1, none⟩ = some y ∧ W.frozen? ⟨q, k * 2, none⟩ = false ∧ W.frozen? ⟨q, k * 2 + 1, none⟩ = false) := Lib.hid fun W g =>
     ⟨_, _, (g.cell (p := ⟨q, k * 2, none⟩) HPk.out.lt).trans q0, (g.cell (p := ⟨q, k * 2 + 1, none⟩) HPk.out.lt).trans q1, (g.frozen (p := ⟨q, k * 2, none⟩) HPk.out.lt).trans z0, (g.frozen (p := ⟨q, k * 2 + 1, none⟩) HPk.out.lt).trans z1⟩
    have c1 := (HB.out.cell (p := ⟨gb, go + k, none⟩) hgq).trans c0
    have CW2 := Lib.hid fun (wz : World) (hz : Kn.Cols wz (.slice sa s.length sc) s) => CWD.out (b8.toNat.testBit k) wz hz
    have hmk := Bk.run_makeR (Bk.wdt s.length (b8.toNat.testBit k)) (by unfold Bk.wdt; have := HL.out; split <;> omega)
    have hwd : Bk.wd s (b8.toNat.testBit k) = Bk.wdt s.length (b8.toNat.testBit k) := rfl
    rw [hwd] at CW2
    generalize Bk.wdt s.length (b8.toNat.testBit k) = m at HPS CW2 hmk
    generalize b8.toNat.testBit k = gd at c0 c1 HPS CW2
    have HDW : Hid (Below wr.heap.size wr wr.drew) := Lib.hid (Bt.drewN_below wr 1)
    have HSD : Hid (Kn.Cols wr.drew (.slice sa s.length sc) s) := Lib.hid (HS.out.later ((HB1.out.trans (HB.out.mono HQ.out.2.2)).trans (HDW.out.mono (by have := HQ.out.2.2; omega))))
    have HK := Lib.hid hkn
    have HBD : Hid (Below q w1 wr.drew) := Lib.hid (HB.out.trans (HDW.out.mono hwr))
    have HHS : Hid (∀ W, Below q w1 W → W.cell? ⟨gb, go + k, none⟩ = some (.bool gd)) := Lib.hid fun W g => (g.cell (p := ⟨gb, go + k, none⟩) hgq).trans c0
    have HBC : Hid (Below q w1 (wr.alloc (.cells (madeCells #[.bool false, .int .i64 0, .string ⟨#[]⟩] (m * 3)) 33))) := Lib.hid (HB.out.alloc hwr _)
    obtain ⟨x, y, q0, q1, z0, z1⟩ := HQ0.out (wr.alloc (.cells (madeCells #[.bool false, .int .i64 0, .string ⟨#[]⟩] (m * 3)) 33)) ((Below.refl _ _).alloc (Nat.le_refl _) _)
    have y0 : (wr.alloc (.cells (madeCells #[.bool false, .int .i64 0, .string ⟨#[]⟩] (m * 3)) 33)).drew.cell? ⟨q, k * 2, none⟩ = some x := q0
    have y1 : (wr.alloc (.cells (madeCells #[.bool false, .int .i64 0, .string ⟨#[]⟩] (m * 3)) 33)).drew.cell? ⟨q, k * 2 + 1, none⟩ = some y := q1
    have y2 : (wr.alloc (.cells (madeCells #[.bool false, .int .i64 0, .string ⟨#[]⟩] (m * 3)) 33)).drew.frozen? ⟨q, k * 2, none⟩ = false := z0
    have y3 : (wr.alloc (.cells (madeCells #[.bool false, .int .i64 0, .string ⟨#[]⟩] (m * 3)) 33)).drew.frozen? ⟨q, k * 2 + 1, none⟩ = false := z1
    have HBS : Hid (Below q w1 (((wr.alloc (.cells (madeCells #[.bool false, .int .i64 0, .string ⟨#[]⟩] (m * 3)) 33)).setCell ⟨q, k * 2, none⟩ (.bool gd)).setCell ⟨q, k * 2 + 1, none⟩ (.slice (some ⟨wr.heap.size, 0, none⟩) m m)).drew) := Lib.hid (Cl.below_cell (Cl.below_cell HBC.out (Nat.le_refl _) _) (Nat.le_refl _) _).drew
    have HPR : Hid (Bk.Pm q (k + 1) (((wr.alloc (.cells (madeCells #[.bool false, .int .i64 0, .string ⟨#[]⟩] (m * 3)) 33)).setCell ⟨q, k * 2, none⟩ (.bool gd)).setCell ⟨q, k * 2 + 1, none⟩ (.slice (some ⟨wr.heap.size, 0, none⟩) m m)).drew _ (Bk.zk s.length n b8 (k + 1))) := Lib.hid ⟨HPS.out.row, HPS.out.rows, HPS.out.sep⟩
    clear c0 hz hwd hc hk hkn HPk HB HPD HQ0 HDW hwr
    go_upto_region 6 with (fail)
    have d1 := HHS.out _ HBD.out
    have d2 := HHS.out _ HBC.out
    go_region_law (first
     | (go_simp; go_at_call 139; (with_reducible refine (CW2.out _ HSD.out).mono ?_); rintro e w5 ⟨rfl, rfl⟩))
    all_goals
     go_wp2
     go_roundw
     case rel => exact ⟨k + 1, _, HK.out, by simp, HPR.out, HBS.out⟩
     case measure => (have := HK.out; simp [intOf]; omega)
  ·obtain rfl : k = n := by omega
   have hkl : ¬ (k : Int) < (k : Int) := by omega
   have HMX := Lib.hid (HPk.out.done (Bk.zk_len ..).symm)
   rw [Bk.zk_done] at HMX
   have HAl : Hid ((Bk.zero s.length k b8).length = k) := Lib.hid (Bk.zero_len ..)
   have HAw := Lib.hid (Bk.zero_wide s.length k b8)
   have HBw := Lib.hid (HB1.out.trans (HB.out.mono HQ.out.2.2))
   have HRw : Hid (Bk.Rdr r b wr s1) := Lib.hid (HR1.out.same (Nat.le_trans (by rw [← HQE.out]; exact Nat.le_refl _) (Nat.le_of_lt HPk.out.lt)) (fun j hj => HB.out.block j (by have := HR1.out.gr; have := HQ.out.1; omega)) (HB.out.block r HQ.out.1) (HB.out.block b HQ.out.2.1))
   generalize Bk.zero s.length k b8 = A0 at HMX HAl HAw HX
   clear hkn hk HPk
   go_wp2_with fail
   clear hkl
   go_loopw [38] (fun i wr2 => ∃ (j : Nat) (A : List Dd.D) (t : Dd.St), j ≤ s.length ∧ i = .int .i64 j ∧ Bk.stD 0 s A0 s1 = Bk.stD j (s.drop j) A t ∧ Bk.Rdr r b wr2 t ∧ Bk.Mx q wr2 R A ∧ A.length = k ∧ Bk.Wide s.length A ∧ Below w0.heap.size w0 wr2) (fun i _ => s.length - (intOf i).toNat)
   case atStart => exact ⟨0, A0, s1, Nat.zero_le _, rfl, rfl, HRw.out, HMX.out, HAl.out, HAw.out, HBw.out⟩
   case round =>
    obtain ⟨j, A, t, hj, rfl, hD, hR, hM, hA, hAw, hB⟩ := hrel
    have HD := Lib.hid hD
    have HR2 := Lib.hid hR
    have HM2 := Lib.hid hM
    have HA := Lib.hid hA
    have HW2 := Lib.hid hAw
    have HB2 := Lib.hid hB
    clear hD hR hM hA hAw hB HRw HMX HBw
    by_cases hjl : j < s.length
    ·rcases HSC.out with rfl | ⟨b9, o9, rfl, hbl, hm9, hc9⟩
     ·simp at hjl
     ·have hx := List.getElem?_eq_getElem hjl
      generalize s[j] = cc at hx
      have c0 := (HB2.out.cell (p := ⟨b9, o9 + j * 2, none⟩) hbl).trans (hc9 j cc hx).1
      have c1 := (HB2.out.cell (p := ⟨b9, o9 + j * 2 + 1, none⟩) hbl).trans (hc9 j cc hx).2
      have dj : (j : Int) < (s.length : Int) := by omega
      have dj0 : (0 : Int) ≤ (j : Int) := by omega
      have dj6 : (j : Int) ≤ 6 := by have := HL.out; omega
      have HN2 := Lib.hid (HD.out.trans (Bk.stD_next hx A t))
      have CC := Lib.hid fun (wz : World) (h1 : Bk.Rdr r b wz t) (h2 : Bk.Mx q wz R A) => Bk.column_c r b q t cc A j s.length R wz h1 h2 (by rw [HA.out]; exact HN.out) HW2.out hjl HL.out.2 HQ.out.1 HQ.out.2.1
      have HSL : Hid ((Bk.stC cc j A t).1.length = k) := Lib.hid ((Bk.stC_len ..).trans HA.out)
      have HSW := Lib.hid (Bk.stC_wide (c := cc) (i := j) (s := t) HW2.out)
      rw [HA.out] at CC
      unfold Bk.Cld Kn.C.val at CC
      generalize Bk.stC cc j A t = Y at CC HN2 HSL HSW
      generalize cc.k = ck at c0 CC
      generalize cc.null = cn at c1 CC
      have HK := Lib.hid hjl
      clear hc9 hm9 hx hjl hj hbl
      go_upto_region 11 with (fail)
      have HBX : Hid (Below wr.heap.size wr (wr.alloc (.cells #[.int .i64 ck, .bool cn] 76))) := Lib.hid ((Below.refl _ _).alloc (Nat.le_refl _) _)
      have x0 := Kn.cell_new wr #[.int .i64 ck, .bool cn] 76 0 _ rfl
      have x1 := Kn.cell_new wr #[.int .i64 ck, .bool cn] 76 1 _ rfl
      simp only [List.getElem_toArray, List.getElem_cons_zero, List.getElem_cons_succ] at x0 x1
      obtain ⟨p, hp⟩ : ∃ p, p = wr.heap.size := ⟨_, rfl⟩
      rw [← hp] at x0 x1 ⊢
      generalize wr.alloc _ = w8 at HBX x0 x1 ⊢
      have cc8 := CC.out w8 (HR2.out.kept HBX.out) (HM2.out.kept HBX.out)
      have HB8 := Lib.hid (HB2.out.trans (HBX.out.mono HB2.out.size))
      clear hp c0 c1
      go_wp2_with fail
      with_reducible refine cc8.mono ?_
      rintro e w9 ⟨rfl, hR9, hM9, hB9⟩
      have HR9 := Lib.hid hR9
      have HM9 := Lib.hid hM9
      have HB9 := Lib.hid (HB8.out.trans (hB9 _ HRB.out.1 HRB.out.2))
      clear cc8 hR9 hM9 hB9 x0 x1
      go_wp2
      go_roundw
      case rel => exact ⟨j + 1, Y.1, Y.2, HK.out, by simp, HN2.out, HR9.out, HM9.out, HSL.out, HSW.out, HB9.out⟩
      case measure => (have := HK.out; simp [intOf]; omega)
    ·obtain rfl : j = s.length := by omega
     have dj : ¬ (s.length : Int) < (s.length : Int) := by omega
     have HE := Lib.hid (HX.out.trans (HD.out.trans (Bk.stD_end rfl A t)))
     clear hj hjl
     go_wp2
     go_ret
     exact ⟨q, R, by rw [HE.out]; show _ = Ending.returned (.slice (some ⟨q, 0, none⟩) A.length A.length); rw [HA.out]; rfl, by rw [HE.out]; exact HR2.out, by rw [HE.out]; exact HM2.out, HB2.out, HQ.out.2.2⟩
end
end Go.Proofs.YtbelkhkllneifaaGreatDoor
