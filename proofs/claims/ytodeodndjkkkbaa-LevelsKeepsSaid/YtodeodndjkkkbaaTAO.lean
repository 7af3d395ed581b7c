import Derived.Test.YtodeodndjkkkbaaTAN
import Derived.Deep.RegionHeld3
import Derived.Deep.OwnRows
import Derived.Test.YtodeodndjkkkbaaTAM
import Derived.Test.YtodeodndjkkkbaaTAB
import Derived.Test.YtodeodndjkkkbaaTAJ
import Derived.Laws.BitsAllLaws
import Derived.Deep.RegionWith
import Derived.BigQuiet
import Derived.Test.YtodeodndjkkkbaaTAH
import Derived.Laws.Rows
import Derived.Laws.ResultCell
import Derived.Test.YtodeodndjkkkbaaTAA
import Derived.Deep.DeepCutAuto
import Derived.Test.YtodeodndjkkkbaaRows
import Derived.Test.YtodeodndjkkkbaaLay
import Derived.WalkKit
import Derived.WalkSpells
import Derived.WalkLawsBesides
import Derived.Lib.QuietBelow
namespace Go.Proofs.Ytodeodndjkkkbaa
section
open Go.RowKit
open Ig (nth sg rest rd rdBody rdInts acc)
open Ty (num)
def Ig.ofK (K : Nat) (M : List Int) : List Int := if K = 0 then M else acc 0 M
def Ig.LoopR (K n : Nat) (l : List UInt8) (j : Nat) (M2 : List Int) (l2 : List UInt8) (er : Nat) : Prop :=
 (er = 0 ∧ ∃ M, Ig.Mid n l j M l2 ∧ M2 = Ig.ofK K M) ∨ (er ≠ 0 ∧ (rdInts n l).1 = er ∧ j ≤ n)
theorem Ig.LoopR.start (K n : Nat) (l : List UInt8) : Ig.LoopR K n l 0 [] l 0 := .inl ⟨rfl, [], ⟨rfl, by omega, Nat.le_refl _, by simp⟩, by unfold Ig.ofK; split <;> rfl⟩
theorem Ig.LoopR.step {K n : Nat} {l : List UInt8} {j : Nat} {M : List Int} {l2 : List UInt8} (hM : Ig.Mid n l j M l2) (hj : j < n) {M3 : List Int} (h3 : M3 = Ig.ofK K (M ++ [sg l2])) : Ig.LoopR K n l (j + 1) M3 (rest l2) (num l2).2.2 := by
 by_cases h : (num l2).2.2 = 0
 ·exact .inl ⟨h, _, hM.next hj h, h3⟩
 ·exact .inr ⟨h, hM.fail hj h, by omega⟩
end
section
open Go.RowKit
open Ty (encU num txt)
open Tx (restT rdWords rdPick outs)
open Ig (un)
def Tx.mark (X : Nat → Nat) (k j : Nat) : Bool := (List.range k).any fun i => X i == j
end
section
open Go.RowKit
open Ty (encU num txt)
open Tx (rdPick)
end
section
open Go.RowKit
open Ty (encU num txt)
open Tx (rdPick outs)
def Tx.mv (X : Nat → Nat) (k j : Nat) : Value := .bool (Tx.mark X k j)
end
section
open Go.RowKit
open Ty (num txt)
open Ig (rest)
open Tx (rdWords rdPick rdBody rd)
def Tx.Got (w : World) (r : Nat × List Tx.Str) (e : Ending) (w' : World) : Prop :=
 ∃ v, e = .returned (.tuple #[v, .int .i64 ((r.1 : Nat) : Int)]) ∧ Tx.At w'.heap.size w' v r.2 ∧ Below w.heap.size w w'
theorem Tx.Got.good {w w' : World} {r : Nat × List Tx.Str} {v : Value} {L : List Tx.Str} (hr : r = (0, L)) (h : Tx.At w'.heap.size w' v L) (g : Below w.heap.size w w') : Tx.Got w r (.returned (.tuple #[v, .int .i64 0])) w' :=
 ⟨v, by rw [hr]; rfl, by rw [hr]; exact h, g⟩
section
variable {x : UInt8} {r : List UInt8}
end
section
variable {n : Nat} {l : List UInt8}
end
end
section
open Go.RowKit
end
section
open Go.RowKit
def Cl.wS (c : Kn.C) (l : List Kn.V) : List UInt8 := if Cl.wE c l = 0 then Cl.enc c l else []
def Cl.wV (c : Kn.C) (l : List Kn.V) : Value := .tuple #[.string (Ty.S (Cl.wS c l)), .int .i64 ((Cl.wE c l : Nat) : Int)]
end
section
open Go.RowKit
open Tx (encT)
def Bk.wS (s : List Kn.C) (L : List Dd.D) : List UInt8 := if Bk.wE s L = 0 then Bk.enc s L else []
def Bk.wV (s : List Kn.C) (L : List Dd.D) : Value := .tuple #[.string (Ty.S (Bk.wS s L)), .int .i64 (Bk.wE s L)]
end
section
open Go.RowKit
open Tx (encT)
def Bk.pre (s : List Kn.C) (L : List Dd.D) (k : Nat) : List UInt8 := Ty.encU L.length ++ (Bk.bools L ++ Bk.encC 0 (s.take k) L)
end
section
open Go.RowKit
def Fr.at4 (s : ByteArray) : Nat := Fr.val (s.data.toList.take 4)
end
section
open Go.RowKit
def Rn.pre (s : List Kn.C) (L : List Dd.D) (k : Nat) : List UInt8 := ((List.range k).map (Rn.bk L)).flatMap fun b => Fr.frm (Bk.enc s b)
def Rn.ipre (s : List Kn.C) (L : List Dd.D) (k : Nat) : List UInt8 := Ty.encU (Rn.nb L.length) ++ ((List.range k).map (Rn.bk L)).flatMap fun b => Ty.encU (Fr.frm (Bk.enc s b)).length
end
section
open Go.RowKit
abbrev Zn.cs (z : Zn.Zo) : Array Value := #[.bool z.nulls, .bool z.values, .bool z.lo.null, .int .i64 z.lo.n, .string z.lo.s, .bool z.hi.null, .int .i64 z.hi.n, .string z.hi.s]
def Zn.put (w : World) (q : Nat) (z : Zn.Zo) : World := (((((((w.setCell ⟨q, 0, none⟩ (.bool z.nulls)).setCell ⟨q, 1, none⟩ (.bool z.values)).setCell ⟨q, 2, none⟩ (.bool z.lo.null)).setCell ⟨q, 3, none⟩ (.int .i64 z.lo.n)).setCell ⟨q, 4, none⟩ (.string z.lo.s)).setCell ⟨q, 5, none⟩ (.bool z.hi.null)).setCell ⟨q, 6, none⟩ (.int .i64 z.hi.n)).setCell ⟨q, 7, none⟩ (.string z.hi.s)
abbrev Zn.acs (a : Zn.As) : Array Value := #[.int .i64 a.op, .int .i64 a.col, .bool a.v.null, .int .i64 a.v.n, .string a.v.s]
structure Zn.ABlk (w : World) (q : Nat) (a : Zn.As) : Prop where
 c0 : w.cell? ⟨q, 0, none⟩ = some (.int .i64 a.op)
 c1 : w.cell? ⟨q, 1, none⟩ = some (.int .i64 a.col)
 c2 : w.cell? ⟨q, 2, none⟩ = some (.bool a.v.null)
 c3 : w.cell? ⟨q, 3, none⟩ = some (.int .i64 a.v.n)
 c4 : w.cell? ⟨q, 4, none⟩ = some (.string a.v.s)
theorem Zn.ABlk.lt {w : World} {q : Nat} {a : Zn.As} (h : Zn.ABlk w q a) : q < w.heap.size := World.block_lt_of_cell? w _ h.c0
theorem Zn.ABlk.kept {w w' : World} {q : Nat} {a : Zn.As} (h : Zn.ABlk w q a) (g : Below w.heap.size w w') : Zn.ABlk w' q a :=
 ⟨(g.cell (p := ⟨q, 0, none⟩) h.lt).trans h.c0, (g.cell (p := ⟨q, 1, none⟩) h.lt).trans h.c1, (g.cell (p := ⟨q, 2, none⟩) h.lt).trans h.c2, (g.cell (p := ⟨q, 3, none⟩) h.lt).trans h.c3, (g.cell (p := ⟨q, 4, none⟩) h.lt).trans h.c4⟩
theorem Zn.ABlk.new (w : World) (a : Zn.As) (t : TypeId) : Zn.ABlk (w.alloc (.cells (Zn.acs a) t)) w.heap.size a :=
 ⟨Kn.cell_new w _ t 0 _ rfl, Kn.cell_new w _ t 1 _ rfl, Kn.cell_new w _ t 2 _ rfl, Kn.cell_new w _ t 3 _ rfl, Kn.cell_new w _ t 4 _ rfl⟩
end
section
open Go.RowKit
theorem Kn.Cols.alloc {w : World} {v : Value} {l : List Kn.C} (h : Kn.Cols w v l) (x : Obj) : Kn.Cols (w.alloc x) v l := h.later ((Below.refl _ w).alloc (Nat.le_refl _) x)
theorem Kn.Vals.alloc {w : World} {v : Value} {l : List Kn.V} (h : Kn.Vals w v l) (x : Obj) : Kn.Vals (w.alloc x) v l := h.later ((Below.refl _ w).alloc (Nat.le_refl _) x)
end
section
open Go.RowKit
end
section
open Go.RowKit
theorem Zn.ops (x : Int) : x = 0 ∨ x = 4 ∨ x = 5 ∨ x = 1 ∨ x = 2 ∨ x = 3 ∨ ((x == 0) = false ∧ (x == 1) = false ∧ (x == 2) = false ∧ (x == 3) = false ∧ (x == 4) = false ∧ (x == 5) = false ∧ x ≠ 0 ∧ x ≠ 1 ∧ x ≠ 2 ∧ x ≠ 3 ∧ x ≠ 4 ∧ x ≠ 5) := by
 simp only [beq_eq_false_iff_ne]
 omega
end
section
open Go.RowKit
theorem Zn.results_cell {fn : Func} {p : Tmp} {ty : TypeId} (h : fn.results = #[.cell p ty]) (tmps : Array Value) (P : Program) (w : World) :
 (results fn tmps).run P w = ((asAddr (tmps.getD p undef)).run P w).andThen fun a w1 => (loadVar ty a).run P w1 := by
 simp only [results, h]
 simp [Sem.run_bind, Result.andThen]
end
section
open Go.RowKit
end
section
open Go.RowKit Go.Shelf
end
section
open Go.RowKit
theorem Zn.grow {w w' : World} (h : Below w.heap.size w w') {w'' : World} (g : Below w'.heap.size w' w'') : Below w.heap.size w w'' := h.trans (g.mono h.size)
end
section
open Go.RowKit
end
section
open Go.RowKit
end
section
open Go.RowKit
end
section
open Go.RowKit
end
section
open Go.RowKit
end
section
open Go.RowKit
end
section
open Go Go.RowKit Go.Lib Go.Sort
theorem Lv.boxed2 (w : World) (a b : Mf.P) : Mf.PA ((w.alloc (.cells (Mf.cs a) 38)).alloc (.cells (Mf.cs b) 38)) w.heap.size 0 a ∧ Mf.PA ((w.alloc (.cells (Mf.cs a) 38)).alloc (.cells (Mf.cs b) 38)) (w.heap.size + 1) 0 b ∧ Below w.heap.size w ((w.alloc (.cells (Mf.cs a) 38)).alloc (.cells (Mf.cs b) 38)) := by
 refine ⟨(Mf.PA.new w a 38).kept ((Below.refl _ _).alloc (Nat.le_refl _) _), ?_, ((Below.refl _ w).alloc (Nat.le_refl _) _).alloc (by simp) _⟩
 have := Mf.PA.new (w.alloc (.cells (Mf.cs a) 38)) b 38
 rwa [World.size_alloc] at this
set_option maxHeartbeats 1000000 in
set_option maxRecDepth 100000 in
theorem Lv.overlap_c (a b : Mf.P) (ha : Lv.Zp a) (hb : Lv.Zp b) (w : World) : Calls Try.prog 25 #[.agg (Mf.cs a), .agg (Mf.cs b)] w fun e w' => e = .returned (.bool (Lv.ov a b)) ∧ Below w.heap.size w w' := by
 have C1 := fun (W : World) => Kn.rAhead_c a.hi b.lo ha.2 hb.1 W
 have C2 := fun (W : World) => Kn.rAhead_c b.hi a.lo hb.2 ha.1 W
 have hov : Lv.ov a b = (!(decide (Kn.cmp a.hi b.lo < 0)) && !(decide (Kn.cmp b.hi a.lo < 0))) := by
  unfold Lv.ov
  have e : ∀ z : Int, decide (0 ≤ z) = !(decide (z < 0)) := fun z => by
   by_cases h : 0 ≤ z
   ·rw [decide_eq_true h, decide_eq_false (show ¬ z < 0 by omega)]; rfl
   ·rw [decide_eq_false h, decide_eq_true (show z < 0 by omega)]; rfl
  rw [e, e]
 rw [hov]
 generalize decide (Kn.cmp a.hi b.lo < 0) = z1 at C1 ⊢
 generalize decide (Kn.cmp b.hi a.lo < 0) = z2 at C2 ⊢
 obtain ⟨hA, hB, hb⟩ := Lv.boxed2 w a b
 have HA := Lib.hid hA
 have HB := Lib.hid hB
 have HBL := Lib.hid hb
 clear ha hb hov hA hB
 obtain ⟨ai, al, ⟨aln, ali, als⟩, ⟨ahn, ahi, ahs⟩⟩ := a
 obtain ⟨bi, bl, ⟨bln, bli, bls⟩, ⟨bhn, bhi, bhs⟩⟩ := b
 simp only [Mf.cs] at HA HB HBL
 unfold Kn.V.val at C1 C2
 simp only at C1 C2
 have HC1 := Lib.hid C1
 have HC2 := Lib.hid C2
 clear C1 C2
 go_enter Try.func25, Try.ntmps25
 go_upto_region 1 with (fail)
 generalize World.alloc _ _ = wo at HA HB HBL ⊢
 obtain ⟨a0, a1, a2, a3, a4, a5, a6, a7⟩ := HA.out
 obtain ⟨b0, b1, b2, b3, b4, b5, b6, b7⟩ := HB.out
 simp only [Nat.zero_add] at a0 a1 a2 a3 a4 a5 a6 a7 b0 b1 b2 b3 b4 b5 b6 b7
 go_wp2_with fail
 refine (HC1.out _).mono ?_
 rintro e w1 ⟨rfl, g1⟩
 have HBL1 := Lib.hid (HBL.out.trans (g1.mono HBL.out.size))
 obtain ⟨a0, a1, a2, a3, a4, a5, a6, a7⟩ := HA.out.kept g1
 obtain ⟨b0, b1, b2, b3, b4, b5, b6, b7⟩ := HB.out.kept g1
 simp only [Nat.zero_add] at a0 a1 a2 a3 a4 a5 a6 a7 b0 b1 b2 b3 b4 b5 b6 b7
 clear g1
 cases z1
 ·go_wp2_with fail
  refine (HC2.out _).mono ?_
  rintro e w2 ⟨rfl, g2⟩
  have HBL2 := Lib.hid (HBL1.out.trans (g2.mono HBL1.out.size))
  clear g2
  go_wp2
  go_ret
  exact ⟨rfl, HBL2.out⟩
 ·go_wp2
  go_ret
  exact ⟨rfl, HBL1.out⟩
def Lv.UN (L : List Mf.P) : Prop := L.Pairwise fun x y => x.id ≠ y.id
instance (L : List Mf.P) : Decidable (Lv.UN L) := by unfold Lv.UN; infer_instance
theorem Lv.un_step {L : List Mf.P} {k : Nat} {x : Mf.P} (h : L[k]? = some x) (hu : Lv.UN (L.take k)) (hx : ∀ (j : Nat) (y : Mf.P), j < k → L[j]? = some y → ¬ x.id = y.id) : Lv.UN (L.take (k + 1)) := by
 obtain ⟨hk, rfl⟩ := List.getElem?_eq_some_iff.1 h
 unfold Lv.UN at *
 rw [List.take_succ_eq_append_getElem hk, List.pairwise_append]
 refine ⟨hu, List.pairwise_singleton _ _, fun y hy z hz => ?_⟩
 obtain rfl := List.mem_singleton.1 hz
 obtain ⟨j, hj, rfl⟩ := List.getElem_of_mem hy
 rw [List.length_take] at hj
 rw [List.getElem_take]
 exact fun e => hx j _ (by omega) (List.getElem?_eq_getElem (by omega)) e.symm
theorem Lv.un_no {L : List Mf.P} {j k : Nat} {x y : Mf.P} (hjk : j < k) (h : L[k]? = some x) (hj : L[j]? = some y) (he : x.id = y.id) : ¬ Lv.UN L := fun hu => by
 unfold Lv.UN at hu
 rw [List.pairwise_iff_getElem] at hu
 obtain ⟨hk, rfl⟩ := List.getElem?_eq_some_iff.1 h
 obtain ⟨hj2, rfl⟩ := List.getElem?_eq_some_iff.1 hj
 exact hu j k hj2 hk hjk he.symm
set_option maxHeartbeats 1000000 in
set_option maxRecDepth 100000 in
theorem Lv.unlike_c (v : Value) (L : List Mf.P) (w : World) (hL : Mf.Ps w v L) (hl : L.length ≤ 80) :
 Calls Try.prog 22 #[v] w fun e w' => e = .returned (.bool (decide (Lv.UN L))) ∧ Below w.heap.size w w' := by
 have HPS := Lib.hid hL
 have HL := Lib.hid hl
 obtain ⟨a, c, rfl, -⟩ := hL.form
 generalize hD : decide (Lv.UN L) = D
 have HD := Lib.hid hD
 clear hL hl hD
 go_enter Try.func22, Try.ntmps22
 go_wp2_with fail
 go_loopw [3] (fun i wr => ∃ (k : Nat), k ≤ L.length ∧ i = .int .i64 (k : Int) ∧ Lv.UN (L.take k) ∧ Below w.heap.size w wr) (fun i _ => L.length - (intOf i).toNat)
 case atStart => exact ⟨0, Nat.zero_le _, rfl, List.Pairwise.nil, Below.refl _ _⟩
 case round =>
  obtain ⟨wo, hwo⟩ : ∃ wo, wo = wr := ⟨_, rfl⟩
  subst hwo
  obtain ⟨k, hk, rfl, hu, hB⟩ := hrel
  have HU := Lib.hid hu
  have HB := Lib.hid hB
  have hk0 : (0 : Int) ≤ (k : Int) := by omega
  have hk9 : (k : Int) ≤ 80 := by have := HL.out; omega
  by_cases hkl : k < L.length
  ·have hki : (k : Int) < (L.length : Int) := by omega
   have hx := List.getElem?_eq_getElem hkl
   generalize L[k] = x at hx
   have HX := Lib.hid hx
   have HKL := Lib.hid hkl
   clear hk hkl hu hB hx
   go_wp2
   go_loopw [4] (fun i wr => ∃ (j : Nat), j ≤ k ∧ i = .int .i64 (j : Int) ∧ (∀ (m : Nat) (y : Mf.P), m < j → L[m]? = some y → ¬ x.id = y.id) ∧ Below w.heap.size w wr) (fun i _ => k - (intOf i).toNat)
   case atStart => exact ⟨0, Nat.zero_le _, rfl, fun m y hm => absurd hm (Nat.not_lt_zero _), HB.out⟩
   case round =>
    obtain ⟨j, hj, rfl, hno, hB⟩ := hrel
    have HB2 := Lib.hid hB
    have HNO := Lib.hid hno
    have hj0 : (0 : Int) ≤ (j : Int) := by omega
    have hj9 : (j : Int) ≤ 80 := by omega
    by_cases hjk : j < k
    ·have hji : (j : Int) < (k : Int) := by omega
     have hjl : (j : Int) < (L.length : Int) := by omega
     have hy := List.getElem?_eq_getElem (show j < L.length by have := HKL.out; omega)
     generalize L[j]'(by have := HKL.out; omega) = y at hy
     have HY := Lib.hid hy
     obtain ⟨b, o, rfl, hPA⟩ := (HPS.out.kept hB).at_ HX.out
     obtain ⟨b2, o2, e2, hPB⟩ := (HPS.out.kept hB).at_ hy
     simp only [Option.some.injEq, Addr.mk.injEq, and_true] at e2
     obtain ⟨rfl, rfl⟩ := e2
     have HJK := Lib.hid hjk
     have c0 := hPA.c0
     have d0 := hPB.c0
     clear hPA hPB hj hjk hno hB hy
     by_cases he : x.id = y.id
     ·have hb : (x.id == y.id) = true := beq_iff_eq.2 he
      have hD : decide (Lv.UN L) = false := decide_eq_false (Lv.un_no HJK.out HX.out HY.out he)
      have HDD := Lib.hid (HD.out.symm.trans hD)
      clear he hD
      go_upto_region 7 with (fail)
      go_quiet (fail)
      go_wp2
      go_ret
      exact ⟨by rw [HDD.out]; rfl, Kn.below_drewN HB2.out _⟩
     ·have hb : (x.id == y.id) = false := beq_eq_false_iff_ne.2 he
      have HE := Lib.hid he
      clear he
      go_upto_region 7 with (fail)
      go_quiet (fail)
      go_wp2
      go_roundw
      case rel => exact ⟨j + 1, HJK.out, by simp, fun m y' hm hy' => by
       rcases Nat.lt_or_eq_of_le (Nat.le_of_lt_succ hm) with h | rfl
       ·exact HNO.out m y' h hy'
       ·rw [HY.out] at hy'
        cases hy'
        exact HE.out, Kn.below_drewN HB2.out _⟩
      case measure => (have := HJK.out; simp [intOf]; omega)
    ·obtain rfl : j = k := by omega
     have hji : ¬ (j : Int) < (j : Int) := by omega
     have HUN := Lib.hid (Lv.un_step HX.out HU.out fun m y hm hy => HNO.out m y hm hy)
     clear hj hjk hno hB
     go_wp2
     go_roundw
     case rel => exact ⟨j + 1, HKL.out, by simp, HUN.out, HB2.out⟩
     case measure => (have := HKL.out; simp [intOf]; omega)
  ·have hki : ¬ (k : Int) < (L.length : Int) := by omega
   obtain rfl : k = L.length := by omega
   rw [List.take_length] at hu
   have HDD := Lib.hid (HD.out.symm.trans (decide_eq_true hu))
   clear hk hkl hu hB
   go_wp2
   go_ret
   exact ⟨by rw [HDD.out]; rfl, HB.out⟩
set_option maxHeartbeats 1000000 in
set_option maxRecDepth 100000 in
theorem Lv.well_c (v : Value) (L : List Mf.P) (w : World) (hL : Mf.Ps w v L) (hl : L.length ≤ 1000) (hz : ∀ p ∈ L, Lv.Zp p) :
 Calls Try.prog 27 #[v] w fun e w' => e = .returned (.bool (L.all fun p => Lv.ov p p)) ∧ Below w.heap.size w w' := by
 have HPS := Lib.hid hL
 have HL := Lib.hid hl
 have HZ := Lib.hid hz
 obtain ⟨a, c, rfl, -⟩ := hL.form
 generalize hD : (L.all fun p => Lv.ov p p) = D
 have HD := Lib.hid hD
 clear hL hl hD hz
 go_enter Try.func27, Try.ntmps27
 go_wp2_with fail
 go_loopw [3] (fun i wr => ∃ (k : Nat), k ≤ L.length ∧ i = .int .i64 (k : Int) ∧ ((L.take k).all fun p => Lv.ov p p) = true ∧ Below w.heap.size w wr) (fun i _ => L.length - (intOf i).toNat)
 case atStart => exact ⟨0, Nat.zero_le _, rfl, rfl, Below.refl _ _⟩
 case round =>
  obtain ⟨k, hk, rfl, hu, hB⟩ := hrel
  have HU := Lib.hid hu
  have HB := Lib.hid hB
  have hk0 : (0 : Int) ≤ (k : Int) := by omega
  have hk9 : (k : Int) ≤ 1000 := by have := HL.out; omega
  by_cases hkl : k < L.length
  ·have hki : (k : Int) < (L.length : Int) := by omega
   have hx := List.getElem?_eq_getElem hkl
   have HST : Hid (((L.take (k + 1)).all fun p => Lv.ov p p) = Lv.ov L[k] L[k]) := Lib.hid (by rw [List.take_succ_eq_append_getElem hkl, List.all_append, hu]; simp)
   generalize L[k] = x at hx HST
   have hzx := HZ.out x (List.mem_of_getElem? hx)
   have HX := Lib.hid hx
   have HKL := Lib.hid hkl
   obtain ⟨b, o, rfl, hPA⟩ := (HPS.out.kept hB).at_ hx
   have CA : Hid (∀ p : Regrown, _) := Lib.hid fun p : Regrown => Calls.regrown_of (d := p.d) (os := p.os) (w := wr) (Lv.overlap_c x x hzx hzx _)
   have HNO : Hid (Lv.ov x x = false → D = false) := Lib.hid fun h => by
    rw [← HD.out]
    cases hc : (L.all fun p => Lv.ov p p)
    ·rfl
    ·have := List.all_eq_true.1 hc x (List.mem_of_getElem? hx)
     rw [h] at this
     cases this
   obtain ⟨i, l, ⟨an, ai, sa⟩, ⟨bn, bi, sb⟩⟩ := x
   obtain ⟨c0, c1, c2, c3, c4, c5, c6, c7⟩ := hPA
   simp only [Mf.cs] at c0 c1 c2 c3 c4 c5 c6 c7 CA
   generalize Lv.ov ⟨i, l, ⟨an, ai, sa⟩, ⟨bn, bi, sb⟩⟩ ⟨i, l, ⟨an, ai, sa⟩, ⟨bn, bi, sb⟩⟩ = B at CA HST HNO
   clear hk hkl hu hB hx hzx
   have C0 := fun d os => cell_regrown c0 d os
   have C1 := fun d os => cell_regrown c1 d os
   have C2 := fun d os => cell_regrown c2 d os
   have C3 := fun d os => cell_regrown c3 d os
   have C4 := fun d os => cell_regrown c4 d os
   have C5 := fun d os => cell_regrown c5 d os
   have C6 := fun d os => cell_regrown c6 d os
   have C7 := fun d os => cell_regrown c7 d os
   go_upto_region 4 with (fail)
   clear c0 c1 c2 c3 c4 c5 c6 c7
   refine wp_region_quiet_below (by kernel_rfl) (by kernel_rfl) ?_
   repeat (go_big_quiet_step (first | with_reducible exact CA.out _))
   refine wpQuiet_nil ?_
   intro w5 hw'
   have HB5 := Lib.hid (HB.out.trans ((Bk.below_reg hw').mono HB.out.size))
   clear hw' C0 C1 C2 C3 C4 C5 C6 C7 CA
   cases B
   ·have HDD := Lib.hid (HNO.out rfl)
    go_wp2
    go_ret
    exact ⟨by rw [HDD.out]; rfl, HB5.out⟩
   ·go_wp2
    go_roundw
    case rel => exact ⟨k + 1, HKL.out, by simp, HST.out, HB5.out⟩
    case measure => (have := HKL.out; simp [intOf]; omega)
  ·have hki : ¬ (k : Int) < (L.length : Int) := by omega
   obtain rfl : k = L.length := by omega
   rw [List.take_length] at hu
   have HDD := Lib.hid (HD.out.symm.trans hu)
   clear hk hkl hu hB
   go_wp2
   go_ret
   exact ⟨by rw [HDD.out]; rfl, HB.out⟩
end
end Go.Proofs.Ytodeodndjkkkbaa
