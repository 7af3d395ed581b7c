import Derived.Test.YtkhiemkekmdhgaaDoorZDAJ
import Derived.OrdersHeld
import Derived.Deep.RegionHeld3
import Derived.Test.YtkhiemkekmdhgaaDoorZDAA
import Derived.Lib.AtoiTie
import Derived.Lib.Strings
import Derived.Test.YtkhiemkekmdhgaaDoorZDAH
import Derived.Test.YtkhiemkekmdhgaaDoorZDAB
import Derived.Shelf.Strconv.ErrVarAll
import Derived.Shelf.Small.Wraps
namespace Go.Proofs.YtkhiemkekmdhgaaDoor
section
open Go Go.RowKit
section
variable {P : Program} {ops : Array Oper} {Q : Exit → Act → World → Prop} {md : Region.Mode} {S : World → Prop} {z : Nat}
def Sk.anyT (P : Program) (md : Region.Mode) (ops : Array Oper) (Q : Exit → Act → World → Prop) (S : World → Prop) (z : Nat) : Nat → Array Bool → Act → World → Prop
 | 0, listed, a, w => Region.ready md ops listed = [] ∧ Q .normal a w
 | fuel + 1, listed, a, w =>
   (Region.ready md ops listed = [] → Q .normal a w) ∧
   ∀ i ∈ Region.ready md ops listed, wpOp P ops Q i (fun a' w' => (i ≠ z → S w') ∧ Sk.anyT P md ops Q S z fuel (listed.setIfInBounds i true) a' w') a w
end
end
section
open Go.RowKit
end
section
open Go.RowKit
def Jn.Row (P : Nat → Prop) (w : World) (v : Value) (l : List Kn.V) : Prop := ∃ a c, v = .slice a l.length c ∧ l.length ≤ 9223372036854775807 ∧ (∀ x ∈ l, Kn.Z x) ∧ (l = [] ∨ ∃ b o, a = some ⟨b, o, none⟩ ∧ P b ∧ b < w.heap.size ∧ ∀ i x, l[i]? = some x → Kn.At w b (o + i * 3) x)
theorem Jn.Row.same {P : Nat → Prop} {w w' : World} {v : Value} {l : List Kn.V} (h : Jn.Row P w v l) (hs : w.heap.size ≤ w'.heap.size) (g : ∀ b, P b → b < w.heap.size → w'.heap[b]? = w.heap[b]?) : Jn.Row P w' v l := by
 obtain ⟨a, c, hv, hm, hz, h⟩ := h
 refine ⟨a, c, hv, hm, hz, ?_⟩
 rcases h with h | ⟨b, o, ha, hb, hl, h⟩
 ·exact .inl h
 ·have e := g b hb hl
  exact .inr ⟨b, o, ha, hb, Nat.lt_of_lt_of_le hl hs, fun i x hx => ⟨(World.cell?_of_block e).trans (h i x hx).c0, (World.cell?_of_block e).trans (h i x hx).c1, (World.cell?_of_block e).trans (h i x hx).c2⟩⟩
theorem Jn.Row.imp {P P' : Nat → Prop} {w : World} {v : Value} {l : List Kn.V} (h : Jn.Row P w v l) (g : ∀ b, P b → P' b) : Jn.Row P' w v l := by
 obtain ⟨a, c, hv, hm, hz, h⟩ := h
 refine ⟨a, c, hv, hm, hz, ?_⟩
 rcases h with h | ⟨b, o, ha, hb, hl, h⟩
 ·exact .inl h
 ·exact .inr ⟨b, o, ha, g b hb, hl, h⟩
theorem Jn.Row.vals {P : Nat → Prop} {w : World} {v : Value} {l : List Kn.V} (h : Jn.Row P w v l) : Kn.Vals w v l := by
 obtain ⟨a, c, hv, hm, _, h⟩ := h
 refine ⟨a, c, hv, ?_⟩
 rcases h with h | ⟨b, o, ha, _, hl, h⟩
 ·exact .inl h
 ·exact .inr ⟨b, o, ha, hl, hm, h⟩
structure Jn.Cell (w : World) (g i : Nat) (x : Sk.E) (rb ro rn rc : Nat) : Prop where
 c : w.cell? ⟨g, i * 2 + 1, none⟩ = some (.slice (some ⟨rb, ro, none⟩) rn rc)
 c0 : w.cell? ⟨g, i * 2, none⟩ = some (.bool x.gone)
 k : Kn.At w rb ro (Sk.ke x)
 pos : 0 < rn
 rv : x.rv = .slice (some ⟨rb, ro, none⟩) rn rc
end
section
open Go.RowKit
end
section
open Go.RowKit
end
section
open Go.RowKit
def Jn.GotP (w : World) (r : Nat × List Dd.D) (e : Ending) (w' : World) : Prop :=
 ∃ u, e = .returned (.tuple #[u, .int .i64 ((r.1 : Nat) : Int)]) ∧ Bk.Ds w' u r.2 ∧ Below w.heap.size w w'
theorem Jn.GotP.good {w w' : World} {r : Nat × List Dd.D} {u : Value} {L : List Dd.D} (hr : r = (0, L)) (h : Bk.Ds w' u L) (g : Below w.heap.size w w') : Jn.GotP w r (.returned (.tuple #[u, .int .i64 0])) w' :=
 ⟨_, by rw [hr]; rfl, by rw [hr]; exact h, g⟩
def Jn.tot (ts : List Fr.Str) : Nat := (ts.map List.length).sum
end
section
open Go
theorem Jn.dec_from : ∀ (l : List UInt8) (a : Nat), l.all Jn.dig = true → Lib.decFrom a l = some (l.foldl (fun a c => 10 * a + (c.toNat - 48)) a)
 | [], _, _ => rfl
 | c :: l, a, h => by
   rw [List.all_cons, Bool.and_eq_true] at h
   have h1 : 48 ≤ c.toNat ∧ c.toNat ≤ 57 := by
    have := h.1
    unfold Jn.dig at this
    exact of_decide_eq_true this
   unfold Lib.decFrom Lib.digitVal
   rw [if_pos h1, List.foldl_cons]
   simp only
   rw [Jn.dec_from l _ h.2, Nat.mul_comm a 10]
theorem Jn.atoi_dig (l : List UInt8) (h : l.all Jn.dig = true) (hne : l ≠ []) : Lib.atoi l = some ((Jn.val l : Nat) : Int) := by
 cases l with
 | nil => exact absurd rfl hne
 | cons c r =>
   have h1 : 48 ≤ c.toNat ∧ c.toNat ≤ 57 := by
    have := (Bool.and_eq_true _ _ ▸ (List.all_cons ▸ h)).1
    unfold Jn.dig at this
    exact of_decide_eq_true this
   have n1 : (c == 45) = false := by
    rw [beq_eq_false_iff_ne]
    intro e
    rw [e] at h1
    exact absurd h1.1 (by decide)
   have n2 : (c == 43) = false := by
    rw [beq_eq_false_iff_ne]
    intro e
    rw [e] at h1
    exact absurd h1.1 (by decide)
   simp only [Lib.atoi]
   rw [if_neg (by rw [n1]; decide), if_neg (by rw [n2]; decide)]
   have e : Lib.decNat (c :: r) = some (Jn.val (c :: r)) := by
    unfold Lib.decNat
    rw [if_neg (by simp)]
    exact Jn.dec_from _ 0 h
   rw [e]
   rfl
theorem Jn.ok_atoi {l s : List UInt8} (h : Jn.okN l s = true) : Lib.atoiAll (s.drop l.length) = .ok ((Jn.num l s : Nat) : Int) := by
 have hn : Jn.num l s = Jn.val (s.drop l.length) := by unfold Jn.num; rw [if_pos h]
 unfold Jn.okN at h
 rw [Bool.and_eq_true, Bool.and_eq_true, Bool.and_eq_true] at h
 obtain ⟨h1, h2, h3, h4⟩ := h
 have h2 := of_decide_eq_true h2
 have h4 := of_decide_eq_true h4
 have hne : s.drop l.length ≠ [] := fun e => by
  have := (Jn.dec_len 1 0 (by decide) (by decide)).1
  rw [e] at h4
  have h5 := congrArg List.length h4
  rw [show Jn.val [] = 0 from rfl] at h5
  rw [List.length_nil] at h5
  omega
 rw [Lib.atoiAll_short _ (by omega), Jn.atoi_dig _ h3 hne, hn]
 rfl
theorem Jn.ok_of {l s : List UInt8} {v : Int} (h : Lib.atoiAll (s.drop l.length) = .ok v) :
 (Jn.name l v = s → Jn.okN l s = true ∧ ((Jn.num l s : Nat) : Int) = v) ∧ (Jn.name l v ≠ s → Jn.okN l s = false) := by
 refine ⟨fun e => ?_, fun e => ?_⟩
 ·by_cases hv : v < 0 ∨ 999999999 < v
  ·have e0 := Jn.name_nil (l := l).2 hv
   rw [e0] at e
   rw [← e, List.drop_nil] at h
   simp [Lib.atoiAll] at h
  ·have := Jn.name_ok (l := l) (n := v) (by omega) (by omega)
   rwa [e] at this
 ·cases hO : Jn.okN l s
  ·rfl
  ·have h2 := Jn.ok_atoi hO
   rw [h] at h2
   injection h2 with h2
   exact absurd (by rw [h2]; exact (Jn.ok_name hO).2) e
theorem Jn.ok_not {l s : List UInt8} (h : ∀ v, Lib.atoiAll (s.drop l.length) ≠ .ok v) : Jn.okN l s = false := by
 cases hO : Jn.okN l s
 ·rfl
 ·exact absurd (Jn.ok_atoi hO) (h _)
theorem Jn.ok_pfx {l s : List UInt8} (h : Lib.hasPrefix s l = false) : Jn.okN l s = false := by
 unfold Lib.hasPrefix at h
 unfold Jn.okN
 rw [h]
 rfl
theorem Jn.num_no {l s : List UInt8} (h : Jn.okN l s = false) : Jn.num l s = 0 := by
 unfold Jn.num
 rw [if_neg (by rw [h]; decide)]
end
section
open Go.RowKit
open Ty (I64)
def Dd.Cap (v : Value) : Prop := ∀ a n c, v = .slice a n c → n ≤ c
theorem Dd.Cap.of {a : Option Addr} {n c : Nat} (h : n ≤ c) : Dd.Cap (.slice a n c) := fun a' n' c' e => by
 simp only [Value.slice.injEq] at e
 omega
def Dd.Cols (w : World) (v : Value) (l : List Kn.C) : Prop := Kn.Cols w v l ∧ Dd.Cap v
theorem Dd.Cols.later {w w' : World} {v : Value} {l : List Kn.C} (h : Dd.Cols w v l) (g : Below w.heap.size w w') : Dd.Cols w' v l := ⟨h.1.later g, h.2⟩
theorem Dd.Cols.first {w : World} {a : Option Addr} {n c : Nat} {l : List Kn.C} (h : Dd.Cols w (.slice a n c) l) (hl : 1 ≤ l.length) : Dd.Cols w (.slice a 1 c) (l.take 1) := by
 obtain ⟨⟨a', c', e, h⟩, hc⟩ := h
 simp only [Value.slice.injEq] at e
 obtain ⟨rfl, rfl, rfl⟩ := e
 have hc := hc _ _ _ rfl
 refine ⟨⟨a, c, by rw [List.length_take, Nat.min_eq_left hl], ?_⟩, Dd.Cap.of (by omega)⟩
 rcases h with rfl | ⟨b, o, rfl, hb, hm, h⟩
 ·simp at hl
 ·refine .inr ⟨b, o, rfl, hb, by rw [List.length_take]; omega, fun i x hx => h i x ?_⟩
  rw [List.getElem?_take] at hx
  split at hx
  ·exact hx
  ·cases hx
theorem Dd.cols_right {s : List Kn.C} (h : Kn.right s = true) (g : Bool) : Kn.right (Dd.cols s g) = true := by
 unfold Dd.cols
 cases g
 ·exact h
 ·rw [if_pos rfl]
  obtain ⟨x, t, rfl, hx, hg⟩ := Kn.right_head h
  simp [Kn.right, Kn.headOk, hx, hg]
theorem Dd.cols_good {s : List Kn.C} (h : Kn.right s = true) {g : Bool} {k : Nat} {c : Kn.C} (hc : (Dd.cols s g)[k]? = some c) : c.good = true := by
 have ha := Kn.right_all (Dd.cols_right h g)
 exact (List.all_eq_true.1 ha) c (List.mem_of_getElem? hc)
theorem Dd.cols_len {s : List Kn.C} (h : Kn.right s = true) (g : Bool) : 1 ≤ (Dd.cols s g).length ∧ (Dd.cols s g).length ≤ 6 := Kn.right_len (Dd.cols_right h g)
theorem Dd.fitE_cols {s : List Kn.C} (h : Kn.right s = true) (d : Dd.D) : Kn.fitsE (Dd.cols s d.gone) d.row = Dd.fitE s d := by
 have hr := Dd.cols_right h d.gone
 obtain ⟨g, row⟩ := d
 unfold Dd.fitE
 cases g
 ·rfl
 ·simp only [if_true] at hr ⊢
  rw [if_pos h]
  obtain ⟨x, t, rfl, hx, hg⟩ := Kn.right_head h
  have e : Dd.cols (x :: t) true = [x] := rfl
  simp only [e] at hr ⊢
  match row with
  | [] => exact Kn.fitsE_len hr (by simp)
  | [k] =>
    simp only
    unfold Kn.fitsE Kn.keyE
    rw [if_pos hr, if_pos h, if_pos (by simp)]
    simp only [Kn.fitsAll, Bool.and_true]
  | _ :: _ :: _ => exact Kn.fitsE_len hr (by simp)
theorem Dd.fitE_not {s : List Kn.C} (h : Kn.right s = false) (d : Dd.D) : Dd.fitE s d = 4 := by
 unfold Dd.fitE
 split
 ·rw [h, if_neg (by decide)]
 ·exact Kn.fitsE_bad h
set_option maxRecDepth 100000 in
set_option maxHeartbeats 400000 in
theorem Dd.columnsOf_c (v : Value) (s : List Kn.C) (g : Bool) (w : World) (hs : Dd.Cols w v s) (hl : 1 ≤ s.length) :
 Calls Tryd.prog 26 #[v, .bool g] w fun e w' => (∃ u, e = .returned u ∧ ∀ W, Dd.Cols W v s → Dd.Cols W u (Dd.cols s g)) ∧ w' = w := by
 obtain ⟨a, c, rfl, _⟩ := hs.1.is
 have hc := hs.2 _ _ _ rfl
 have hc1 : (1 : Int) ≤ (c : Int) := by omega
 cases g
 ·go_enter Tryd.func26, Tryd.ntmps26
  go_wp2
  go_ret
  exact ⟨⟨_, rfl, fun W h => h⟩, rfl⟩
 ·have hl2 := Lib.hid hl
  go_enter Tryd.func26, Tryd.ntmps26
  go_wp2
  go_ret
  exact ⟨⟨_, rfl, fun W h => h.first hl2.out⟩, rfl⟩
set_option maxRecDepth 100000 in
set_option maxHeartbeats 400000 in
theorem Dd.appendFlag_c (base : Nat) (v : Value) (bs : List UInt8) (b : Bool) (w : World) (hown : Ty.Buf base w v bs) (hb : base ≤ w.heap.size) (hl : bs.length + 1 ≤ 140737488355328) :
 Calls Tryd.prog 28 #[v, .bool b] w (Ty.Written base w v (bs ++ [Dd.flag b])) := by
 cases b
 ·go_enter Tryd.func28, Tryd.ntmps28
  go_wp2_with (at_builtin; refine Ty.wpList_append_byte hown hb hl (.tmp 9) (.tmp 10) _ rfl rfl rfl rfl ?_; intro v1 w1 h1 g1)
  go_ret
  exact ⟨v1, rfl, h1 _ rfl, g1⟩
 ·go_enter Tryd.func28, Tryd.ntmps28
  go_wp2_with (at_builtin; refine Ty.wpList_append_byte hown hb hl (.tmp 6) (.tmp 7) _ rfl rfl rfl rfl ?_; intro v1 w1 h1 g1)
  go_ret
  exact ⟨v1, rfl, h1 _ rfl, g1⟩
end
section
open Go.RowKit
def Dd.T (w : World) : Prop := Ty.Tabs w
theorem Dd.T.below {w w' : World} (h : Dd.T w) (g : Below w.heap.size w w') : Dd.T w' := Ty.Tabs.below h g (Ty.Tabs.two h)
end
section
open Go.RowKit
def Jn.Err (w : World) : Prop := ∃ (tp : TypeId) (p : Value) (tq : TypeId) (q : Value), w.var? Tryd.prog "strconv.ErrSyntax" = some #[.iface tp p] ∧ w.var? Tryd.prog "strconv.ErrRange" = some #[.iface tq q]
theorem Jn.var_below {P : Program} {n : String} {cs : Array Value} {w w' : World} (h : w.var? P n = some cs) (g : Below w.heap.size w w') : w'.var? P n = some cs := by
 unfold World.var? at h ⊢
 cases hg : P.globalNamed n with
 | none => rw [hg] at h; cases h
 | some b =>
   rw [hg] at h
   simp only [Option.bind_some] at h ⊢
   cases ho : w.heap[b]? with
   | none => rw [ho] at h; cases h
   | some o =>
     rw [(g.block b (Array.getElem?_eq_some_iff.1 ho).1).trans ho]
     rw [ho] at h
     exact h
theorem Jn.Err.below {w w' : World} (h : Jn.Err w) (g : Below w.heap.size w w') : Jn.Err w' := by
 obtain ⟨tp, p, tq, q, h1, h2⟩ := h
 exact ⟨tp, p, tq, q, Jn.var_below h1 g, Jn.var_below h2 g⟩
theorem Jn.Pow.below {w w' : World} (h : Jn.Pow w) (g : Below w.heap.size w w') : Jn.Pow w' := Jn.var_below h g
def Jn.T (w : World) : Prop := Jn.Pow w ∧ Ty.Tabs w ∧ Jn.Err w
theorem Jn.T.pow {w : World} (h : Jn.T w) : Jn.Pow w := h.1
theorem Jn.T.below {w w' : World} (h : Jn.T w) (g : Below w.heap.size w w') : Jn.T w' := ⟨h.1.below g, Ty.Tabs.below h.2.1 g (Ty.Tabs.two h.2.1), h.2.2.below g⟩
set_option maxHeartbeats 2000000 in
set_option maxRecDepth 100000 in
theorem Jn.name_c (lt : ByteArray) (n : Int) (w : World) (hT : Jn.T w) (h0 : -9223372036854775808 ≤ n) (h1 : n ≤ 9223372036854775807) (hl : lt.size ≤ 140737488355328) :
 Calls Tryd.prog 8 #[.string lt, .int .i64 n] w fun e w' => e = .returned (.string (Ty.S (Jn.name lt.data.toList n))) ∧ Below w.heap.size w w' := by
 have CI := Lib.hid (Any.strconv_Itoa Tryd.itoaL n h0 h1 w hT.pow)
 by_cases hn : n < 0
 ·have e : Jn.name lt.data.toList n = [] := Jn.name_nil.2 (.inl hn)
  rw [e]
  clear CI
  go_enter Tryd.func8, Tryd.ntmps8
  go_wp2
  go_ret
  exact ⟨rfl, Below.refl _ _⟩
 ·by_cases hm : (999999999 : Int) < n
  ·have e : Jn.name lt.data.toList n = [] := Jn.name_nil.2 (.inr hm)
   rw [e]
   clear CI
   go_enter Tryd.func8, Tryd.ntmps8
   go_wp2
   go_ret
   exact ⟨rfl, Below.refl _ _⟩
  ·obtain ⟨u, rfl⟩ : ∃ u : Nat, n = (u : Int) := ⟨n.toNat, by omega⟩
   have e : Jn.name lt.data.toList (u : Int) = lt.data.toList ++ Lib.decDigits u := by unfold Jn.name; rw [if_neg (by omega), Int.toNat_natCast]
   rw [e, ← Jn.S_add]
   rw [Lib.itoa_nonneg] at CI
   have hln := (Jn.dec_len 9 u (by decide) (by omega)).2
   have hsz : ¬ 9223372036854775807 < lt.size + (⟨(Lib.decDigits u).toArray⟩ : ByteArray).size := by
    show ¬ 9223372036854775807 < lt.size + (Lib.decDigits u).toArray.size
    rw [List.size_toArray]
    omega
   generalize (⟨(Lib.decDigits u).toArray⟩ : ByteArray) = ds at CI hsz ⊢
   clear e hT hln
   go_enter Tryd.func8, Tryd.ntmps8
   go_wp2_with fail
   refine (CI.out).mono ?_
   rintro e w1 ⟨rfl, k, os, rfl⟩
   go_wp2
   go_ret
   exact ⟨rfl, Jn.grow_below _ _ _⟩
set_option maxHeartbeats 4000000 in
set_option maxRecDepth 100000 in
theorem Jn.number_c (lt nm : ByteArray) (w : World) (hT : Jn.T w) (hl : lt.size ≤ 140737488355328) (hn : nm.size ≤ 281474976710656) :
 Calls Tryd.prog 6 #[.string lt, .string nm] w fun e w' => e = .returned (.tuple #[.int .i64 (Jn.num lt.data.toList nm.data.toList : Nat), .bool (Jn.okN lt.data.toList nm.data.toList)]) ∧ Below w.heap.size w w' := by
 have CP := Lib.hid (Any.strings_CutPrefix Tryd.cutpL nm lt w)
 obtain ⟨l, hll⟩ : ∃ l, l = lt.data.toList := ⟨_, rfl⟩
 obtain ⟨s, hss⟩ : ∃ s, s = nm.data.toList := ⟨_, rfl⟩
 rw [← hll, ← hss] at CP ⊢
 have hnm : nm = Ty.S s := by rw [hss]; rfl
 have hsl : s.length = nm.size := by rw [hss]; exact Array.length_toList
 cases hp : Lib.hasPrefix s l
 ·have ho := Jn.ok_pfx hp
  rw [ho, Jn.num_no ho]
  rw [hp] at CP
  generalize (⟨(Lib.trimPrefix s l).toArray⟩ : ByteArray) = ds at CP
  clear hT ho hp hsl hnm hll hss
  go_enter Tryd.func6, Tryd.ntmps6
  go_wp2_with fail
  refine (CP.out).mono ?_
  rintro e w1 ⟨rfl, h9⟩
  subst h9
  go_wp2
  go_ret2
  exact ⟨rfl, Below.refl _ _⟩
 ·have ht : Lib.trimPrefix s l = s.drop l.length := by unfold Lib.trimPrefix; rw [if_pos hp]
  rw [hp, ht] at CP
  obtain ⟨D, hD⟩ : ∃ D : ByteArray, D = ⟨(s.drop l.length).toArray⟩ := ⟨_, rfl⟩
  have hDl : D.data.toList = s.drop l.length := by rw [hD]
  have hDs : D.size ≤ 281474976710656 := by
   rw [hD]
   show (s.drop l.length).toArray.size ≤ _
   rw [List.size_toArray, List.length_drop]
   omega
  rw [← hD] at CP
  cases ha : Lib.atoiAll (s.drop l.length) with
  | ok v =>
    obtain ⟨hv0, hv1⟩ := Lib.atoiAll_bounds ha
    have CA := Lib.hid (Any.strconv_Atoi_ok Tryd.atoiL D (by omega) v (by rw [hDl]; exact ha) w)
    have CN := Lib.hid fun (W : World) (g : Below w.heap.size w W) => Jn.name_c lt v W (hT.below g) hv0 hv1 hl
    rw [← hll] at CN
    obtain ⟨hy, hno⟩ := Jn.ok_of ha
    have HB : Hid (((Ty.S (Jn.name l v)).toList == nm.toList) = true → Jn.okN l s = true ∧ ((Jn.num l s : Nat) : Int) = v) := Lib.hid fun h => hy (by
     rw [hnm, Ty.S_beq] at h
     exact eq_of_beq h)
    have HN : Hid (((Ty.S (Jn.name l v)).toList == nm.toList) = false → Jn.okN l s = false ∧ Jn.num l s = 0) := Lib.hid fun h => by
     rw [hnm, Ty.S_beq] at h
     have := hno (by simpa using h)
     exact ⟨this, Jn.num_no this⟩
    generalize Ty.S (Jn.name l v) = nv at CN HB HN
    generalize Jn.okN l s = O at HB HN ⊢
    generalize Jn.num l s = M at HB HN ⊢
    clear hT hp ht hD hDl hDs hy hno hsl hnm hll hss
    clear ha
    go_enter Tryd.func6, Tryd.ntmps6
    go_wp2_with fail
    refine (CP.out).mono ?_
    rintro e w1 ⟨rfl, h9⟩
    subst h9
    go_wp2_with fail
    refine (CA.out).mono ?_
    rintro e w2 ⟨rfl, hw2⟩
    have HG2 : Hid (Below w1.heap.size w1 w2) := Lib.hid (by
     rcases hw2 with rfl | ⟨t, rfl⟩
     ·exact Below.refl _ _
     ·exact Lib.bytesWorld_below _ _ _)
    clear hw2
    go_wp2_with fail
    refine (CN.out w2 HG2.out).mono ?_
    rintro e w3 ⟨rfl, g3⟩
    have HG3 := Lib.hid (HG2.out.trans (g3.mono HG2.out.size))
    clear g3
    cases hb : (nv.toList == nm.toList)
    ·obtain ⟨rfl, rfl⟩ := HN.out hb
     clear HB HN
     go_wp2
     go_ret2
     exact ⟨rfl, HG3.out⟩
    ·obtain ⟨rfl, rfl⟩ := HB.out hb
     clear HB HN
     go_wp2
     go_ret2
     exact ⟨rfl, HG3.out⟩
  | «syntax» =>
    have ho := Jn.ok_not (l := l) (s := s) (fun v h => by rw [ha] at h; cases h)
    rw [ho, Jn.num_no ho]
    obtain ⟨tp, p, tq, q, e1, e2⟩ := hT.2.2
    have CA := Lib.hid (Any.strconv_Atoi_syntax_var Tryd.atoiL D hDs (by rw [hDl]; exact ha) tp p w e1)
    clear hT hp ht hD hDl hDs ha ho hsl hnm hll hss e1 e2
    go_enter Tryd.func6, Tryd.ntmps6
    go_wp2_with fail
    refine (CP.out).mono ?_
    rintro e w1 ⟨rfl, h9⟩
    subst h9
    go_wp2_with fail
    refine (CA.out).mono ?_
    rintro e w2 ⟨N9, rfl, -, -, g2⟩
    have HG2 := Lib.hid g2
    clear g2
    go_wp2
    go_ret2
    exact ⟨rfl, HG2.out⟩
  | range =>
    have ho := Jn.ok_not (l := l) (s := s) (fun v h => by rw [ha] at h; cases h)
    rw [ho, Jn.num_no ho]
    obtain ⟨tp, p, tq, q, e1, e2⟩ := hT.2.2
    have CA := Lib.hid (Any.strconv_Atoi_range_var Tryd.atoiL D hDs (by rw [hDl]; exact ha) tq q w e2)
    clear hT hp ht hD hDl hDs ha ho hsl hnm hll hss e1 e2
    generalize Lib.atoiSat D.data.toList = sat at CA
    go_enter Tryd.func6, Tryd.ntmps6
    go_wp2_with fail
    refine (CP.out).mono ?_
    rintro e w1 ⟨rfl, h9⟩
    subst h9
    go_wp2_with fail
    refine (CA.out).mono ?_
    rintro e w2 ⟨N9, rfl, -, -, g2⟩
    have HG2 := Lib.hid g2
    clear g2
    go_wp2
    go_ret2
    exact ⟨rfl, HG2.out⟩
end
section
open Go.RowKit
theorem Jn.wV_bad {s : List Kn.C} {d : Dd.D} (h : Dd.fitE s d ≠ 0) : Jn.wV s d = .tuple #[.string (Ty.S []), .int .i64 (Dd.fitE s d)] := by
 unfold Jn.wV Jn.wS
 rw [if_neg h]
theorem Jn.wV_good {s : List Kn.C} {d : Dd.D} (h : Dd.fitE s d = 0) : Jn.wV s d = .tuple #[.string (Ty.S (Fr.frm (Dd.enc s d))), .int .i64 0] := by
 unfold Jn.wV Jn.wS
 rw [if_pos h, h]
theorem Jn.dwV_good {s : List Kn.C} {d : Dd.D} (h : Dd.fitE s d = 0) : Dd.wV s d = .tuple #[.string (Ty.S (Dd.enc s d)), .int .i64 0] := by
 unfold Dd.wV Dd.wS
 rw [if_pos h, h]
end
section
open Go
def Jn.tx (s : List Kn.C) (L : List Dd.D) : List UInt8 := (L.map (Dd.enc s)).flatMap Fr.frm
def Jn.Ok (s : List Kn.C) (L : List Dd.D) : Prop := ∀ d ∈ L, Dd.fitE s d = 0 ∧ ∀ v ∈ d.row, Ty.I64 v.n
theorem Jn.enc_len {s : List Kn.C} {d : Dd.D} (h : Dd.fitE s d = 0) : (Dd.enc s d).length ≤ 500 := by
 rw [← Dd.pre_all h]
 exact Dd.pre_len h (Nat.le_refl _)
theorem Jn.tx_nil (s : List Kn.C) : Jn.tx s [] = [] := rfl
theorem Jn.tx_append (s : List Kn.C) (A B : List Dd.D) : Jn.tx s (A ++ B) = Jn.tx s A ++ Jn.tx s B := by
 unfold Jn.tx
 rw [List.map_append, List.flatMap_append]
theorem Jn.tx_one (s : List Kn.C) (d : Dd.D) : Jn.tx s [d] = Fr.frm (Dd.enc s d) := by
 unfold Jn.tx
 simp
theorem Jn.tx_size (s : List Kn.C) (L : List Dd.D) : (Jn.tx s L).length = Fr.size (L.map (Dd.enc s)) := Fr.size_is _
theorem Jn.tx_next {s : List Kn.C} {L : List Dd.D} {k : Nat} {d : Dd.D} (h : L[k]? = some d) (hd : Dd.fitE s d = 0) : Jn.tx s (L.take (k + 1)) = Jn.tx s (L.take k) ++ Jn.wS s d := by
 obtain ⟨hk, rfl⟩ := List.getElem?_eq_some_iff.1 h
 rw [List.take_succ_eq_append_getElem hk, Jn.tx_append, Jn.tx_one]
 unfold Jn.wS
 rw [if_pos hd]
theorem Jn.wS_le (s : List Kn.C) (d : Dd.D) : (Jn.wS s d).length ≤ 508 := by
 unfold Jn.wS
 split
 ·next h => rw [Fr.frm_len]; have := Jn.enc_len h; omega
 ·exact Nat.zero_le _
theorem Jn.tx_le {s : List Kn.C} : ∀ {L : List Dd.D}, (∀ d ∈ L, Dd.fitE s d = 0) → (Jn.tx s L).length ≤ 508 * L.length
 | [], _ => Nat.le_refl _
 | d :: L, h => by
   have ih := Jn.tx_le (s := s) (L := L) fun x hx => h x (List.mem_cons_of_mem _ hx)
   have e : Jn.tx s (d :: L) = Fr.frm (Dd.enc s d) ++ Jn.tx s L := rfl
   have := Jn.enc_len (h d List.mem_cons_self)
   rw [e, List.length_append, Fr.frm_len, List.length_cons]
   omega
theorem Jn.ok_take {s : List Kn.C} {L : List Dd.D} (h : Jn.Ok s L) (n : Nat) : Jn.Ok s (L.take n) := fun d hd => h d (List.mem_of_mem_take hd)
theorem Jn.ok_right {s : List Kn.C} {L : List Dd.D} (h : Jn.Ok s L) (hne : L ≠ []) : Kn.right s = true := by
 obtain ⟨d, r, rfl⟩ := List.exists_cons_of_ne_nil hne
 exact (Dd.fitE_0 (h d List.mem_cons_self).1).1
theorem Jn.txt_le {s : List Kn.C} {L : List Dd.D} (h : Jn.Ok s L) : ∀ t ∈ L.map (Dd.enc s), t.length ≤ 1048576 := fun t ht => by
 obtain ⟨d, hd, rfl⟩ := List.mem_map.1 ht
 have := Jn.enc_len (h d hd).1
 omega
theorem Jn.rds_ok {s : List Kn.C} {L : List Dd.D} (h : Jn.Ok s L) : Jn.rds s (L.map (Dd.enc s)) = some L := Jn.rds_enc L (fun d hd => (h d hd).1) fun d hd => (h d hd).2
theorem Jn.rd_tx {s : List Kn.C} {L : List Dd.D} (hr : Kn.right s = true) (h : Jn.Ok s L) (k : Nat) :
 Jn.rd s ((Jn.tx s L).take k) = (0, L.take (Fr.whole (L.map (Dd.enc s)) k)) := by
 unfold Jn.rd Jn.tx
 rw [if_neg (by rw [hr]; decide), Fr.scan_torn _ k (Jn.txt_le h), if_neg (fun h => h rfl)]
 simp only
 rw [← List.map_take, Jn.rds_ok (Jn.ok_take h _)]
theorem Jn.rd_nil (s : List Kn.C) : (Jn.rd s []).2 = [] := by
 unfold Jn.rd
 rw [Fr.scan_nil]
 split
 ·rfl
 ·rw [if_neg (by decide)]
  rfl
def Jn.last (L : List Dd.D) (x : Dd.D) (i : Nat) : Nat → Dd.D
 | 0 => x
 | j + 1 => match L[i + j]? with
   | some y => if Kn.cmp (Bk.key y) (Bk.key x) = 0 then y else Jn.last L x i j
   | none => Jn.last L x i j
theorem Jn.size_cons (t : Fr.Str) (L : List Fr.Str) : Fr.size (t :: L) = t.length + 8 + Fr.size L := by simp [Fr.size]
theorem Jn.whole_is : ∀ (L : List Fr.Str) (k m : Nat), m ≤ L.length → (∀ j, j < m → Fr.size (L.take (j + 1)) ≤ k) → (m = L.length ∨ k < Fr.size (L.take (m + 1))) → Fr.whole L k = m
 | [], _, m, h, _, _ => by
   obtain rfl : m = 0 := by simpa using h
   rfl
 | t :: L, k, 0, _, _, h => by
   rcases h with h | h
   ·simp at h
   ·rw [List.take_succ_cons, List.take_zero, Jn.size_cons] at h
    have : Fr.size ([] : List Fr.Str) = 0 := rfl
    unfold Fr.whole
    rw [if_neg (by omega)]
 | t :: L, k, m + 1, h1, h2, h3 => by
   have h0 := h2 0 (by omega)
   rw [List.take_succ_cons, List.take_zero, Jn.size_cons] at h0
   have hz : Fr.size ([] : List Fr.Str) = 0 := rfl
   have ih := Jn.whole_is L (k - (t.length + 8)) m (by simpa using h1) (fun j hj => by
    have := h2 (j + 1) (by omega)
    rw [List.take_succ_cons, Jn.size_cons] at this
    omega) (by
    rcases h3 with h3 | h3
    ·exact .inl (by simpa using h3)
    ·rw [List.take_succ_cons, Jn.size_cons] at h3
     exact .inr (by omega))
   unfold Fr.whole
   rw [if_pos (by omega), ih]
def Jn.en (s : List Kn.C) (L : List Dd.D) (i : Nat) : Nat := (Jn.tx s (L.take (i + 1))).length
theorem Jn.whole_en {s : List Kn.C} {L : List Dd.D} {k m : Nat} (h1 : m ≤ L.length) (h2 : ∀ j, j < m → Jn.en s L j ≤ k) (h3 : m = L.length ∨ k < Jn.en s L m) : Fr.whole (L.map (Dd.enc s)) k = m := by
 have he : ∀ j, Jn.en s L j = Fr.size ((L.map (Dd.enc s)).take (j + 1)) := fun j => by unfold Jn.en; rw [Jn.tx_size, List.map_take]
 refine Jn.whole_is _ k m (by rw [List.length_map]; exact h1) (fun j hj => by rw [← he]; exact h2 j hj) ?_
 rw [List.length_map, ← he]
 exact h3
end
section
open Go.RowKit
open Ty (I64)
open Ig (encI)
open Tx (encT)
theorem Dd.encV_there {c : Kn.C} {v : Kn.V} (hc : c.null = false) (hv : v.null = false) : Dd.encV c v = Dd.encP c v := by
 unfold Dd.encV
 rw [hc, hv, if_neg (by decide), if_neg (by decide), List.nil_append]
theorem Dd.encV_flag {c : Kn.C} {v : Kn.V} (hc : c.null = true) (hv : v.null = false) : Dd.encV c v = Dd.flag false :: Dd.encP c v := by
 unfold Dd.encV
 rw [hc, hv, if_pos rfl, if_neg (by decide)]
 rfl
theorem Dd.encV_null {c : Kn.C} {v : Kn.V} (hc : c.null = true) (hv : v.null = true) : Dd.encV c v = [Dd.flag true] := by
 unfold Dd.encV
 rw [hc, hv, if_pos rfl, if_pos rfl]
 rfl
theorem Dd.encP_int {c : Kn.C} {v : Kn.V} (hk : c.k = 1) : Dd.encP c v = Ig.encI v.n := by unfold Dd.encP; rw [if_pos hk]
theorem Dd.encP_txt {c : Kn.C} {v : Kn.V} (hk : c.k = 2) : Dd.encP c v = encT v.s.data.toList := by unfold Dd.encP; rw [if_neg (by omega)]
theorem Dd.fits_live {c : Kn.C} {v : Kn.V} (h : Kn.fits c v = true) (hc : c.null = false) : v.null = false := by
 cases hv : v.null
 ·rfl
 ·have := (Dd.fits_null h hv).2
  rw [hc] at this; cases this
theorem Dd.fits_size {c : Kn.C} {v : Kn.V} (hk : c.k = 2) (h : Kn.fits c v = true) (hv : v.null = false) : v.s.size ≤ 64 := by
 have := (Dd.fits_str (by omega) h hv).2
 rwa [Ty.length_data] at this
theorem Dd.tabs_grew {w w' : World} {v v' : Value} {base : Nat} {bs : List UInt8} (h : Ty.Tabs w) (hg : Ty.Grew w w' v v') (hb : Ty.Buf base w v bs) (hG : Ty.G ≤ base) : Ty.Tabs w' :=
 Ty.Tabs.by h hg.by_ fun k hk => Nat.le_trans hG (World.ownsRow.lt hb k hk).1
set_option maxHeartbeats 2000000 in
set_option maxRecDepth 100000 in
theorem Dd.appendValue_c (base : Nat) (v : Value) (bs : List UInt8) (c : Kn.C) (x : Kn.V) (w : World) (hT : Ty.Tabs w) (hG : Ty.G ≤ base) (hown : Ty.Buf base w v bs) (hb : base ≤ w.heap.size) (hl : bs.length ≤ 1000) (hf : Kn.fits c x = true) (hg : c.good = true) (hi : I64 x.n) :
 Calls Tryd.prog 29 #[v, c.val, x.val] w (Ty.Written base w v (bs ++ Dd.encV c x)) := by
 obtain ⟨ck, cn⟩ := c
 obtain ⟨xn, xi, xs⟩ := x
 have hgr : Below w.heap.size w ((w.alloc (.cells #[.int .i64 ck, .bool cn] 44)).alloc (.cells #[.bool xn, .int .i64 xi, .string xs] 46)) := ((Below.refl _ w).alloc (Nat.le_refl _) _).alloc (by simp) _
 have hown2 : Ty.Buf base ((w.alloc (.cells #[.int .i64 ck, .bool cn] 44)).alloc (.cells #[.bool xn, .int .i64 xi, .string xs] 46)) v bs := World.ownsRow.alloc (World.ownsRow.alloc hown _) _
 have hown3 : Hid (∀ k, v.ownBlock = some k → k < w.heap.size) := Lib.hid fun k hk => (World.ownsRow.lt hown k hk).2
 have hT2 := Lib.hid (Ty.Tabs.below hT hgr (Ty.Tabs.two hT))
 have hBH : Hid (∀ (w' : World) (v' : Value), Ty.Grew ((w.alloc (.cells #[.int .i64 ck, .bool cn] 44)).alloc (.cells #[.bool xn, .int .i64 xi, .string xs] 46)) w' v v' → Ty.Grew w w' v v') := Lib.hid fun w' v' h => (h.behind _).behind _
 have hsz : ((w.alloc (.cells #[.int .i64 ck, .bool cn] 44)).alloc (.cells #[.bool xn, .int .i64 xi, .string xs] 46)).heap.size = w.heap.size + 2 := by simp
 have hb2 := (Below.refl _ (w.alloc (.cells #[.int .i64 ck, .bool cn] 44))).alloc (Nat.le_refl _) (.cells #[.bool xn, .int .i64 xi, .string xs] 46)
 have x0 := (hb2.cell (p := ⟨w.heap.size, 0, none⟩) (by simp)).trans (Kn.cell_new w #[.int .i64 ck, .bool cn] 44 0 _ rfl)
 have x1 := (hb2.cell (p := ⟨w.heap.size, 1, none⟩) (by simp)).trans (Kn.cell_new w #[.int .i64 ck, .bool cn] 44 1 _ rfl)
 have y0 := Kn.cell_new (w.alloc (.cells #[.int .i64 ck, .bool cn] 44)) #[.bool xn, .int .i64 xi, .string xs] 46 0 _ rfl
 have y1 := Kn.cell_new (w.alloc (.cells #[.int .i64 ck, .bool cn] 44)) #[.bool xn, .int .i64 xi, .string xs] 46 1 _ rfl
 have y2 := Kn.cell_new (w.alloc (.cells #[.int .i64 ck, .bool cn] 44)) #[.bool xn, .int .i64 xi, .string xs] 46 2 _ rfl
 rw [World.size_alloc] at y0 y1 y2
 simp only [List.getElem_toArray, List.getElem_cons_zero, List.getElem_cons_succ] at x0 x1 y0 y1 y2
 have HT := hT2
 have HOW := Lib.hid hown2
 have HI := Lib.hid hi
 have HF := Lib.hid hf
 have HGB := Lib.hid hG
 have HBB := Lib.hid hb
 have HL := Lib.hid hl
 clear hgr hown2 hT2 hb2 hi hf hG hT hown
 have HK := Lib.hid ((Dd.good_iff _).1 hg)
 simp only at HI HK
 clear hg
 unfold Kn.C.val Kn.V.val
 cases cn
 ·obtain rfl : xn = false := Dd.fits_live HF.out rfl
  rcases HK.out with rfl | rfl
  ·have HE := Lib.hid ((Dd.encV_there (c := ⟨1, false⟩) (v := ⟨false, xi, xs⟩) rfl rfl).trans (Dd.encP_int rfl))
   go_enter Tryd.func29, Tryd.ntmps29
   go_wp2_with fail
   generalize hwo : World.alloc _ _ = wo at HOW HT hBH hsz x0 x1 y0 y1 y2 ⊢
   clear hwo
   with_reducible refine (Ty.int_c base v _ xi HI.out wo HT.out HOW.out (by have := HBB.out; omega) (by have := HL.out; omega)).mono ?_
   rintro e w4 ⟨v4, rfl, hB4, hG4⟩
   have HB4 := Lib.hid hB4
   have HG4 := Lib.hid hG4
   clear hB4 hG4
   go_wp2
   go_ret
   refine ⟨v4, rfl, ?_, hBH.out _ _ HG4.out⟩
   rw [HE.out]
   have h := HB4.out
   simpa only [Ig.encI, List.append_assoc, List.singleton_append, List.cons_append, List.nil_append] using h
  ·have HE := Lib.hid ((Dd.encV_there (c := ⟨2, false⟩) (v := ⟨false, xi, xs⟩) rfl rfl).trans (Dd.encP_txt rfl))
   have h64 := Dd.fits_size rfl HF.out rfl
   simp only at h64
   go_enter Tryd.func29, Tryd.ntmps29
   go_wp2_with fail
   generalize hwo : World.alloc _ _ = wo at HOW HT hBH hsz x0 x1 y0 y1 y2 ⊢
   clear hwo
   with_reducible refine (Ty.text_c base v _ xs wo HT.out HOW.out (by have := HBB.out; omega) (by have := HL.out; omega)).mono ?_
   rintro e w4 ⟨v4, rfl, hB4, hG4⟩
   have HB4 := Lib.hid hB4
   have HG4 := Lib.hid hG4
   clear hB4 hG4
   go_wp2
   go_ret
   refine ⟨v4, rfl, ?_, hBH.out _ _ HG4.out⟩
   rw [HE.out]
   have h := HB4.out
   simpa only [encT, Ty.length_data, List.append_assoc, List.singleton_append, List.cons_append, List.nil_append] using h
 ·cases xn
  ·rcases HK.out with rfl | rfl
   ·have HE := Lib.hid ((Dd.encV_flag (c := ⟨1, true⟩) (v := ⟨false, xi, xs⟩) rfl rfl).trans (congrArg _ (Dd.encP_int rfl)))
    go_enter Tryd.func29, Tryd.ntmps29
    go_wp2_with fail
    generalize hwo : World.alloc _ _ = wo at HOW HT hBH hsz x0 x1 y0 y1 y2 ⊢
    clear hwo
    with_reducible refine (Dd.appendFlag_c base v bs false wo HOW.out (by have := HBB.out; omega) (by have := HL.out; omega)).mono ?_
    rintro e w3 ⟨v3, rfl, hB3, hG3⟩
    have hs3 := hG3.by_.size
    have hn0 : some w.heap.size ≠ v.ownBlock := fun e => by have := hown3.out _ e.symm; omega
    have hn1 : some (w.heap.size + 1) ≠ v.ownBlock := fun e => by have := hown3.out _ e.symm; omega
    replace x0 := hG3.by_.cell x0 hn0
    replace y0 := hG3.by_.cell y0 hn1
    replace y1 := hG3.by_.cell y1 hn1
    replace y2 := hG3.by_.cell y2 hn1
    have HB3 := Lib.hid hB3
    have HG3 := Lib.hid hG3
    have HT3 := Lib.hid (Dd.tabs_grew HT.out hG3 HOW.out HGB.out)
    clear x1 hn0 hn1 hB3 hG3
    go_wp2_with fail
    with_reducible refine (Ty.int_c base v3 _ xi HI.out w3 HT3.out HB3.out (by have := HBB.out; omega) (by rw [List.length_append]; have := HL.out; simp only [List.length_singleton]; omega)).mono ?_
    rintro e w4 ⟨v4, rfl, hB4, hG4⟩
    have HB4 := Lib.hid hB4
    have HG4 := Lib.hid hG4
    clear hB4 hG4
    go_wp2
    go_ret
    refine ⟨v4, rfl, ?_, hBH.out _ _ (HG3.out.trans HG4.out)⟩
    rw [HE.out]
    have h := HB4.out
    simpa only [Ig.encI, List.append_assoc, List.singleton_append, List.cons_append, List.nil_append] using h
   ·have HE := Lib.hid ((Dd.encV_flag (c := ⟨2, true⟩) (v := ⟨false, xi, xs⟩) rfl rfl).trans (congrArg _ (Dd.encP_txt rfl)))
    have h64 := Dd.fits_size rfl HF.out rfl
    simp only at h64
    go_enter Tryd.func29, Tryd.ntmps29
    go_wp2_with fail
    generalize hwo : World.alloc _ _ = wo at HOW HT hBH hsz x0 x1 y0 y1 y2 ⊢
    clear hwo
    with_reducible refine (Dd.appendFlag_c base v bs false wo HOW.out (by have := HBB.out; omega) (by have := HL.out; omega)).mono ?_
    rintro e w3 ⟨v3, rfl, hB3, hG3⟩
    have hs3 := hG3.by_.size
    have hn0 : some w.heap.size ≠ v.ownBlock := fun e => by have := hown3.out _ e.symm; omega
    have hn1 : some (w.heap.size + 1) ≠ v.ownBlock := fun e => by have := hown3.out _ e.symm; omega
    replace x0 := hG3.by_.cell x0 hn0
    replace y0 := hG3.by_.cell y0 hn1
    replace y1 := hG3.by_.cell y1 hn1
    replace y2 := hG3.by_.cell y2 hn1
    have HB3 := Lib.hid hB3
    have HG3 := Lib.hid hG3
    have HT3 := Lib.hid (Dd.tabs_grew HT.out hG3 HOW.out HGB.out)
    clear x1 hn0 hn1 hB3 hG3
    go_wp2_with fail
    with_reducible refine (Ty.text_c base v3 _ xs w3 HT3.out HB3.out (by have := HBB.out; omega) (by rw [List.length_append]; have := HL.out; simp only [List.length_singleton]; omega)).mono ?_
    rintro e w4 ⟨v4, rfl, hB4, hG4⟩
    have HB4 := Lib.hid hB4
    have HG4 := Lib.hid hG4
    clear hB4 hG4
    go_wp2
    go_ret
    refine ⟨v4, rfl, ?_, hBH.out _ _ (HG3.out.trans HG4.out)⟩
    rw [HE.out]
    have h := HB4.out
    simpa only [encT, Ty.length_data, List.append_assoc, List.singleton_append, List.cons_append, List.nil_append] using h
  ·have HE := Lib.hid (Dd.encV_null (c := ⟨ck, true⟩) (v := ⟨true, xi, xs⟩) rfl rfl)
   go_enter Tryd.func29, Tryd.ntmps29
   go_wp2_with fail
   generalize hwo : World.alloc _ _ = wo at HOW HT hBH hsz x0 x1 y0 y1 y2 ⊢
   clear hwo
   with_reducible refine (Dd.appendFlag_c base v bs true wo HOW.out (by have := HBB.out; omega) (by have := HL.out; omega)).mono ?_
   rintro e w3 ⟨v3, rfl, hB3, hG3⟩
   have hs3 := hG3.by_.size
   have hn0 : some w.heap.size ≠ v.ownBlock := fun e => by have := hown3.out _ e.symm; omega
   have hn1 : some (w.heap.size + 1) ≠ v.ownBlock := fun e => by have := hown3.out _ e.symm; omega
   replace x0 := hG3.by_.cell x0 hn0
   replace y0 := hG3.by_.cell y0 hn1
   replace y1 := hG3.by_.cell y1 hn1
   replace y2 := hG3.by_.cell y2 hn1
   have HB3 := Lib.hid hB3
   have HG3 := Lib.hid hG3
   have HT3 := Lib.hid (Dd.tabs_grew HT.out hG3 HOW.out HGB.out)
   clear x1 hn0 hn1 hB3 hG3
   go_wp2
   go_ret
   exact ⟨v3, rfl, by rw [HE.out]; exact HB3.out, hBH.out _ _ HG3.out⟩
end
end Go.Proofs.YtkhiemkekmdhgaaDoor
