import Derived.Test.YtkhiemkekmdhgaaGreatDoorZZAC
import Derived.Test.YtkhiemkekmdhgaaGreatDoorZZAA
import Derived.Test.YtkhiemkekmdhgaaGreatDoorZZAB
import Derived.Deep.OwnRows
namespace Go.Proofs.YtkhiemkekmdhgaaGreatDoor.Tx
open Go Go.RowKit
open Ty (num encU txt U64)
open Ig (rest read_encU splitU un)
abbrev Str := List UInt8
def encT (t : Str) : List UInt8 := encU t.length ++ t
def restT (l : List UInt8) : List UInt8 := l.drop (txt l 64).2.1
theorem read_encT (t : Str) (h : t.length ≤ 64) (r : List UInt8) : (txt (encT t ++ r) 64).2.2 = 0 ∧ (txt (encT t ++ r) 64).1 = t ∧ restT (encT t ++ r) = r := by
 have e : num (encT t ++ r) = (t.length, (encU t.length).length, 0) := by
  unfold encT
  rw [List.append_assoc]
  exact Ty.num_encU _ (by unfold U64; omega) _
 have e0 : (num (encT t ++ r)).2.2 = 0 := by rw [e]
 have e1 : (num (encT t ++ r)).1 = t.length := by rw [e]
 have e2 : (num (encT t ++ r)).2.1 = (encU t.length).length := by rw [e]
 have hl : (encT t ++ r).length = (encU t.length).length + (t.length + r.length) := by simp [encT]
 have hw := Ty.txt_whole (most := 64) e0 (by rw [e1]; omega) (by rw [e1, e2, hl]; omega)
 have hd : (encT t ++ r).drop (encU t.length).length = t ++ r := by simp [encT]
 refine ⟨by rw [hw], by rw [hw, e1, e2, hd]; simp, ?_⟩
 unfold restT
 rw [hw, e1, e2, ← List.drop_drop, hd]
 simp
theorem splitT {l : List UInt8} (h : (txt l 64).2.2 = 0) : l = encT (txt l 64).1 ++ restT l ∧ (txt l 64).1.length ≤ 64 := by
 have h1 : (num l).2.2 = 0 := by
  rcases Nat.eq_zero_or_pos (num l).2.2 with h1 | h1
  ·exact h1
  ·rw [Ty.txt_bad (by omega)] at h
   exact h
 by_cases h2 : (64 : Int) < 0 ∨ (64 : Int) < ((num l).1 : Int)
 ·rw [Ty.txt_long h1 h2] at h
  cases h
 ·by_cases h3 : l.length - (num l).2.1 < (num l).1
  ·rw [Ty.txt_short h1 h2 h3] at h
   cases h
  ·have hw := Ty.txt_whole h1 h2 h3
   have hs := Ty.encU_num l h1
   have hlen : ((l.drop (num l).2.1).take (num l).1).length = (num l).1 := by
    rw [List.length_take, List.length_drop]; omega
   unfold restT
   rw [hw]
   refine ⟨?_, by rw [hlen]; omega⟩
   unfold encT
   rw [hlen, hs.1, ← List.drop_drop, List.append_assoc, List.take_append_drop, List.take_append_drop]
def lt (a b : Str) : Bool := Op.bytesLess a b
def Asc : Option Str → List Str → Prop
 | _, [] => True
 | p, a :: d => (∀ q, p = some q → lt q a = true) ∧ Asc (some a) d
def ins (t : Str) : List Str → List Str
 | [] => [t]
 | a :: d => if a = t then a :: d else if lt a t = true then a :: ins t d else t :: a :: d
def dict (L : List Str) : List Str := L.foldl (fun d t => ins t d) []
def pos (d : List Str) (t : Str) : Nat := d.idxOf t
def rdWords (ord : Bool) : Nat → Option Str → List UInt8 → Nat × List Str × List UInt8
 | 0, _, l => (0, [], l)
 | n + 1, p, l =>
   if (txt l 64).2.2 ≠ 0 then ((txt l 64).2.2, [], l)
   else if ord = true ∧ (p.any fun q => !lt q (txt l 64).1) = true then (4, [], l)
   else ((rdWords ord n (some (txt l 64).1) (restT l)).1, (txt l 64).1 :: (rdWords ord n (some (txt l 64).1) (restT l)).2.1, (rdWords ord n (some (txt l 64).1) (restT l)).2.2)
def ix (d : List Str) (L : List Str) (i : Nat) : Nat := pos d (L.getD i [])
def encX (d L : List Str) : List UInt8 := UInt8.ofNat (Bt.wid L.length (ix d L)) :: (Bt.bytes (Bt.need (L.length * Bt.wid L.length (ix d L))) (Bt.pk L.length (ix d L) (Bt.wid L.length (ix d L)))).data.toList
def right (n w : Nat) (d : List Str) (X : Nat → Nat) : Bool := (List.range n).all (fun i => decide (X i < d.length)) && ((List.range d.length).all (fun j => (List.range n).any fun i => X i == j) && (Bt.wid n X == w))
def outs (n : Nat) (d : List Str) (X : Nat → Nat) : List Str := (List.range n).map fun i => d.getD (X i) []
def rdPick (n : Nat) (d : List Str) (l : List UInt8) : Nat × List Str × List UInt8 :=
 match l with
 | [] => (2, [], l)
 | b :: r =>
   if 64 < b.toNat then (4, [], l)
   else if r.length < Bt.need (n * b.toNat) then (2, [], l)
   else if Bt.chk ⟨(r.take (Bt.need (n * b.toNat))).toArray⟩ (n * b.toNat) ≠ 0 then (Bt.chk ⟨(r.take (Bt.need (n * b.toNat))).toArray⟩ (n * b.toNat), [], l)
   else if right n b.toNat d (un ⟨(r.take (Bt.need (n * b.toNat))).toArray⟩ b.toNat) = true then (0, outs n d (un ⟨(r.take (Bt.need (n * b.toNat))).toArray⟩ b.toNat), r.drop (Bt.need (n * b.toNat)))
   else (4, [], l)
def body (k : Nat) (L : List Str) : List UInt8 := if k = 0 then L.flatMap encT else encU (dict L).length ++ ((dict L).flatMap encT ++ encX (dict L) L)
def enc (k : Nat) (L : List Str) : List UInt8 := UInt8.ofNat k :: (encU L.length ++ body k L)
def rdBody (k n : Nat) (l : List UInt8) : Nat × List Str × List UInt8 :=
 if k = 0 then rdWords false n none l
 else if (num l).2.2 ≠ 0 then ((num l).2.2, [], l)
 else if 65536 < (num l).1 then (3, [], l)
 else if (rdWords true (num l).1 none (rest l)).1 ≠ 0 then ((rdWords true (num l).1 none (rest l)).1, [], l)
 else rdPick n (rdWords true (num l).1 none (rest l)).2.1 (rdWords true (num l).1 none (rest l)).2.2
def rd (l : List UInt8) : Nat × List Str :=
 match l with
 | [] => (2, [])
 | b :: r =>
   if 1 < b.toNat then (4, [])
   else if (num r).2.2 ≠ 0 then ((num r).2.2, [])
   else if 65536 < (num r).1 then (3, [])
   else if (rdBody b.toNat (num r).1 (rest r)).1 ≠ 0 then ((rdBody b.toNat (num r).1 (rest r)).1, [])
   else if (rdBody b.toNat (num r).1 (rest r)).2.2 ≠ [] then (5, [])
   else (0, (rdBody b.toNat (num r).1 (rest r)).2.1)
end Go.Proofs.YtkhiemkekmdhgaaGreatDoor.Tx
namespace Go.Proofs.YtkhiemkekmdhgaaGreatDoor
open Go.RowKit
def Cl.nul : Kn.V := ⟨true, 0, ⟨#[]⟩⟩
def Cl.ofN (x : Int) : Kn.V := ⟨false, x, ⟨#[]⟩⟩
def Cl.ofS (t : List UInt8) : Kn.V := ⟨false, 0, Ty.S t⟩
def Cl.cells (l : List Kn.V) : List Value := l.flatMap fun v => [.bool v.null, .int .i64 v.n, .string v.s]
theorem Cl.cells_get : ∀ (l : List Kn.V) (i : Nat) (x : Kn.V), l[i]? = some x → (Cl.cells l)[i * 3]? = some (.bool x.null) ∧ (Cl.cells l)[i * 3 + 1]? = some (.int .i64 x.n) ∧ (Cl.cells l)[i * 3 + 2]? = some (.string x.s)
 | [], _, _, h => by cases h
 | v :: l, 0, x, h => by
   obtain rfl : v = x := by simpa using h
   exact ⟨rfl, rfl, rfl⟩
 | v :: l, i + 1, x, h => by
   have ih := Cl.cells_get l i x (by simpa using h)
   have e : Cl.cells (v :: l) = [.bool v.null, .int .i64 v.n, .string v.s] ++ Cl.cells l := rfl
   rw [e]
   refine ⟨?_, ?_, ?_⟩
   ·rw [List.getElem?_append_right (by simp; omega), show (i + 1) * 3 - [Value.bool v.null, .int .i64 v.n, .string v.s].length = i * 3 by simp; omega]; exact ih.1
   ·rw [List.getElem?_append_right (by simp; omega), show (i + 1) * 3 + 1 - [Value.bool v.null, .int .i64 v.n, .string v.s].length = i * 3 + 1 by simp; omega]; exact ih.2.1
   ·rw [List.getElem?_append_right (by simp; omega), show (i + 1) * 3 + 2 - [Value.bool v.null, .int .i64 v.n, .string v.s].length = i * 3 + 2 by simp; omega]; exact ih.2.2
theorem Cl.infoV : (Tryz.prog.info? 43).map (fun i => (i.zero, i.size, i.bytes)) = some (some (.agg #[.bool false, .int .i64 0, .string ⟨#[]⟩]), 3, 32) := by kernel_rfl
def Cl.Own (base : Nat) (w : World) (v : Value) (L : List Kn.V) : Prop := w.ownsRow base 43 3 v L.length (Cl.cells L)
theorem Cl.Own.nil (base : Nat) (w : World) : Cl.Own base w (.slice none 0 0) [] := World.ownsRow_nil w base _ 3
theorem Cl.addr_add (b i : Nat) : (⟨b, 0, none⟩ : Addr).add i = ⟨b, i, none⟩ := by unfold Addr.add; split <;> simp_all
theorem Cl.Own.vals {base : Nat} {w : World} {v : Value} {L : List Kn.V} (h : Cl.Own base w v L) : Kn.Vals w v L := by
 rcases h.2 with ⟨rfl, e0⟩ | ⟨g, cap, cur, rfl, hb, hg, hc, hm, _⟩
 ·obtain rfl := List.eq_nil_of_length_eq_zero e0
  exact ⟨_, 0, rfl, .inl rfl⟩
 ·refine ⟨_, cap, rfl, .inr ⟨g, 0, rfl, (Array.getElem?_eq_some_iff.1 hg).1, by unfold maxLen at hm; omega, fun i x hx => ?_⟩⟩
  have hcl := World.ownsRow.cells h (g := g) rfl
  obtain ⟨h0, h1, h2⟩ := Cl.cells_get L i x hx
  have a0 := hcl _ _ h0
  have a1 := hcl _ _ h1
  have a2 := hcl _ _ h2
  rw [Cl.addr_add] at a0 a1 a2
  rw [Nat.zero_add]
  exact ⟨a0, a1, a2⟩
theorem Cl.Own.base_le {base : Nat} {w : World} {v : Value} {L : List Kn.V} (h : Cl.Own base w v L) : ∀ k, v.ownBlock = some k → base ≤ k := fun k hk => (World.ownsRow.lt h k hk).1
theorem Cl.Own.kept {base : Nat} {w w' : World} {v : Value} {L : List Kn.V} (h : Cl.Own base w v L) (g : Below w.heap.size w w') : Cl.Own base w' v L := by
 refine ⟨h.1, ?_⟩
 rcases h.2 with hn | ⟨b, cap, cur, rfl, hbb, hgg, rest⟩
 ·exact .inl hn
 ·exact .inr ⟨b, cap, cur, rfl, hbb, by rw [g.block b (Array.getElem?_eq_some_iff.1 hgg).1]; exact hgg, rest⟩
theorem Cl.wpList_append_valT {base : Nat} {w0 : World} {v : Value} {M : List Kn.V} (T : TypeId) (hT : Tryz.prog.underlying T = some (.slice 43)) (x : Kn.V) (hown : Cl.Own base w0 v M) (hb : base ≤ w0.heap.size) (hl : M.length + 1 ≤ 1048576)
 {ops : Array Oper} {rest : List Oper} {o : Oper} {a : Act} {Q : Exit → Act → World → Prop} (s y : Operand) (q : Nat) (hq : q = w0.heap.size) (cs : Array Value) (hcs : cs = #[.bool x.null, .int .i64 x.n, .string x.s]) (hgd : o.guard = none)
 (ho : o.op = .call { callee := .builtin .append, args := #[s, y], argTypes := #[T, T] })
 (hs : a.eval s = v) (hx : a.eval y = .slice (some ⟨q, 0, none⟩) 1 1)
 (h : ∀ v' w', Cl.Own base w' v' (M ++ [x]) → Ty.Grew w0 w' v v' → wpList Tryz.prog ops Q rest (a.put o.dst v') w') :
 wpList Tryz.prog ops Q (o :: rest) a (w0.alloc (.cells cs 43)) := by
 subst hcs hq
 obtain ⟨i0, hi, hz0, hz1, hz2⟩ := info_parts Cl.infoV
 refine Ty.wpList_append_tight _ hgd s y T ho base 43 i0 _ 3 32 hT hi hz0 hz1 hz2 rfl (by decide) v M.length (Cl.cells M) hs (World.ownsRow.alloc hown _) ⟨w0.heap.size, 0, none⟩ 1 1 [.bool x.null, .int .i64 x.n, .string x.s] hx rfl (fun j u hj => ?_)
  (fun u hu => ?_) (by unfold maxLen; omega) (by omega) (by simp; omega) fun v' w' h1 h2 => h v' w' ?_ (h2.behind _)
 ·rw [Cl.addr_add]
  exact Kn.cell_new w0 _ _ j u (by simpa using hj)
 ·simp only [List.mem_cons, List.not_mem_nil, or_false] at hu
  rcases hu with rfl | rfl | rfl <;> rfl
 ·unfold Cl.Own
  have e : Cl.cells (M ++ [x]) = Cl.cells M ++ [.bool x.null, .int .i64 x.n, .string x.s] := by unfold Cl.cells; rw [List.flatMap_append]; rfl
  rw [List.length_append, e]
  exact h1
theorem Cl.Own.setOther {base : Nat} {w : World} {v : Value} {L : List Kn.V} (h : Cl.Own base w v L) {g i : Nat} (hg : g < base) (u : Value) : Cl.Own base (w.setCell ⟨g, i, none⟩ u) v L := by
 refine ⟨h.1, ?_⟩
 rcases h.2 with hn | ⟨b, cap, cur, rfl, hbb, hgg, rest⟩
 ·exact .inl hn
 ·exact .inr ⟨b, cap, cur, rfl, hbb, by rw [Below.heap_setCell _ _ _ _ (by show b ≠ g; omega)]; exact hgg, rest⟩
theorem Cl.own_grown {base : Nat} {w w' : World} {v v' : Value} {L : List Kn.V} (hb : base ≤ w.heap.size) (ho : Cl.Own base w v L) (g : Ty.Grew w w' v v') : Below base w w' :=
 g.below hb ho.base_le
theorem Cl.Own.by {base b : Nat} {w w' : World} {v : Value} {L : List Kn.V} (h : Cl.Own base w v L) (hg : w.grownBy w' (some b)) (hb : b < base) : Cl.Own base w' v L :=
 World.ownsRow.kept h hg (.inr fun e => by have := h.base_le b e; omega)
def Cl.mf (F : Nat → Kn.V) (i : Nat) : Value := if i % 3 = 0 then .bool (F (i / 3)).null else if i % 3 = 1 then .int .i64 (F (i / 3)).n else .string (F (i / 3)).s
theorem Cl.mf0 (F : Nat → Kn.V) (i : Nat) : Cl.mf F (i * 3) = .bool (F i).null := by
 unfold Cl.mf
 rw [if_pos (by omega), show i * 3 / 3 = i by omega]
theorem Cl.mf1 (F : Nat → Kn.V) (i : Nat) : Cl.mf F (i * 3 + 1) = .int .i64 (F i).n := by
 unfold Cl.mf
 rw [if_neg (by omega), if_pos (by omega), show (i * 3 + 1) / 3 = i by omega]
theorem Cl.mf2 (F : Nat → Kn.V) (i : Nat) : Cl.mf F (i * 3 + 2) = .string (F i).s := by
 unfold Cl.mf
 rw [if_neg (by omega), if_neg (by omega), show (i * 3 + 2) / 3 = i by omega]
def Cl.Row (w : World) (g n : Nat) (F : Nat → Kn.V) : Prop := w.rowIs g 43 (n * 3) (Cl.mf F)
theorem Cl.Row.made (w : World) (n : Nat) : Cl.Row (w.alloc (.cells (madeCells #[.bool false, .int .i64 0, .string ⟨#[]⟩] (n * 3)) 43)) w.heap.size n (fun _ => Cl.ofN 0) := by
 refine ⟨_, Go.Deep.blk_alloc_new _ _, size_madeCells _ _, fun i hi => ?_⟩
 unfold madeCells
 rw [Array.getElem?_map, Array.getElem?_range, if_pos hi]
 unfold Cl.mf Cl.ofN
 have h3 : i % 3 = 0 ∨ i % 3 = 1 ∨ i % 3 = 2 := by omega
 rcases h3 with h | h | h <;> simp [h]
theorem Cl.Row.lt {w : World} {g n : Nat} {F : Nat → Kn.V} (h : Cl.Row w g n F) : g < w.heap.size := World.rowIs.lt h
theorem Cl.Row.c0 {w : World} {g n : Nat} {F : Nat → Kn.V} (h : Cl.Row w g n F) {k : Nat} (hk : k < n) : w.cell? ⟨g, k * 3, none⟩ = some (.bool (F k).null) := by rw [World.rowIs.cell h (by omega), Cl.mf0]
theorem Cl.Row.c1 {w : World} {g n : Nat} {F : Nat → Kn.V} (h : Cl.Row w g n F) {k : Nat} (hk : k < n) : w.cell? ⟨g, k * 3 + 1, none⟩ = some (.int .i64 (F k).n) := by rw [World.rowIs.cell h (by omega), Cl.mf1]
theorem Cl.Row.c2 {w : World} {g n : Nat} {F : Nat → Kn.V} (h : Cl.Row w g n F) {k : Nat} (hk : k < n) : w.cell? ⟨g, k * 3 + 2, none⟩ = some (.string (F k).s) := by rw [World.rowIs.cell h (by omega), Cl.mf2]
theorem Cl.Row.congr {w : World} {g n : Nat} {F G : Nat → Kn.V} (h : Cl.Row w g n F) (e : ∀ i, i < n → F i = G i) : Cl.Row w g n G :=
 World.rowIs.congr h fun i hi => by unfold Cl.mf; rw [e (i / 3) (by omega)]
theorem Cl.Row.set0 {w : World} {g n : Nat} {F : Nat → Kn.V} (h : Cl.Row w g n F) (k : Nat) (b : Bool) : Cl.Row (w.setCell ⟨g, k * 3, none⟩ (.bool b)) g n (fun i => if i = k then ⟨b, (F k).n, (F k).s⟩ else F i) :=
 World.rowIs.congr (World.rowIs.set h (k * 3) (.bool b)) fun i _ => by
  unfold Cl.mf
  dsimp only
  by_cases e : i = k * 3
  ·subst e
   rw [if_pos rfl, if_pos (by omega), if_pos (by omega)]
  ·rw [if_neg e]
   by_cases e2 : i / 3 = k
   ·rw [if_pos e2, e2, if_neg (show ¬ i % 3 = 0 by omega), if_neg (show ¬ i % 3 = 0 by omega)]
   ·rw [if_neg e2]
theorem Cl.Row.set1 {w : World} {g n : Nat} {F : Nat → Kn.V} (h : Cl.Row w g n F) (k : Nat) (x : Int) : Cl.Row (w.setCell ⟨g, k * 3 + 1, none⟩ (.int .i64 x)) g n (fun i => if i = k then ⟨(F k).null, x, (F k).s⟩ else F i) :=
 World.rowIs.congr (World.rowIs.set h (k * 3 + 1) (.int .i64 x)) fun i _ => by
  unfold Cl.mf
  dsimp only
  by_cases e : i = k * 3 + 1
  ·subst e
   rw [if_pos rfl, if_neg (by omega), if_pos (by omega), if_pos (by omega)]
  ·rw [if_neg e]
   by_cases e2 : i / 3 = k
   ·rw [if_pos e2, e2]
    by_cases h0 : i % 3 = 0
    ·rw [if_pos h0, if_pos h0]
    ·rw [if_neg h0, if_neg h0, if_neg (show ¬ i % 3 = 1 by omega), if_neg (show ¬ i % 3 = 1 by omega)]
   ·rw [if_neg e2]
theorem Cl.Row.set2 {w : World} {g n : Nat} {F : Nat → Kn.V} (h : Cl.Row w g n F) (k : Nat) (s : ByteArray) : Cl.Row (w.setCell ⟨g, k * 3 + 2, none⟩ (.string s)) g n (fun i => if i = k then ⟨(F k).null, (F k).n, s⟩ else F i) :=
 World.rowIs.congr (World.rowIs.set h (k * 3 + 2) (.string s)) fun i _ => by
  unfold Cl.mf
  dsimp only
  by_cases e : i = k * 3 + 2
  ·subst e
   rw [if_pos rfl, if_neg (by omega), if_neg (by omega), if_pos (by omega)]
  ·rw [if_neg e]
   by_cases e2 : i / 3 = k
   ·rw [if_pos e2, e2]
    by_cases h0 : i % 3 = 0
    ·rw [if_pos h0, if_pos h0]
    ·rw [if_neg h0, if_neg h0, if_pos (show i % 3 = 1 by omega), if_pos (show i % 3 = 1 by omega)]
   ·rw [if_neg e2]
theorem Cl.Row.vals {w : World} {g n cap : Nat} {F : Nat → Kn.V} {L : List Kn.V} (h : Cl.Row w g n F) (hL : L.length = n) (hF : ∀ i x, L[i]? = some x → F i = x) (hn : n ≤ 9223372036854775807) : Kn.Vals w (.slice (some ⟨g, 0, none⟩) (n : Nat) cap) L := by
 subst hL
 refine ⟨_, cap, rfl, .inr ⟨g, 0, rfl, h.lt, hn, fun i x hx => ?_⟩⟩
 have hi := (List.getElem?_eq_some_iff.1 hx).1
 have e := hF i x hx
 rw [Nat.zero_add, ← e]
 exact ⟨h.c0 hi, h.c1 hi, h.c2 hi⟩
theorem Cl.Row.below {w w' : World} {g n : Nat} {F : Nat → Kn.V} (h : Cl.Row w g n F) (k : Below w.heap.size w w') : Cl.Row w' g n F :=
 World.rowIs.of_block h (k.block g h.lt)
theorem Cl.below_cell {B : Nat} {w w' : World} (h : Below B w w') {g i : Nat} (hg : B ≤ g) (u : Value) : Below B w (w'.setCell ⟨g, i, none⟩ u) :=
 ⟨h.os, h.tape, h.output, by have := h.size; simpa [World.setCell] using this, fun j hj => (Below.heap_setCell _ _ _ _ (by show j ≠ g; omega)).trans (h.block j hj)⟩
def Cl.fo (O : List Kn.V) (i : Nat) : Kn.V := O.getD i (Cl.ofN 0)
theorem Cl.fo_nil (i : Nat) : Cl.fo [] i = Cl.ofN 0 := by unfold Cl.fo; simp
theorem Cl.fo_snoc (O : List Kn.V) (x : Kn.V) {k : Nat} (h : O.length = k) (i : Nat) : (if i = k then x else Cl.fo O i) = Cl.fo (O ++ [x]) i := by
 subst h
 unfold Cl.fo
 rw [List.getD, List.getD]
 by_cases e : i = O.length
 ·subst e
  rw [if_pos rfl, List.getElem?_append_right (Nat.le_refl _), Nat.sub_self]
  rfl
 ·rw [if_neg e]
  rcases Nat.lt_or_ge i O.length with h | h
  ·rw [List.getElem?_append_left h]
  ·rw [List.getElem?_eq_none h, List.getElem?_eq_none (by rw [List.length_append, List.length_singleton]; omega)]
theorem Cl.Row.start {w : World} {n : Nat} : Cl.Row (w.alloc (.cells (madeCells #[.bool false, .int .i64 0, .string ⟨#[]⟩] (n * 3)) 43)) w.heap.size n (Cl.fo []) :=
 (Cl.Row.made w n).congr fun i _ => (Cl.fo_nil i).symm
theorem Cl.Row.setV {w : World} {g n : Nat} {F : Nat → Kn.V} (h : Cl.Row w g n F) (k : Nat) (x : Kn.V) : Cl.Row (((w.setCell ⟨g, k * 3, none⟩ (.bool x.null)).setCell ⟨g, k * 3 + 1, none⟩ (.int .i64 x.n)).setCell ⟨g, k * 3 + 2, none⟩ (.string x.s)) g n (fun i => if i = k then x else F i) :=
 (((h.set0 k x.null).set1 k x.n).set2 k x.s).congr fun i _ => by
   by_cases e : i = k
   ·simp [e]
   ·simp [e]
theorem Cl.Row.snoc_v {w : World} {g n k : Nat} {O : List Kn.V} (h : Cl.Row w g n (Cl.fo O)) (hk : O.length = k) (x : Kn.V) : Cl.Row (((w.setCell ⟨g, k * 3, none⟩ (.bool x.null)).setCell ⟨g, k * 3 + 1, none⟩ (.int .i64 x.n)).setCell ⟨g, k * 3 + 2, none⟩ (.string x.s)) g n (Cl.fo (O ++ [x])) :=
 (h.setV k x).congr fun i _ => Cl.fo_snoc O x hk i
theorem Cl.Row.done {w : World} {g n cap : Nat} {O : List Kn.V} (h : Cl.Row w g n (Cl.fo O)) (hO : O.length = n) (hn : n ≤ 9223372036854775807) : Kn.Vals w (.slice (some ⟨g, 0, none⟩) (n : Nat) cap) O :=
 h.vals hO (fun i x hx => by unfold Cl.fo; rw [List.getD, hx]; rfl) hn
end Go.Proofs.YtkhiemkekmdhgaaGreatDoor
namespace Go.Proofs.YtkhiemkekmdhgaaGreatDoor
open Go.RowKit
open Ty (num txt encU U64 I64)
open Ig (rest sg encI read_encI splitI)
open Tx (encT restT read_encT splitT)
structure Dd.D where
 gone : Bool
 row : List Kn.V
def Dd.flag (b : Bool) : UInt8 := if b = true then 1 else 0
def Dd.encP (c : Kn.C) (v : Kn.V) : List UInt8 := if c.k = 1 then Ig.encI v.n else encT v.s.data.toList
def Dd.encV (c : Kn.C) (v : Kn.V) : List UInt8 := (if c.null = true then [Dd.flag v.null] else []) ++ (if v.null = true then [] else Dd.encP c v)
def Dd.encR : List Kn.C → List Kn.V → List UInt8
 | c :: cs, v :: vs => Dd.encV c v ++ Dd.encR cs vs
 | _, _ => []
def Dd.enc (s : List Kn.C) (d : Dd.D) : List UInt8 := Dd.flag d.gone :: Dd.encR s d.row
def Dd.cols (s : List Kn.C) (g : Bool) : List Kn.C := if g = true then s.take 1 else s
def Dd.fitE (s : List Kn.C) (d : Dd.D) : Int :=
 if d.gone = true then (if Kn.right s = true then (match d.row with | [k] => Kn.keyE s k | _ => 7) else 4) else Kn.fitsE s d.row
def Dd.rdF : List UInt8 → Nat × Bool × List UInt8
 | [] => (2, false, [])
 | b :: r => if 1 < b.toNat then (4, false, r) else (0, b == 1, r)
def Dd.rdP (c : Kn.C) (l : List UInt8) : Nat × Kn.V × List UInt8 :=
 if c.k = 1 then ((num l).2.2, Cl.ofN (sg l), rest l) else ((txt l 64).2.2, Cl.ofS (txt l 64).1, restT l)
def Dd.rdV (c : Kn.C) (l : List UInt8) : Nat × Kn.V × List UInt8 :=
 if c.null = true then (if (Dd.rdF l).1 ≠ 0 then ((Dd.rdF l).1, Cl.ofN 0, (Dd.rdF l).2.2) else if (Dd.rdF l).2.1 = true then (0, Cl.nul, (Dd.rdF l).2.2) else Dd.rdP c (Dd.rdF l).2.2) else Dd.rdP c l
def Dd.rdR : List Kn.C → List UInt8 → Nat × List Kn.V × List UInt8
 | [], l => (0, [], l)
 | c :: cs, l => if (Dd.rdV c l).1 ≠ 0 then ((Dd.rdV c l).1, [], []) else ((Dd.rdR cs (Dd.rdV c l).2.2).1, (Dd.rdV c l).2.1 :: (Dd.rdR cs (Dd.rdV c l).2.2).2.1, (Dd.rdR cs (Dd.rdV c l).2.2).2.2)
def Dd.rd (s : List Kn.C) (l : List UInt8) : Nat × Dd.D :=
 if Kn.right s = false then (4, ⟨false, []⟩)
 else if (Dd.rdF l).1 ≠ 0 then ((Dd.rdF l).1, ⟨false, []⟩)
 else if (Dd.rdR (Dd.cols s (Dd.rdF l).2.1) (Dd.rdF l).2.2).1 ≠ 0 then ((Dd.rdR (Dd.cols s (Dd.rdF l).2.1) (Dd.rdF l).2.2).1, ⟨false, []⟩)
 else if (Dd.rdR (Dd.cols s (Dd.rdF l).2.1) (Dd.rdF l).2.2).2.2 ≠ [] then (5, ⟨false, []⟩)
 else (0, ⟨(Dd.rdF l).2.1, (Dd.rdR (Dd.cols s (Dd.rdF l).2.1) (Dd.rdF l).2.2).2.1⟩)
theorem Dd.toList_nil {s : ByteArray} (h : (s.toList == (⟨#[]⟩ : ByteArray).toList) = true) : s = ⟨#[]⟩ := by
 rw [beq_iff_eq, ByteArray.toList_eq, ByteArray.toList_eq] at h
 have h2 : s.data.toList = [] := h
 apply ByteArray.ext
 exact Array.toList_inj.1 (by rw [h2])
theorem Dd.good_iff (c : Kn.C) : c.good = true ↔ c.k = 1 ∨ c.k = 2 := by
 unfold Kn.C.good
 by_cases h1 : c.k = 1
 ·simp [h1]
 ·by_cases h2 : c.k = 2
  ·simp [h2]
  ·have e1 : (c.k != 1) = true := by rw [bne_iff_ne]; exact h1
   have e2 : (c.k != 2) = true := by rw [bne_iff_ne]; exact h2
   simp [e1, e2, h1, h2]
theorem Dd.rdF_flag (b : Bool) (r : List UInt8) : Dd.rdF (Dd.flag b :: r) = (0, b, r) := by
 cases b <;> simp [Dd.rdF, Dd.flag]
theorem Dd.rdF_only {l : List UInt8} (h : (Dd.rdF l).1 = 0) : l = Dd.flag (Dd.rdF l).2.1 :: (Dd.rdF l).2.2 := by
 cases l with
 | nil => cases h
 | cons b r =>
   simp only [Dd.rdF] at h ⊢
   by_cases h1 : 1 < b.toNat
   ·rw [if_pos h1] at h; cases h
   ·rw [if_neg h1]
    simp only [Dd.flag]
    congr 1
    by_cases e : b = 1
    ·rw [e]; rfl
    ·have e0 : b = 0 := by
      apply UInt8.toNat_inj.1
      have : b.toNat ≠ 1 := fun h => e (UInt8.toNat_inj.1 h)
      show b.toNat = 0
      omega
     rw [e0]; rfl
theorem Dd.fits_null {c : Kn.C} {v : Kn.V} (h : Kn.fits c v = true) (hv : v.null = true) : v = Cl.nul ∧ c.null = true := by
 unfold Kn.fits at h
 rw [if_pos hv] at h
 simp only [Bool.and_eq_true] at h
 obtain ⟨vn, vi, vs⟩ := v
 simp only at hv h
 rw [hv, Dd.toList_nil h.2, show vi = 0 by simpa using h.1.2]
 exact ⟨rfl, h.1.1⟩
theorem Dd.fits_num {c : Kn.C} {v : Kn.V} (hk : c.k = 1) (h : Kn.fits c v = true) (hv : v.null = false) : v = Cl.ofN v.n := by
 unfold Kn.fits at h
 rw [hv, if_neg (by decide), if_pos hk] at h
 obtain ⟨vn, vi, vs⟩ := v
 simp only at hv h
 rw [hv, Dd.toList_nil h]
 rfl
theorem Dd.fits_str {c : Kn.C} {v : Kn.V} (hk : c.k ≠ 1) (h : Kn.fits c v = true) (hv : v.null = false) : v = Cl.ofS v.s.data.toList ∧ v.s.data.toList.length ≤ 64 := by
 unfold Kn.fits at h
 rw [hv, if_neg (by decide), if_neg hk] at h
 simp only [Bool.and_eq_true, decide_eq_true_iff] at h
 obtain ⟨vn, vi, vs⟩ := v
 simp only at hv h ⊢
 rw [hv, show vi = 0 by simpa using h.1]
 exact ⟨rfl, by rw [Ty.length_data]; exact h.2⟩
theorem Dd.fits_nul {c : Kn.C} (h : c.null = true) : Kn.fits c Cl.nul = true := by simp [Kn.fits, Cl.nul, h]
theorem Dd.fits_ofN {c : Kn.C} (hk : c.k = 1) (x : Int) : Kn.fits c (Cl.ofN x) = true := by simp [Kn.fits, Cl.ofN, hk]
theorem Dd.fits_ofS {c : Kn.C} (hk : c.k ≠ 1) {t : List UInt8} (h : t.length ≤ 64) : Kn.fits c (Cl.ofS t) = true := by
 have : (Ty.S t).size ≤ 64 := h
 simp [Kn.fits, Cl.ofS, hk, this]
theorem Dd.rdP_back {c : Kn.C} {v : Kn.V} (h : Kn.fits c v = true) (hv : v.null = false) (hi : I64 v.n) (r : List UInt8) : Dd.rdP c (Dd.encP c v ++ r) = (0, v, r) := by
 unfold Dd.rdP Dd.encP
 by_cases hk : c.k = 1
 ·obtain ⟨h1, h2, h3⟩ := read_encI v.n hi r
  rw [if_pos hk, if_pos hk, h1, h2, h3, ← Dd.fits_num hk h hv]
 ·obtain ⟨e, hl⟩ := Dd.fits_str hk h hv
  obtain ⟨h1, h2, h3⟩ := read_encT v.s.data.toList hl r
  rw [if_neg hk, if_neg hk, h1, h2, h3, ← e]
theorem Dd.rdV_back {c : Kn.C} {v : Kn.V} (h : Kn.fits c v = true) (hi : I64 v.n) (r : List UInt8) : Dd.rdV c (Dd.encV c v ++ r) = (0, v, r) := by
 unfold Dd.rdV Dd.encV
 cases hn : v.null
 ·simp only [Bool.false_eq_true, if_false]
  by_cases hc : c.null = true
  ·rw [if_pos hc, if_pos hc, List.append_assoc, List.singleton_append, Dd.rdF_flag]
   simp only [ne_eq, not_true_eq_false, if_false, Bool.false_eq_true]
   exact Dd.rdP_back h hn hi r
  ·rw [if_neg hc, if_neg hc, List.nil_append]
   exact Dd.rdP_back h hn hi r
 ·obtain ⟨e, hc⟩ := Dd.fits_null h hn
  simp only [if_true]
  rw [if_pos hc, if_pos hc, List.append_nil, List.singleton_append, Dd.rdF_flag]
  simp only [ne_eq, not_true_eq_false, if_false, if_true]
  rw [e]
theorem Dd.rdP_only {c : Kn.C} {l : List UInt8} (h : (Dd.rdP c l).1 = 0) : l = Dd.encP c (Dd.rdP c l).2.1 ++ (Dd.rdP c l).2.2 ∧ Kn.fits c (Dd.rdP c l).2.1 = true ∧ (Dd.rdP c l).2.1.null = false ∧ I64 (Dd.rdP c l).2.1.n := by
 by_cases hk : c.k = 1
 ·have e : Dd.rdP c l = ((num l).2.2, Cl.ofN (sg l), rest l) := by unfold Dd.rdP; rw [if_pos hk]
  rw [e] at h ⊢
  refine ⟨?_, Dd.fits_ofN hk _, rfl, Ig.sg_i64 l⟩
  unfold Dd.encP
  rw [if_pos hk]
  exact splitI h
 ·have e : Dd.rdP c l = ((txt l 64).2.2, Cl.ofS (txt l 64).1, restT l) := by unfold Dd.rdP; rw [if_neg hk]
  rw [e] at h ⊢
  obtain ⟨h1, h2⟩ := splitT h
  refine ⟨?_, Dd.fits_ofS hk h2, rfl, ⟨by show _ ≤ (0 : Int); omega, by show (0 : Int) ≤ _; omega⟩⟩
  unfold Dd.encP
  rw [if_neg hk]
  show l = encT (Ty.S (txt l 64).1).data.toList ++ restT l
  rw [Ty.data_S]
  exact h1
theorem Dd.rdV_only {c : Kn.C} {l : List UInt8} (h : (Dd.rdV c l).1 = 0) : l = Dd.encV c (Dd.rdV c l).2.1 ++ (Dd.rdV c l).2.2 ∧ Kn.fits c (Dd.rdV c l).2.1 = true ∧ I64 (Dd.rdV c l).2.1.n := by
 unfold Dd.rdV at h ⊢
 by_cases hc : c.null = true
 ·rw [if_pos hc] at h ⊢
  by_cases h1 : (Dd.rdF l).1 ≠ 0
  ·rw [if_pos h1] at h; exact absurd h h1
  ·rw [if_neg h1] at h ⊢
   have hl := Dd.rdF_only (by simpa using h1)
   cases hb : (Dd.rdF l).2.1
   ·rw [hb] at h hl
    rw [if_neg (by decide)] at h ⊢
    obtain ⟨e1, e2, e3, e4⟩ := Dd.rdP_only h
    refine ⟨?_, e2, e4⟩
    unfold Dd.encV
    rw [if_pos hc, e3, if_neg (by decide), List.append_assoc, List.singleton_append, ← e1]
    exact hl
   ·rw [hb] at hl
    rw [if_pos rfl]
    refine ⟨?_, Dd.fits_nul hc, ⟨by show _ ≤ (0 : Int); omega, by show (0 : Int) ≤ _; omega⟩⟩
    show l = Dd.encV c Cl.nul ++ (Dd.rdF l).2.2
    unfold Dd.encV
    rw [if_pos hc, show Cl.nul.null = true from rfl, if_pos rfl, List.append_nil, List.singleton_append]
    exact hl
 ·rw [if_neg hc] at h ⊢
  obtain ⟨e1, e2, e3, e4⟩ := Dd.rdP_only h
  refine ⟨?_, e2, e4⟩
  unfold Dd.encV
  rw [if_neg hc, e3, if_neg (by decide), List.nil_append]
  exact e1
theorem Dd.rdR_back : ∀ (s : List Kn.C) (vs : List Kn.V), vs.length = s.length → Kn.fitsAll s vs = true → (∀ v ∈ vs, I64 v.n) → ∀ r, Dd.rdR s (Dd.encR s vs ++ r) = (0, vs, r)
 | [], [], _, _, _, r => rfl
 | [], _ :: _, h, _, _, _ => by simp at h
 | _ :: _, [], h, _, _, _ => by simp at h
 | c :: cs, v :: vs, hl, hf, hi, r => by
   simp only [Kn.fitsAll, Bool.and_eq_true] at hf
   have e := Dd.rdV_back hf.1 (hi v (by simp)) (Dd.encR cs vs ++ r)
   have ih := Dd.rdR_back cs vs (by simpa using hl) hf.2 (fun x hx => hi x (by simp [hx])) r
   simp only [Dd.encR, List.append_assoc, Dd.rdR, e, ih, ne_eq, not_true_eq_false, if_false]
theorem Dd.rdR_only : ∀ (s : List Kn.C) (l : List UInt8), (Dd.rdR s l).1 = 0 → l = Dd.encR s (Dd.rdR s l).2.1 ++ (Dd.rdR s l).2.2 ∧ (Dd.rdR s l).2.1.length = s.length ∧ Kn.fitsAll s (Dd.rdR s l).2.1 = true ∧ ∀ v ∈ (Dd.rdR s l).2.1, I64 v.n
 | [], l, _ => ⟨rfl, rfl, rfl, fun v hv => by cases hv⟩
 | c :: cs, l, h => by
   simp only [Dd.rdR] at h ⊢
   by_cases h1 : (Dd.rdV c l).1 ≠ 0
   ·rw [if_pos h1] at h; exact absurd h h1
   ·rw [if_neg h1] at h ⊢
    obtain ⟨a1, a2, a3⟩ := Dd.rdV_only (c := c) (l := l) (by simpa using h1)
    obtain ⟨b1, b2, b3, b4⟩ := Dd.rdR_only cs (Dd.rdV c l).2.2 h
    refine ⟨?_, by simp [b2], by simp [Kn.fitsAll, a2, b3], fun v hv => ?_⟩
    ·simp only [Dd.encR, List.append_assoc]
     rw [← b1]
     exact a1
    ·rcases List.mem_cons.1 hv with rfl | hv
     ·exact a3
     ·exact b4 v hv
theorem Dd.fitE_0 {s : List Kn.C} {d : Dd.D} (h : Dd.fitE s d = 0) : Kn.right s = true ∧ d.row.length = (Dd.cols s d.gone).length ∧ Kn.fitsAll (Dd.cols s d.gone) d.row = true := by
 unfold Dd.fitE at h
 unfold Dd.cols
 cases hg : d.gone
 ·rw [hg, if_neg (by decide)] at h
  rw [if_neg (by decide)]
  unfold Kn.fitsE at h
  by_cases h1 : Kn.right s = true
  ·rw [if_pos h1] at h
   by_cases h2 : d.row.length = s.length
   ·rw [if_pos h2] at h
    by_cases h3 : Kn.fitsAll s d.row = true
    ·exact ⟨h1, h2, h3⟩
    ·rw [if_neg h3] at h; cases h
   ·rw [if_neg h2] at h; cases h
  ·rw [if_neg h1] at h; cases h
 ·rw [hg, if_pos rfl] at h
  rw [if_pos rfl]
  by_cases h1 : Kn.right s = true
  ·rw [if_pos h1] at h
   have hl := Kn.right_len h1
   obtain ⟨g, row⟩ := d
   simp only at h ⊢
   match row, s, h, hl with
   | [k], c :: cs, h, _ =>
     simp only at h
     unfold Kn.keyE at h
     rw [if_pos h1] at h
     simp only at h
     by_cases h3 : Kn.fits c k = true
     ·exact ⟨h1, rfl, by simp [Kn.fitsAll, h3]⟩
     ·rw [if_neg h3] at h; cases h
   | [], _, h, _ => cases h
   | _ :: _ :: _, _, h, _ => cases h
   | [_], [], _, hl => simp at hl
  ·rw [if_neg h1] at h; cases h
theorem Dd.fitE_of {s : List Kn.C} {d : Dd.D} (h1 : Kn.right s = true) (h2 : d.row.length = (Dd.cols s d.gone).length) (h3 : Kn.fitsAll (Dd.cols s d.gone) d.row = true) : Dd.fitE s d = 0 := by
 unfold Dd.fitE
 unfold Dd.cols at h2 h3
 obtain ⟨g, row⟩ := d
 cases g
 ·simp only [Bool.false_eq_true, if_false] at h2 h3 ⊢
  unfold Kn.fitsE
  rw [if_pos h1, if_pos h2, if_pos h3]
 ·have hl := Kn.right_len h1
  simp only [if_true] at h2 h3 ⊢
  rw [if_pos h1]
  match s, row, h1, h2, h3, hl with
  | c :: cs, [k], h1, _, h3, _ =>
    simp only [Kn.fitsAll, List.take_succ_cons, List.take_zero, Bool.and_true] at h3
    show Kn.keyE (c :: cs) k = 0
    unfold Kn.keyE
    rw [if_pos h1]
    simp only
    rw [if_pos h3]
  | [], _, _, _, _, hl => simp at hl
  | c :: cs, [], _, h2, _, _ => simp at h2
  | c :: cs, _ :: _ :: _, _, h2, _, _ => simp at h2
theorem Dd.encR_cols {s : List Kn.C} {g : Bool} {row : List Kn.V} (h : row.length = (Dd.cols s g).length) : Dd.encR s row = Dd.encR (Dd.cols s g) row := by
 unfold Dd.cols at h ⊢
 cases g
 ·rfl
 ·rw [if_pos rfl] at h ⊢
  match s, row, h with
  | [], _, _ => rfl
  | c :: cs, [], h => simp at h
  | c :: cs, [v], _ => simp [Dd.encR]
  | c :: cs, _ :: _ :: _, h => simp at h
theorem Dd.rd_enc' {s : List Kn.C} {d : Dd.D} (h : Dd.fitE s d = 0) (hi : ∀ v ∈ d.row, I64 v.n) (r : List UInt8) : Dd.rd s (Dd.enc s d ++ r) = if r = [] then (0, d) else (5, ⟨false, []⟩) := by
 obtain ⟨h1, h2, h3⟩ := Dd.fitE_0 h
 have e := Dd.rdR_back (Dd.cols s d.gone) d.row h2 h3 hi r
 have ef : Dd.rdF (Dd.enc s d ++ r) = (0, d.gone, Dd.encR (Dd.cols s d.gone) d.row ++ r) := by
  unfold Dd.enc
  rw [List.cons_append, Dd.rdF_flag, Dd.encR_cols h2]
 unfold Dd.rd
 rw [ef]
 simp only [e, h1, ne_eq, not_true_eq_false, if_false, Bool.true_eq_false]
 by_cases hr : r = []
 ·rw [if_pos hr, if_neg (by simp [hr])]
 ·rw [if_neg hr, if_pos hr]
theorem Dd.rd_enc {s : List Kn.C} {d : Dd.D} (h : Dd.fitE s d = 0) (hi : ∀ v ∈ d.row, I64 v.n) : Dd.rd s (Dd.enc s d) = (0, d) := by
 have := Dd.rd_enc' h hi []
 rwa [List.append_nil, if_pos rfl] at this
theorem Dd.enc_rd {s : List Kn.C} {l : List UInt8} (h : (Dd.rd s l).1 = 0) : Dd.fitE s (Dd.rd s l).2 = 0 ∧ Dd.enc s (Dd.rd s l).2 = l ∧ ∀ v ∈ (Dd.rd s l).2.row, I64 v.n := by
 unfold Dd.rd at h ⊢
 by_cases h1 : Kn.right s = false
 ·rw [if_pos h1] at h; cases h
 ·rw [if_neg h1] at h ⊢
  by_cases h2 : (Dd.rdF l).1 ≠ 0
  ·rw [if_pos h2] at h; exact absurd h h2
  ·rw [if_neg h2] at h ⊢
   by_cases h3 : (Dd.rdR (Dd.cols s (Dd.rdF l).2.1) (Dd.rdF l).2.2).1 ≠ 0
   ·rw [if_pos h3] at h; exact absurd h h3
   ·rw [if_neg h3] at h ⊢
    by_cases h4 : (Dd.rdR (Dd.cols s (Dd.rdF l).2.1) (Dd.rdF l).2.2).2.2 ≠ []
    ·rw [if_pos h4] at h; cases h
    ·rw [if_neg h4]
     obtain ⟨b1, b2, b3, b4⟩ := Dd.rdR_only _ _ (by simpa using h3 : (Dd.rdR (Dd.cols s (Dd.rdF l).2.1) (Dd.rdF l).2.2).1 = 0)
     have hl := Dd.rdF_only (by simpa using h2)
     have e4 : (Dd.rdR (Dd.cols s (Dd.rdF l).2.1) (Dd.rdF l).2.2).2.2 = [] := by simpa using h4
     rw [e4, List.append_nil] at b1
     refine ⟨Dd.fitE_of (by simpa using h1) b2 b3, ?_, b4⟩
     unfold Dd.enc
     rw [Dd.encR_cols b2, ← b1]
     exact hl.symm
theorem Dd.more {s : List Kn.C} {l : List UInt8} (h : (Dd.rd s l).1 = 0) (x : UInt8) : (Dd.rd s (l ++ [x])).1 = 5 := by
 obtain ⟨h1, h2, h3⟩ := Dd.enc_rd h
 have := Dd.rd_enc' h1 h3 [x]
 rw [h2, if_neg (by simp)] at this
 rw [this]
theorem Dd.encV_pos {c : Kn.C} {v : Kn.V} (h : Kn.fits c v = true) : Dd.encV c v ≠ [] := by
 unfold Dd.encV
 by_cases hc : c.null = true
 ·rw [if_pos hc]; simp
 ·rw [if_neg hc, List.nil_append]
  cases hn : v.null
  ·rw [if_neg (by decide)]
   unfold Dd.encP
   split
   ·intro e
    have : 0 < (Ig.encI v.n).length := by unfold Ig.encI; rw [Ty.encU_length]; omega
    rw [e] at this
    simp at this
   ·intro e
    have : 0 < (encT v.s.data.toList).length := by unfold encT; rw [List.length_append, Ty.encU_length]; omega
    rw [e] at this
    simp at this
  ·exact absurd (Dd.fits_null h hn).2 hc
theorem Dd.fitsAll_snoc : ∀ (s : List Kn.C) (c : Kn.C) (vs : List Kn.V) (v : Kn.V), vs.length = s.length → Kn.fitsAll (s ++ [c]) (vs ++ [v]) = (Kn.fitsAll s vs && Kn.fits c v)
 | [], c, [], v, _ => by simp [Kn.fitsAll]
 | [], _, _ :: _, _, h => by simp at h
 | _ :: _, _, [], _, h => by simp at h
 | a :: s, c, x :: vs, v, h => by
   simp only [List.cons_append, Kn.fitsAll]
   rw [Dd.fitsAll_snoc s c vs v (by simpa using h), Bool.and_assoc]
theorem Dd.encR_snoc : ∀ (s : List Kn.C) (c : Kn.C) (vs : List Kn.V) (v : Kn.V), vs.length = s.length → Dd.encR (s ++ [c]) (vs ++ [v]) = Dd.encR s vs ++ Dd.encV c v
 | [], c, [], v, _ => by simp [Dd.encR]
 | [], _, _ :: _, _, h => by simp at h
 | _ :: _, _, [], _, h => by simp at h
 | a :: s, c, x :: vs, v, h => by
   simp only [List.cons_append, Dd.encR]
   rw [Dd.encR_snoc s c vs v (by simpa using h), List.append_assoc]
theorem Dd.rdR_snoc : ∀ (s : List Kn.C) (c : Kn.C) (l : List UInt8), (Dd.rdR s l).1 = 0 → (Dd.rdR (s ++ [c]) l).1 = (Dd.rdV c (Dd.rdR s l).2.2).1
 | [], c, l, _ => by
   simp only [List.nil_append, Dd.rdR]
   by_cases h : (Dd.rdV c l).1 ≠ 0
   ·rw [if_pos h]
   ·rw [if_neg h]
    exact (by simpa using h : (Dd.rdV c l).1 = 0).symm
 | a :: s, c, l, h => by
   simp only [List.cons_append, Dd.rdR] at h ⊢
   by_cases h1 : (Dd.rdV a l).1 ≠ 0
   ·rw [if_pos h1] at h; exact absurd h h1
   ·rw [if_neg h1] at h ⊢
    rw [if_neg h1]
    exact Dd.rdR_snoc s c _ h
theorem Dd.cut {s : List Kn.C} {c : Kn.C} {vs : List Kn.V} (hs : Kn.right s = true) (h : Dd.fitE (s ++ [c]) ⟨false, vs⟩ = 0) (hi : ∀ v ∈ vs, I64 v.n) : (Dd.rd s (Dd.enc (s ++ [c]) ⟨false, vs⟩)).1 = 5 := by
 obtain ⟨h1, h2, h3⟩ := Dd.fitE_0 h
 have hl : vs.length = s.length + 1 := by simpa [Dd.cols] using h2
 have hne : vs ≠ [] := by intro e; rw [e] at hl; simp at hl
 have e := (List.dropLast_concat_getLast hne).symm
 have hdl : vs.dropLast.length = s.length := by rw [List.length_dropLast]; omega
 have h3' : Kn.fitsAll (s ++ [c]) (vs.dropLast ++ [vs.getLast hne]) = true := by rw [← e]; simpa [Dd.cols] using h3
 rw [Dd.fitsAll_snoc _ _ _ _ hdl, Bool.and_eq_true] at h3'
 have hf : Dd.fitE s ⟨false, vs.dropLast⟩ = 0 := Dd.fitE_of hs hdl h3'.1
 have := Dd.rd_enc' hf (fun v hv => hi v (List.dropLast_subset _ hv)) (Dd.encV c (vs.getLast hne))
 rw [if_neg (Dd.encV_pos h3'.2)] at this
 have e2 : Dd.enc (s ++ [c]) ⟨false, vs⟩ = Dd.enc s ⟨false, vs.dropLast⟩ ++ Dd.encV c (vs.getLast hne) := by
  show Dd.flag false :: Dd.encR (s ++ [c]) vs = Dd.flag false :: Dd.encR s vs.dropLast ++ _
  conv => lhs; rw [e]
  rw [Dd.encR_snoc _ _ _ _ hdl]
  rfl
 rw [e2, this]
theorem Dd.wide {s : List Kn.C} {vs : List Kn.V} (hs : Kn.right (s ++ [⟨1, false⟩]) = true) (h : Dd.fitE s ⟨false, vs⟩ = 0) (hi : ∀ v ∈ vs, I64 v.n) : (Dd.rd (s ++ [⟨1, false⟩]) (Dd.enc s ⟨false, vs⟩)).1 = 2 := by
 obtain ⟨h1, h2, h3⟩ := Dd.fitE_0 h
 have e := Dd.rdR_back s vs h2 h3 hi []
 rw [List.append_nil] at e
 have e2 := Dd.rdR_snoc s ⟨1, false⟩ (Dd.encR s vs) (by rw [e])
 rw [e] at e2
 have e3 : (Dd.rdV ⟨1, false⟩ []).1 = 2 := rfl
 simp only at e2
 rw [e3] at e2
 have ef : Dd.rdF (Dd.enc s ⟨false, vs⟩) = (0, false, Dd.encR s vs) := Dd.rdF_flag false _
 have ec : Dd.cols (s ++ [⟨1, false⟩]) false = s ++ [⟨1, false⟩] := rfl
 unfold Dd.rd
 rw [ef]
 simp only [hs, ne_eq, not_true_eq_false, if_false, Bool.true_eq_false, ec]
 rw [if_pos (by rw [e2]; decide), e2]
end Go.Proofs.YtkhiemkekmdhgaaGreatDoor
