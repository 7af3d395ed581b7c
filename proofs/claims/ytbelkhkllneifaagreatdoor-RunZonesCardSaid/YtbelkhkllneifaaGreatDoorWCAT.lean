/-
  
  
  
  
  
  
  
  
  
  
  
-/
import Derived.Test.YtbelkhkllneifaaGreatDoorWCAS
import Derived.Deep.RegionHeld3
import Derived.Deep.OwnRows
import Derived.Test.YtbelkhkllneifaaGreatDoorWCAG
import Derived.Test.YtbelkhkllneifaaGreatDoorWCAH
import Derived.Sort.Walk0
import Derived.Lib.Walk
import Derived.Maps.OwnOps
import Derived.Maps.OwnSet
import Derived.Sort.KeysCollected
import Derived.Test.YtbelkhkllneifaaGreatDoorLay
import Derived.Test.YtbelkhkllneifaaGreatDoorWCAQ
namespace Go.Proofs.YtbelkhkllneifaaGreatDoor
open Go.RowKit
open Ty (I64)
open Ig (encI)
open Tx (encT)
def Dd.wS (s : List Kn.C) (d : Dd.D) : List UInt8 := if Dd.fitE s d = 0 then Dd.enc s d else []
def Dd.wV (s : List Kn.C) (d : Dd.D) : Value := .tuple #[.string (Ty.S (Dd.wS s d)), .int .i64 (Dd.fitE s d)]
theorem Dd.wV_bad {s : List Kn.C} {d : Dd.D} (h : Dd.fitE s d ≠ 0) : Dd.wV s d = .tuple #[.string (Ty.S []), .int .i64 (Dd.fitE s d)] := by
 unfold Dd.wV Dd.wS
 rw [if_neg h]
theorem Dd.wV_ok {s : List Kn.C} {d : Dd.D} (h : Dd.fitE s d = 0) : Dd.wV s d = .tuple #[.string (Ty.S (Dd.enc s d)), .int .i64 0] := by
 unfold Dd.wV Dd.wS
 rw [h, if_pos rfl]
def Dd.pre (s : List Kn.C) (g : Bool) (r : List Kn.V) (k : Nat) : List UInt8 := Dd.flag g :: Dd.encR (s.take k) (r.take k)
theorem Dd.pre_step {s : List Kn.C} {g : Bool} {r : List Kn.V} {k : Nat} {c : Kn.C} {v : Kn.V} (hc : s[k]? = some c) (hv : r[k]? = some v) : Dd.pre s g r (k + 1) = Dd.pre s g r k ++ Dd.encV c v := by
 obtain ⟨h1, rfl⟩ := List.getElem?_eq_some_iff.1 hc
 obtain ⟨h2, rfl⟩ := List.getElem?_eq_some_iff.1 hv
 unfold Dd.pre
 rw [List.take_succ_eq_append_getElem h1, List.take_succ_eq_append_getElem h2, Dd.encR_snoc _ _ _ _ (by rw [List.length_take, List.length_take]; omega)]
 rfl
theorem Dd.pre_all {s : List Kn.C} {d : Dd.D} (h : Dd.fitE s d = 0) : Dd.pre s d.gone d.row d.row.length = Dd.enc s d := by
 obtain ⟨_, h2, _⟩ := Dd.fitE_0 h
 unfold Dd.pre Dd.enc
 rw [List.take_length]
 congr 1
 unfold Dd.cols at h2
 obtain ⟨g, r⟩ := d
 cases g
 ·simp only [Bool.false_eq_true, if_false] at h2 ⊢
  rw [h2, List.take_length]
 ·simp only [if_true] at h2 ⊢
  match s, r, h2 with
  | [], [], _ => rfl
  | [], _ :: _, h2 => simp at h2
  | c :: cs, [], h2 => simp at h2
  | c :: cs, [x], _ => simp [Dd.encR]
  | c :: cs, _ :: _ :: _, h2 => simp at h2
theorem Dd.encV_len {c : Kn.C} {v : Kn.V} (h : Kn.fits c v = true) : (Dd.encV c v).length ≤ 80 := by
 unfold Dd.encV
 rw [List.length_append]
 have h1 : (if c.null = true then [Dd.flag v.null] else []).length ≤ 1 := by split <;> simp
 have h2 : (if v.null = true then [] else Dd.encP c v).length ≤ 73 := by
  cases hn : v.null
  ·rw [if_neg (by decide)]
   unfold Dd.encP
   by_cases hk : c.k = 1
   ·rw [if_pos hk]
    have := Ty.encU_len9 (Ty.zig v.n).toNat
    unfold Ig.encI
    omega
   ·rw [if_neg hk]
    have h64 := (Dd.fits_str hk h hn).2
    have := Ty.encU_len9 v.s.data.toList.length
    unfold encT
    rw [List.length_append]
    omega
  ·simp
 omega
theorem Dd.encR_len : ∀ (s : List Kn.C) (r : List Kn.V), Kn.fitsAll s r = true → (Dd.encR s r).length ≤ 80 * r.length
 | [], [], _ => by simp [Dd.encR]
 | [], _ :: _, _ => by simp [Dd.encR]
 | _ :: _, [], _ => by simp [Dd.encR]
 | c :: cs, v :: vs, h => by
   simp only [Kn.fitsAll, Bool.and_eq_true] at h
   have h1 := Dd.encV_len h.1
   have h2 := Dd.encR_len cs vs h.2
   simp only [Dd.encR, List.length_append, List.length_cons]
   omega
theorem Dd.fitsAll_at : ∀ (s : List Kn.C) (r : List Kn.V) (k : Nat) (c : Kn.C) (v : Kn.V), Kn.fitsAll s r = true → s[k]? = some c → r[k]? = some v → Kn.fits c v = true
 | [], _, _, _, _, _, h, _ => by simp at h
 | _ :: _, [], _, _, _, _, _, h => by simp at h
 | a :: s, x :: r, 0, c, v, hf, hc, hv => by
   obtain rfl : a = c := by simpa using hc
   obtain rfl : x = v := by simpa using hv
   simp only [Kn.fitsAll, Bool.and_eq_true] at hf
   exact hf.1
 | a :: s, x :: r, k + 1, c, v, hf, hc, hv => by
   simp only [Kn.fitsAll, Bool.and_eq_true] at hf
   exact Dd.fitsAll_at s r k c v hf.2 (by simpa using hc) (by simpa using hv)
theorem Dd.fitsAll_take : ∀ (s : List Kn.C) (r : List Kn.V) (k : Nat), Kn.fitsAll s r = true → Kn.fitsAll (s.take k) (r.take k) = true
 | [], r, k, _ => by simp [Kn.fitsAll]
 | _ :: _, [], k, _ => by cases k <;> simp [Kn.fitsAll]
 | a :: s, x :: r, 0, _ => by simp [Kn.fitsAll]
 | a :: s, x :: r, k + 1, h => by
   simp only [Kn.fitsAll, Bool.and_eq_true, List.take_succ_cons] at h ⊢
   exact ⟨h.1, Dd.fitsAll_take s r k h.2⟩
theorem Dd.fit_at {s : List Kn.C} {d : Dd.D} (h : Dd.fitE s d = 0) : d.row.length ≤ 6 ∧ d.row.length ≤ s.length ∧ ∀ (k : Nat) (c : Kn.C) (v : Kn.V), s[k]? = some c → d.row[k]? = some v → Kn.fits c v = true := by
 obtain ⟨h1, h2, h3⟩ := Dd.fitE_0 h
 have hl := Kn.right_len h1
 have hc : (Dd.cols s d.gone).length ≤ s.length := by
  unfold Dd.cols
  split
  ·rw [List.length_take]; omega
  ·exact Nat.le_refl _
 refine ⟨by omega, by omega, fun k c v hk hv => ?_⟩
 refine Dd.fitsAll_at _ _ k c v h3 ?_ hv
 have hkl := (List.getElem?_eq_some_iff.1 hv).1
 unfold Dd.cols at h2 ⊢
 split
 ·rename_i hg
  rw [if_pos hg, List.length_take] at h2
  rw [List.getElem?_take_of_lt (by omega)]
  exact hk
 ·exact hk
theorem Dd.pre_len {s : List Kn.C} {d : Dd.D} (h : Dd.fitE s d = 0) {k : Nat} (hk : k ≤ d.row.length) : (Dd.pre s d.gone d.row k).length ≤ 500 := by
 obtain ⟨h1, h2, h3⟩ := Dd.fit_at h
 have hf : Kn.fitsAll (s.take k) (d.row.take k) = true := by
  obtain ⟨_, a2, a3⟩ := Dd.fitE_0 h
  have e : s.take k = (Dd.cols s d.gone).take k := by
   unfold Dd.cols at a2 ⊢
   split
   ·rename_i hg
    rw [if_pos hg, List.length_take] at a2
    rw [List.take_take]
    congr 1
    omega
   ·rfl
  rw [e]
  exact Dd.fitsAll_take _ _ k a3
 have := Dd.encR_len _ _ hf
 unfold Dd.pre
 rw [List.length_cons]
 have hl : (d.row.take k).length ≤ 6 := by rw [List.length_take]; omega
 omega
end Go.Proofs.YtbelkhkllneifaaGreatDoor

namespace Go.Proofs.YtbelkhkllneifaaGreatDoor
open Go.RowKit
open Ty (I64)
open Ig (encI)
open Tx (encT)
end Go.Proofs.YtbelkhkllneifaaGreatDoor

namespace Go.Proofs.YtbelkhkllneifaaGreatDoor
open Go.RowKit
open Ty (num txt)
def Dd.MidR (cs : List Kn.C) (l : List UInt8) (k : Nat) (M : List Kn.V) (l2 : List UInt8) : Prop :=
 M.length = k ∧ k ≤ cs.length ∧ Dd.rdR cs l = ((Dd.rdR (cs.drop k) l2).1, M ++ (Dd.rdR (cs.drop k) l2).2.1, (Dd.rdR (cs.drop k) l2).2.2)
theorem Dd.MidR.fail {cs : List Kn.C} {l : List UInt8} {k : Nat} {M : List Kn.V} {l2 : List UInt8} (h : Dd.MidR cs l k M l2) {c : Kn.C} (hc : cs[k]? = some c) (hq : (Dd.rdV c l2).1 ≠ 0) : (Dd.rdR cs l).1 = (Dd.rdV c l2).1 := by
 obtain ⟨_, _, h3⟩ := h
 obtain ⟨h1, rfl⟩ := List.getElem?_eq_some_iff.1 hc
 rw [h3, List.drop_eq_getElem_cons h1]
 simp only [Dd.rdR]
 rw [if_pos hq]
theorem Dd.MidR.next {cs : List Kn.C} {l : List UInt8} {k : Nat} {M : List Kn.V} {l2 : List UInt8} (h : Dd.MidR cs l k M l2) {c : Kn.C} (hc : cs[k]? = some c) (hq : (Dd.rdV c l2).1 = 0) : Dd.MidR cs l (k + 1) (M ++ [(Dd.rdV c l2).2.1]) (Dd.rdV c l2).2.2 := by
 obtain ⟨a1, _, h3⟩ := h
 obtain ⟨h1, rfl⟩ := List.getElem?_eq_some_iff.1 hc
 refine ⟨by rw [List.length_append, a1]; rfl, h1, ?_⟩
 rw [h3, List.drop_eq_getElem_cons h1]
 simp only [Dd.rdR]
 rw [if_neg (by rw [hq]; simp)]
 simp only [List.append_assoc, List.singleton_append]
theorem Dd.MidR.done {cs : List Kn.C} {l : List UInt8} {k : Nat} {M : List Kn.V} {l2 : List UInt8} (h : Dd.MidR cs l k M l2) (hk : k = cs.length) : Dd.rdR cs l = (0, M, l2) := by
 obtain ⟨_, _, h3⟩ := h
 rw [h3, hk, List.drop_length]
 simp [Dd.rdR]
def Dd.Fresh (B : Nat) (v : Value) : Prop := ∀ k, v.ownBlock = some k → B ≤ k
theorem Dd.Fresh.nil (B : Nat) : Dd.Fresh B (.slice none 0 0) := fun k h => by cases h
theorem Dd.Fresh.mono {B B' : Nat} {v : Value} (h : Dd.Fresh B v) (hb : B' ≤ B) : Dd.Fresh B' v := fun k hk => Nat.le_trans hb (h k hk)
def Dd.Got (w : World) (r : Nat × Dd.D) (e : Ending) (w' : World) : Prop :=
 ∃ u, e = .returned (.tuple #[.agg #[.bool r.2.gone, u], .int .i64 ((r.1 : Nat) : Int)]) ∧ Kn.Vals w' u r.2.row ∧ Dd.Fresh w.heap.size u ∧ Below w.heap.size w w'
theorem Dd.Got.bad {w w' : World} {r : Nat × Dd.D} {z : Int} {q : Nat} (hr : r = (q, ⟨false, []⟩)) (hz : z = (q : Int)) (g : Below w.heap.size w w') : Dd.Got w r (.returned (.tuple #[.agg #[.bool false, .slice none 0 0], .int .i64 z])) w' :=
 ⟨_, by rw [hr, hz], by rw [hr]; exact ⟨_, 0, rfl, .inl rfl⟩, Dd.Fresh.nil _, g⟩
theorem Dd.Got.good {w w' : World} {r : Nat × Dd.D} {u : Value} {B : Bool} {L : List Kn.V} (hr : r = (0, ⟨B, L⟩)) (h : Kn.Vals w' u L) (hf : Dd.Fresh w.heap.size u) (g : Below w.heap.size w w') : Dd.Got w r (.returned (.tuple #[.agg #[.bool B, u], .int .i64 0])) w' :=
 ⟨u, by rw [hr]; rfl, by rw [hr]; exact h, hf, g⟩
theorem Dd.two {w : World} {q : Nat} {x y : Value} {t : TypeId} (h : w.heap[q]? = some (.cells #[x, y] t (0, 0))) : w.cell? ⟨q, 0, none⟩ = some x ∧ w.cell? ⟨q, 1, none⟩ = some y ∧ w.frozen? ⟨q, 0, none⟩ = false ∧ w.frozen? ⟨q, 1, none⟩ = false := by
 refine ⟨?_, ?_, ?_, ?_⟩ <;> simp [World.cell?, World.frozen?, h]
end Go.Proofs.YtbelkhkllneifaaGreatDoor

namespace Go.Proofs.YtbelkhkllneifaaGreatDoor
open Go.RowKit
open Ty (num)
open Ig (rest)
def Bk.GotF (w : World) (r : Nat × List Kn.V) (e : Ending) (w' : World) : Prop :=
 ∃ v, e = .returned (.tuple #[v, .int .i64 ((r.1 : Nat) : Int)]) ∧ Kn.Vals w' v r.2 ∧ Dd.Fresh w.heap.size v ∧ Below w.heap.size w w'
theorem Bk.GotF.bad {w w' : World} {r : Nat × List Kn.V} {z : Int} {q : Nat} (hr : r = (q, [])) (hz : z = (q : Int)) (g : Below w.heap.size w w') : Bk.GotF w r (.returned (.tuple #[.slice none 0 0, .int .i64 z])) w' :=
 ⟨_, by rw [hr, hz], by rw [hr]; exact ⟨_, 0, rfl, .inl rfl⟩, Dd.Fresh.nil _, g⟩
theorem Bk.GotF.good {w w' : World} {r : Nat × List Kn.V} {v : Value} {L : List Kn.V} (hr : r = (0, L)) (h : Kn.Vals w' v L) (hf : Dd.Fresh w.heap.size v) (g : Below w.heap.size w w') : Bk.GotF w r (.returned (.tuple #[v, .int .i64 0])) w' :=
 ⟨v, by rw [hr]; rfl, by rw [hr]; exact h, hf, g⟩
end Go.Proofs.YtbelkhkllneifaaGreatDoor

namespace Go.Proofs.YtbelkhkllneifaaGreatDoor
open Go.RowKit
open Ty (num)
open Ig (rest)
theorem Cl.fits_is {c : Kn.C} (h : c.good = true) (v : Kn.V) : Kn.fits c v = Cl.is c v := by
 rw [Kn.isK_fits c v h]
 unfold Cl.is
 cases v.null <;> cases c.null <;> simp
def Cl.sch (c : Kn.C) : List Kn.C := [⟨1, false⟩, c]
theorem Cl.sch_right (c : Kn.C) : Kn.right (Cl.sch c) = c.good := by
 simp [Cl.sch, Kn.right, Kn.headOk, Kn.C.good]
theorem Cl.fits_zero : Kn.fits ⟨1, false⟩ (Cl.ofN 0) = true := by
 unfold Kn.fits Cl.ofN
 simp
theorem Cl.sch_fits {c : Kn.C} (h : c.good = true) (v : Kn.V) : Kn.fitsE (Cl.sch c) [Cl.ofN 0, v] = if Cl.is c v = true then 0 else 6 := by
 have hf : Kn.fitsAll (Cl.sch c) [Cl.ofN 0, v] = Cl.is c v := by
  show (Kn.fits ⟨1, false⟩ (Cl.ofN 0) && (Kn.fits c v && true)) = _
  rw [Cl.fits_zero, Cl.fits_is h]
  simp
 unfold Kn.fitsE
 rw [Cl.sch_right, if_pos h, if_pos (show [Cl.ofN 0, v].length = (Cl.sch c).length from rfl), hf]
def Cl.pv (k : Int) (M : List Kn.V) : List UInt8 :=
 if k = 1 then Ig.enc (Ig.bk (M.map fun v => v.n) 3) (M.map fun v => v.n) else Tx.enc (Tx.bestK (M.map fun v => v.s.data.toList)) (M.map fun v => v.s.data.toList)
theorem Cl.pv_live (c : Kn.C) (l : List Kn.V) : Cl.pv c.k (Cl.live l) = Cl.vals c l := rfl
def Cl.cnt (F : Nat → Bool) : Nat → Nat
 | 0 => 0
 | k + 1 => Cl.cnt F k + (if F k = true then 0 else 1)
theorem Cl.cnt_null {F : Nat → Bool} {k : Nat} (h : F k = true) : Cl.cnt F (k + 1) = Cl.cnt F k := by simp [Cl.cnt, h]
theorem Cl.cnt_live {F : Nat → Bool} {k : Nat} (h : F k = false) : Cl.cnt F (k + 1) = Cl.cnt F k + 1 := by simp [Cl.cnt, h]
theorem Cl.cnt_le (F : Nat → Bool) : ∀ n, Cl.cnt F n ≤ n
 | 0 => Nat.le_refl _
 | k + 1 => by
   have := Cl.cnt_le F k
   simp only [Cl.cnt]
   split <;> omega
theorem Cl.cnt_mono (F : Nat → Bool) {k : Nat} : ∀ {n : Nat}, k ≤ n → Cl.cnt F k ≤ Cl.cnt F n
 | 0, h => by
   obtain rfl : k = 0 := by omega
   exact Nat.le_refl _
 | n + 1, h => by
   by_cases e : k = n + 1
   ·rw [e]; exact Nat.le_refl _
   ·have := Cl.cnt_mono F (k := k) (n := n) (by omega)
    simp only [Cl.cnt]
    omega
def Cl.lives (T : List Bool) : Nat := T.countP fun b => !b
theorem Cl.cnt_lives (F : Nat → Bool) : ∀ n, Cl.lives ((List.range n).map F) = Cl.cnt F n
 | 0 => rfl
 | n + 1 => by
   have ih := Cl.cnt_lives F n
   unfold Cl.lives at ih ⊢
   rw [List.range_succ, List.map_append, List.countP_append, ih]
   simp only [Cl.cnt, List.map_cons, List.map_nil]
   cases F n <;> simp
theorem Cl.fill_lives : ∀ (T : List Bool) (M out : List Kn.V), Cl.fill T M = some out → M.length = Cl.lives T
 | [], [], _, _ => rfl
 | [], _ :: _, _, h => by simp [Cl.fill] at h
 | true :: T, M, out, h => by
   simp only [Cl.fill, Option.map_eq_some_iff] at h
   obtain ⟨o, h, _⟩ := h
   rw [Cl.fill_lives T M o h]
   simp [Cl.lives]
 | false :: T, [], out, h => by simp [Cl.fill] at h
 | false :: T, x :: M, out, h => by
   simp only [Cl.fill, Option.map_eq_some_iff] at h
   obtain ⟨o, h, _⟩ := h
   rw [List.length_cons, Cl.fill_lives T M o h]
   simp [Cl.lives]
theorem Cl.lives_fill : ∀ (T : List Bool) (M : List Kn.V), M.length = Cl.lives T → ∃ out, Cl.fill T M = some out
 | [], [], _ => ⟨[], rfl⟩
 | [], _ :: _, h => by simp [Cl.lives] at h
 | true :: T, M, h => by
   obtain ⟨o, ho⟩ := Cl.lives_fill T M (by rw [h]; simp [Cl.lives])
   exact ⟨Cl.nul :: o, by simp [Cl.fill, ho]⟩
 | false :: T, [], h => by simp [Cl.lives] at h
 | false :: T, x :: M, h => by
   obtain ⟨o, ho⟩ := Cl.lives_fill T M (by simp [Cl.lives] at h; unfold Cl.lives; omega)
   exact ⟨x :: o, by simp [Cl.fill, ho]⟩
theorem Cl.rdV_cnt {c : Kn.C} {T : List Bool} {r : List UInt8} (h : (Cl.back c r).1 = 0) (hn : (Cl.back c r).2.length ≠ Cl.lives T) : Cl.rdV c T r = (4, []) :=
 Cl.rdV_no h (by
  cases hf : Cl.fill T (Cl.back c r).2 with
  | none => rfl
  | some o => exact absurd (Cl.fill_lives _ _ _ hf) hn)
theorem Cl.vals_pv {c : Kn.C} {T : List Bool} {r : List UInt8} {out : List Kn.V} (hg : c.good = true) (h : (Cl.back c r).1 = 0) (hf : Cl.fill T (Cl.back c r).2 = some out) : Cl.vals c out = Cl.pv c.k (Cl.back c r).2 := by
 rw [← Cl.pv_live, (Cl.fill_only _ _ _ (fun v hv => (Cl.back_is hg h v hv).1) hf).2]
theorem Cl.rdV_ne {c : Kn.C} {T : List Bool} {r : List UInt8} (hg : c.good = true) (h : (Cl.back c r).1 = 0) (hn : (Cl.back c r).2.length = Cl.lives T) (hv : Cl.pv c.k (Cl.back c r).2 ≠ r) : Cl.rdV c T r = (4, []) := by
 obtain ⟨out, hf⟩ := Cl.lives_fill T _ hn
 exact Cl.rdV_4 h hf (by rw [Cl.vals_pv hg h hf]; exact hv)
theorem Cl.rdV_eq {c : Kn.C} {T : List Bool} {r : List UInt8} (hg : c.good = true) (h : (Cl.back c r).1 = 0) (hv : Cl.pv c.k (Cl.back c r).2 = r) {out : List Kn.V} (hf : Cl.fill T (Cl.back c r).2 = some out) : Cl.rdV c T r = (0, out) :=
 Cl.rdV_ok h hf (by rw [Cl.vals_pv hg h hf]; exact hv)
def Cl.rnE (l : List UInt8) : Nat :=
 if (num l).2.2 ≠ 0 then (num l).2.2 else if 65536 < (num l).1 then 3 else if (rest l).length < Bt.need (num l).1 then 2 else Bt.chk (Cl.bb l) (num l).1
theorem Cl.rd_rn {c : Kn.C} {l : List UInt8} (hg : c.good = true) (h : Cl.rnE l ≠ 0) : Cl.rd c l = (Cl.rnE l, []) := by
 unfold Cl.rnE at h ⊢
 by_cases h1 : (num l).2.2 ≠ 0
 ·rw [if_pos h1]; exact Cl.rd_n hg h1
 ·rw [if_neg h1] at h ⊢
  by_cases h2 : 65536 < (num l).1
  ·rw [if_pos h2]; exact Cl.rd_3 hg (by simpa using h1) h2
  ·rw [if_neg h2] at h ⊢
   by_cases h3 : (rest l).length < Bt.need (num l).1
   ·rw [if_pos h3]; exact Cl.rd_2 hg (by simpa using h1) h2 h3
   ·rw [if_neg h3] at h ⊢
    exact Cl.rd_c hg (by simpa using h1) h2 h3 h
theorem Cl.rn_0 {l : List UInt8} (h : Cl.rnE l = 0) : (num l).2.2 = 0 ∧ ¬ 65536 < (num l).1 ∧ ¬ (rest l).length < Bt.need (num l).1 ∧ Bt.chk (Cl.bb l) (num l).1 = 0 := by
 unfold Cl.rnE at h
 by_cases h1 : (num l).2.2 ≠ 0
 ·rw [if_pos h1] at h; exact absurd h h1
 ·rw [if_neg h1] at h
  by_cases h2 : 65536 < (num l).1
  ·rw [if_pos h2] at h; cases h
  ·rw [if_neg h2] at h
   by_cases h3 : (rest l).length < Bt.need (num l).1
   ·rw [if_pos h3] at h; cases h
   ·rw [if_neg h3] at h
    exact ⟨by simpa using h1, h2, h3, h⟩
def Cl.has (F : Nat → Bool) (n : Nat) : Bool := ((List.range n).map F).any id
theorem Cl.rd_has {c : Kn.C} {l : List UInt8} (hg : c.good = true) (h : Cl.rnE l = 0) (hb : Cl.has (Bt.bit (Cl.bb l)) (num l).1 = true) (hn : c.null = false) : Cl.rd c l = (6, []) := by
 obtain ⟨h1, h2, h3, h4⟩ := Cl.rn_0 h
 unfold Cl.has at hb
 rw [List.any_eq_true] at hb
 obtain ⟨x, hx, hx2⟩ := hb
 obtain ⟨k, hk, rfl⟩ := List.mem_map.1 hx
 exact Cl.rd_6 hg h1 h2 h3 h4 (List.mem_range.1 hk) hx2 hn
theorem Cl.rd_vals {c : Kn.C} {l : List UInt8} (hg : c.good = true) (h : Cl.rnE l = 0) (hn : c.null = true ∨ Cl.has (Bt.bit (Cl.bb l)) (num l).1 = false) : Cl.rd c l = Cl.rdV c ((List.range (num l).1).map (Bt.bit (Cl.bb l))) (Cl.vb l) := by
 obtain ⟨h1, h2, h3, h4⟩ := Cl.rn_0 h
 refine Cl.rd_v hg h1 h2 h3 h4 fun k hk hb => ?_
 rcases hn with hn | hn
 ·exact hn
 ·exfalso
  unfold Cl.has at hn
  rw [List.any_eq_false] at hn
  exact hn _ (List.mem_map.2 ⟨k, List.mem_range.2 hk, rfl⟩) hb
theorem Cl.has_step {F : Nat → Bool} {n k : Nat} (hk : k < n) (h : F k = true) : Cl.has F n = true := by
 unfold Cl.has
 rw [List.any_eq_true]
 exact ⟨true, List.mem_map.2 ⟨k, List.mem_range.2 hk, h⟩, rfl⟩
theorem Cl.has_none {F : Nat → Bool} {n : Nat} (h : ∀ k, k < n → F k = false) : Cl.has F n = false := by
 unfold Cl.has
 rw [List.any_eq_false]
 intro x hx
 obtain ⟨k, hk, rfl⟩ := List.mem_map.1 hx
 rw [h k (List.mem_range.1 hk)]
 decide
end Go.Proofs.YtbelkhkllneifaaGreatDoor

namespace Go.Proofs.YtbelkhkllneifaaGreatDoor
open Go.RowKit
set_option maxHeartbeats 1000000 in
set_option maxRecDepth 100000 in
theorem Cl.schemaWith_c (c : Kn.C) (w : World) :
 Calls Tryz.prog 124 #[c.val] w fun e w' => ∃ v, e = .returned v ∧ Kn.Cols w' v (Cl.sch c) ∧ Below w.heap.size w w' := by
 have HC := Lib.hid (fun i v h => Kn.cell_new (w.alloc (.cells #[.int .i64 c.k, .bool c.null] 76)) #[.int .i64 1, .bool false, .int .i64 c.k, .bool c.null] 76 i v h)
 have HG := Lib.hid (((Below.refl _ w).alloc (Nat.le_refl _) (.cells #[.int .i64 c.k, .bool c.null] 76)).alloc (by simp) (.cells #[.int .i64 1, .bool false, .int .i64 c.k, .bool c.null] 76))
 rw [World.size_alloc] at HC
 have HX0 := Kn.cell_new w #[.int .i64 c.k, .bool c.null] 76 0 _ rfl
 have HX1 := Kn.cell_new w #[.int .i64 c.k, .bool c.null] 76 1 _ rfl
 simp only [List.getElem_toArray, List.getElem_cons_zero, List.getElem_cons_succ] at HX0 HX1
 unfold Kn.C.val
 go_enter Tryz.func124, Tryz.ntmps124
 go_wp2
 go_ret
 refine ⟨_, rfl, ⟨_, 2, rfl, .inr ⟨_, 0, rfl, by simp, by simp [Cl.sch], fun i x hx => ?_⟩⟩, HG.out⟩
 have hi2 : i = 0 ∨ i = 1 := by
  have := (List.getElem?_eq_some_iff.1 hx).1
  simp [Cl.sch] at this
  omega
 rcases hi2 with rfl | rfl
 ·obtain rfl : (⟨1, false⟩ : Kn.C) = x := by simpa [Cl.sch] using hx
  exact ⟨HC.out _ _ rfl, HC.out _ _ rfl⟩
 ·obtain rfl : c = x := by simpa [Cl.sch] using hx
  exact ⟨HC.out _ _ rfl, HC.out _ _ rfl⟩
set_option maxHeartbeats 1000000 in
set_option maxRecDepth 100000 in
theorem Cl.presentCount_c (v : Value) (n : Nat) (F : Nat → Bool) (w : World) (h : Bt.Sl w v n (Bt.bv F)) (hn : n ≤ 65536) :
 Calls Tryz.prog 172 #[v] w fun e w' => e = .returned (.int .i64 (Cl.cnt F n : Nat)) ∧ w' = w := by
 obtain ⟨a, c, rfl, h⟩ := h
 have HN := Lib.hid hn
 clear hn
 go_enter Tryz.func172, Tryz.ntmps172
 go_wp2
 go_loop [3, 8] (fun m i => ∃ k : Nat, k ≤ n ∧ i = .int .i64 k ∧ m = .int .i64 (Cl.cnt F k : Nat)) (fun _ i => n - (intOf i).toNat)
 case atStart => exact ⟨0, by omega, rfl, rfl⟩
 case round =>
  obtain ⟨k, hk, rfl, rfl⟩ := hrel
  have hle := Cl.cnt_le F k
  by_cases hl : k < n
  ·rcases h with h | ⟨b, o, rfl, hb, h⟩
   ·omega
   ·have hc : w.cell? ⟨b, o + k, none⟩ = some (.bool (F k)) := h k hl
    have hkl : (k : Int) < (n : Int) := by omega
    have hk0 : (0 : Int) ≤ (k : Int) := by omega
    have hn6 := HN.out
    cases hT : F k
    ·have HC := Lib.hid (Cl.cnt_live hT)
     rw [hT] at hc
     clear h hT
     go_wp2
     go_round
     case rel => exact ⟨k + 1, by omega, by simp, by rw [HC.out]; simp⟩
     case measure => simp [intOf]; omega
    ·have HC := Lib.hid (Cl.cnt_null hT)
     rw [hT] at hc
     clear h hT
     go_wp2
     go_round
     case rel => exact ⟨k + 1, by omega, by simp, by rw [HC.out]⟩
     case measure => simp [intOf]; omega
  ·obtain rfl : k = n := by omega
   have hkl : ¬ (k : Int) < (k : Int) := by omega
   go_wp2
   go_ret
   exact ⟨rfl, rfl⟩
set_option maxHeartbeats 1000000 in
set_option maxRecDepth 100000 in
theorem Cl.index_c (v : Value) (n : Nat) (F : Nat → Bool) (w : World) (h : Bt.Sl w v n (Bt.bv F)) (hn : n ≤ 65536) :
 Calls Tryz.prog 190 #[v, .bool true] w fun e w' => ∃ z : Int, e = .returned (.int .i64 z) ∧ ((Cl.has F n = true ∧ 0 ≤ z) ∨ (Cl.has F n = false ∧ z = -1)) ∧ w' = w := by
 obtain ⟨a, c, rfl, h⟩ := h
 have HS : Hid (∀ k, k < n → F k = true → Cl.has F n = true) := Lib.hid fun k hk hf => Cl.has_step hk hf
 have HN : Hid ((∀ k, k < n → F k = false) → Cl.has F n = false) := Lib.hid fun h => Cl.has_none h
 generalize Cl.has F n = B at HS HN ⊢
 go_enter Tryz.func190, Tryz.ntmps190
 go_wp2
 go_loop [8] (fun i => ∃ k : Nat, k ≤ n ∧ i = .int .i64 k ∧ ∀ j, j < k → F j = false) (fun i => n - (intOf i).toNat)
 case atStart => exact ⟨0, by omega, rfl, fun j hj => by omega⟩
 case round =>
  obtain ⟨k, hk, rfl, hp⟩ := hrel
  have HP := Lib.hid hp
  clear hp
  by_cases hl : k < n
  ·rcases h with h | ⟨b, o, rfl, hb, h⟩
   ·omega
   ·have hc : w.cell? ⟨b, o + k, none⟩ = some (.bool (F k)) := h k hl
    have hkl : (k : Int) < (n : Int) := by omega
    have hk0 : (0 : Int) ≤ (k : Int) := by omega
    cases hT : F k
    ·rw [hT] at hc
     have HT := Lib.hid hT
     clear h hT
     go_wp2
     go_round
     case rel => exact ⟨k + 1, by omega, by simp, fun j hj => by
      by_cases e : j = k
      ·rw [e]; exact HT.out
      ·exact HP.out j (by omega)⟩
     case measure => simp [intOf]; omega
    ·have HB := Lib.hid (HS.out k hl hT)
     rw [hT] at hc
     clear h hT
     go_wp2
     go_ret
     exact ⟨_, rfl, .inl ⟨HB.out, by omega⟩, rfl⟩
  ·obtain rfl : k = n := by omega
   have hkl : ¬ (k : Int) < (k : Int) := by omega
   have HB := Lib.hid (HN.out HP.out)
   go_wp2
   go_ret
   exact ⟨_, rfl, .inr ⟨HB.out, rfl⟩, rfl⟩
set_option maxHeartbeats 1000000 in
set_option maxRecDepth 100000 in
theorem Cl.contains_c (v : Value) (n : Nat) (F : Nat → Bool) (w : World) (h : Bt.Sl w v n (Bt.bv F)) (hn : n ≤ 65536) :
 Calls Tryz.prog 170 #[v, .bool true] w fun e w' => e = .returned (.bool (Cl.has F n)) ∧ w' = w := by
 have ci := Cl.index_c v n F w h hn
 generalize Cl.has F n = B at ci ⊢
 clear h hn
 go_enter Tryz.func170, Tryz.ntmps170
 go_wp2_with fail
 refine ci.mono ?_
 rintro e w1 ⟨z, rfl, hz, rfl⟩
 rcases hz with ⟨rfl, hz⟩ | ⟨rfl, rfl⟩
 ·go_wp2
  go_ret
  exact ⟨rfl, rfl⟩
 ·go_wp2
  go_ret
  exact ⟨rfl, rfl⟩
end Go.Proofs.YtbelkhkllneifaaGreatDoor

namespace Go.Proofs.YtbelkhkllneifaaGreatDoor
open Go.RowKit
theorem Cl.all_no {c : Kn.C} {l : List Kn.V} {k : Nat} {x : Kn.V} (h : l[k]? = some x) (hx : Cl.is c x = false) : l.all (Cl.is c) = false := by
 rw [Bool.eq_false_iff]
 intro ha
 have := List.all_eq_true.1 ha x (List.mem_of_getElem? h)
 rw [hx] at this
 cases this
def Cl.rowF (X : Kn.V) (i : Nat) : Kn.V := if i = 0 then Cl.ofN 0 else X
theorem Cl.rowF_vals {w : World} {g cap : Nat} {X : Kn.V} (h : Cl.Row w g 2 (Cl.rowF X)) : Kn.Vals w (.slice (some ⟨g, 0, none⟩) 2 cap) [Cl.ofN 0, X] :=
 Cl.Row.vals (n := 2) h rfl (fun i x hx => by
  have hi2 : i = 0 ∨ i = 1 := by
   have := (List.getElem?_eq_some_iff.1 hx).1
   simp at this
   omega
  rcases hi2 with rfl | rfl
  ·simpa [Cl.rowF] using hx
  ·simpa [Cl.rowF] using hx) (by omega)
set_option maxHeartbeats 2000000 in
set_option maxRecDepth 100000 in
theorem Cl.fit_c (c : Kn.C) (v u : Value) (l : List Kn.V) (w : World) (hg : c.good = true) (hs : Kn.Cols w v (Cl.sch c)) (hu : Kn.Vals w u l) (hl : l.length ≤ 65536) :
 Calls Tryz.prog 125 #[v, u] w fun e w' => e = .returned (.bool (l.all (Cl.is c))) ∧ Below w.heap.size w w' := by
 have CF : Hid (∀ (row : Value) (x : Kn.V) (wz : World), Kn.Cols wz v (Cl.sch c) → Kn.Vals wz row [Cl.ofN 0, x] → Calls Tryz.prog 63 #[v, row] wz fun e w' => e = .returned (.int .i64 (if Cl.is c x = true then 0 else 6)) ∧ Below wz.heap.size wz w') := Lib.hid fun row x wz h1 h2 => by
  have := Kn.fits_c v row (Cl.sch c) [Cl.ofN 0, x] wz h1 h2
  rwa [Cl.sch_fits hg] at this
 have HNO : Hid (∀ (k : Nat) (x : Kn.V), l[k]? = some x → Cl.is c x = false → l.all (Cl.is c) = false) := Lib.hid fun k x h h2 => Cl.all_no h h2
 have HYES : Hid ((∀ (i : Nat) (x : Kn.V), l[i]? = some x → Cl.is c x = true) → l.all (Cl.is c) = true) := Lib.hid fun h => Cl.all_of h
 generalize l.all (Cl.is c) = B at HNO HYES ⊢
 have HS := Lib.hid hs
 obtain ⟨a, cp, rfl, h⟩ := hu
 have HH := Lib.hid h
 have hl6 : (l.length : Int) ≤ 65536 := by omega
 clear hs h hg hl
 go_enter Tryz.func125, Tryz.ntmps125
 go_wp2_with fail
 have hR : Cl.Row (w.alloc (.cells #[.bool false, .int .i64 0, .string ⟨#[]⟩, .bool false, .int .i64 0, .string ⟨#[]⟩] 33)) w.heap.size 2 (Cl.rowF (Cl.ofN 0)) := World.rowIs_alloc w #[.bool false, .int .i64 0, .string ⟨#[]⟩, .bool false, .int .i64 0, .string ⟨#[]⟩] 33 _ (fun i hi => by
  have hi6 : i < 6 := hi
  have e : Cl.rowF (Cl.ofN 0) = fun _ => Cl.ofN 0 := by funext j; unfold Cl.rowF; split <;> rfl
  rw [e]
  rcases (by omega : i = 0 ∨ i = 1 ∨ i = 2 ∨ i = 3 ∨ i = 4 ∨ i = 5) with rfl | rfl | rfl | rfl | rfl | rfl <;> rfl)
 have hB : Below w.heap.size w (w.alloc (.cells #[.bool false, .int .i64 0, .string ⟨#[]⟩, .bool false, .int .i64 0, .string ⟨#[]⟩] 33)) := (Below.refl _ _).alloc (Nat.le_refl _) _
 generalize w.alloc _ = w2 at hR hB ⊢
 obtain ⟨g, hg⟩ : ∃ g, g = w.heap.size := ⟨_, rfl⟩
 rw [← hg] at hR hB ⊢
 have HGE := Lib.hid hg
 clear hg
 go_loopw [13] (fun i wr => ∃ (k : Nat) (X : Kn.V), k ≤ l.length ∧ i = .int .i64 k ∧ Cl.Row wr g 2 (Cl.rowF X) ∧ Below g w wr ∧ ∀ j x, j < k → l[j]? = some x → Cl.is c x = true) (fun i _ => l.length - (intOf i).toNat)
 case atStart => exact ⟨0, _, by omega, rfl, hR, hB, fun j x hj => by omega⟩
 case round =>
  obtain ⟨k, X, hk, rfl, hRk, hBk, hall⟩ := hrel
  have HR := Lib.hid hRk
  have HB := Lib.hid hBk
  have HALL := Lib.hid hall
  have hgl : g < wr.heap.size := hRk.lt
  clear hR hB hRk hBk hall
  by_cases hlk : k < l.length
  ·rcases HH.out with h | ⟨b, o, rfl, hbl, hm, h⟩
   ·exact absurd hlk (by rw [h]; simp)
   ·obtain ⟨x, hx⟩ : ∃ x, l[k]? = some x := ⟨_, List.getElem?_eq_getElem hlk⟩
    have hblg : b < g := by rw [HGE.out]; exact hbl
    have hA := h k x hx
    have a0 := (HB.out.cell (p := ⟨b, o + k * 3, none⟩) hblg).trans hA.c0
    have a1 := (HB.out.cell (p := ⟨b, o + k * 3 + 1, none⟩) hblg).trans hA.c1
    have a2 := (HB.out.cell (p := ⟨b, o + k * 3 + 2, none⟩) hblg).trans hA.c2
    have hkl : (k : Int) < (l.length : Int) := by omega
    have hk0 : (0 : Int) ≤ (k : Int) := by omega
    have r0 := HR.out.c0 (show 1 < 2 by omega)
    have r1 := HR.out.c1 (show 1 < 2 by omega)
    have r2 := HR.out.c2 (show 1 < 2 by omega)
    have f0 := World.rowIs.frozen HR.out 3
    have f1 := World.rowIs.frozen HR.out 4
    have f2 := World.rowIs.frozen HR.out 5
    rw [Nat.one_mul] at r0 r1 r2
    have HX := Lib.hid hx
    clear h hx hA hm
    go_wp2_with fail
    have hR3 : Cl.Row (((wr.setCell ⟨g, 3, none⟩ (.bool x.null)).setCell ⟨g, 4, none⟩ (.int .i64 x.n)).setCell ⟨g, 5, none⟩ (.string x.s)) g 2 (Cl.rowF x) := Cl.Row.congr (HR.out.setV 1 x) fun i hi => by
     unfold Cl.rowF
     by_cases e : i = 1
     ·rw [if_pos e, if_neg (by omega)]
     ·rw [if_neg e, if_pos (by omega), if_pos (by omega)]
    have hB3 : Below g w (((wr.setCell ⟨g, 3, none⟩ (.bool x.null)).setCell ⟨g, 4, none⟩ (.int .i64 x.n)).setCell ⟨g, 5, none⟩ (.string x.s)) := Cl.below_cell (Cl.below_cell (Cl.below_cell HB.out (Nat.le_refl _) _) (Nat.le_refl _) _) (Nat.le_refl _) _
    have hRn := World.rowIs.alloc hR3 (.cells #[.bool x.null, .int .i64 x.n, .string x.s] 33)
    have hBn := hB3.alloc (Nat.le_of_lt hR3.lt) (.cells #[.bool x.null, .int .i64 x.n, .string x.s] 33)
    generalize World.alloc _ _ = wn at hRn hBn ⊢
    have hbb := hBn
    rw [HGE.out] at hbb
    have cf := CF.out _ x wn (HS.out.later hbb) (Cl.rowF_vals (cap := 2) hRn)
    have HRN := Lib.hid hRn
    have HBN := Lib.hid hBn
    have hgn : g < wn.heap.size := World.rowIs.lt hRn
    clear hR3 hB3 hRn hBn hbb a0 a1 a2 r0 r1 r2 f0 f1 f2
    cases hT : Cl.is c x
    ·have HF := Lib.hid (HNO.out k x HX.out hT)
     rw [hT] at cf
     simp only [Bool.false_eq_true, if_false] at cf
     clear hT
     refine cf.mono ?_
     rintro e w3 ⟨rfl, g3⟩
     have HB3 := Lib.hid (HBN.out.trans (g3.mono (Nat.le_of_lt hgn)))
     clear cf g3
     go_wp2
     go_ret
     exact ⟨by rw [HF.out]; rfl, by have := HB3.out; rwa [HGE.out] at this⟩
    ·have HT := Lib.hid hT
     rw [hT] at cf
     simp only [if_true] at cf
     clear hT
     refine cf.mono ?_
     rintro e w3 ⟨rfl, g3⟩
     have HB3 := Lib.hid (HBN.out.trans (g3.mono (Nat.le_of_lt hgn)))
     have HR3 := Lib.hid (Cl.Row.below HRN.out g3)
     clear cf g3
     go_wp2
     go_roundw
     case rel => exact ⟨k + 1, x, by omega, by simp, HR3.out, HB3.out, fun j y hj hy => by
      by_cases e : j = k
      ·subst e
       rw [HX.out] at hy
       obtain rfl := Option.some.inj hy
       exact HT.out
      ·exact HALL.out j y (by omega) hy⟩
     case measure => simp [intOf]; omega
  ·obtain rfl : k = l.length := by omega
   have hkl : ¬ (l.length : Int) < (l.length : Int) := by omega
   have HY := Lib.hid (HYES.out fun i x hx => HALL.out i x (by
    rcases Nat.lt_or_ge i l.length with h | h
    ·exact h
    ·rw [List.getElem?_eq_none h] at hx; cases hx) hx)
   go_wp2
   go_ret
   exact ⟨by rw [HY.out]; rfl, by have := HB.out; rwa [HGE.out] at this⟩
set_option maxHeartbeats 2000000 in
set_option maxRecDepth 100000 in
theorem Cl.split_c (u : Value) (l : List Kn.V) (w : World) (hu : Kn.Vals w u l) (hl : l.length ≤ 65536) :
 Calls Tryz.prog 126 #[u] w fun e w' => ∃ v p, e = .returned (.tuple #[v, p]) ∧ Bt.Sl w' v l.length (Bt.bv (Cl.nulls l)) ∧ Kn.Vals w' p (Cl.live l) ∧ Below w.heap.size w w' := by
 obtain ⟨a, cp, rfl, h⟩ := hu
 have HH := Lib.hid h
 have HL := Lib.hid hl
 have hmk := run_make_row' (P := Tryz.prog) 132 4 (.bool false) 1 Tryz.underlying132 Bt.infoB rfl .i64 .i64 l.length (by omega) (by omega)
 have hsz1 : (w.alloc (.cells (madeCells #[.bool false] l.length) 4)).heap.size = w.heap.size + 1 := World.size_alloc ..
 obtain ⟨i0, hi0, hz0, hz1, hz2⟩ := info_parts Cl.infoV
 obtain ⟨w2, hm2, hO2, hg2⟩ := run_make_own (P := Tryz.prog) (w.alloc (.cells (madeCells #[.bool false] l.length) 4)) (w.heap.size + 1) 38 33 i0 _ 3 Tryz.underlying38 hi0 hz0 hz1 .i64 .i64 l.length (by rw [hz2]; omega) (by unfold maxLen; omega) (by omega)
 have hR := (World.rowIs_made w (.bool false) l.length 4).congr (g := Bt.upTo 0 (Bt.bv (Cl.nulls l)) (.bool false)) fun i _ => by unfold Bt.upTo; rw [if_neg (by omega)]
 have hR2 := hR.of_block (w' := w2) (hg2.block _ (by omega) (by simp))
 have hB2 : Below w.heap.size w w2 := ((Below.refl _ w).alloc (Nat.le_refl _) (.cells (madeCells #[.bool false] l.length) 4)).trans ⟨hg2.os, hg2.tape, hg2.output, hg2.size, fun k hk => hg2.block k (by omega) (by simp)⟩
 have hO3 : Cl.Own (w.heap.size + 1) w2 (.slice (some ⟨w.heap.size + 1, 0, none⟩) 0 l.length) [] := by rw [hsz1] at hO2; exact hO2
 rw [hsz1] at hm2
 have hs2 : w.heap.size + 1 ≤ w2.heap.size := by have := hg2.size; omega
 have HR2 := Lib.hid hR2
 have HB2 := Lib.hid hB2
 have HO3 := Lib.hid hO3
 clear h hl hi0 hz0 hz1 hz2 hR hR2 hB2 hO2 hO3 hg2 hsz1
 go_enter Tryz.func126, Tryz.ntmps126
 go_wp2_with fail
 clear hmk hm2
 obtain ⟨g, hg⟩ : ∃ g, g = w.heap.size := ⟨_, rfl⟩
 rw [← hg] at HR2 HB2 HO3 hs2 ⊢
 have HGE := Lib.hid hg
 clear hg
 go_loopw [5, 16] (fun pv i wr => ∃ k : Nat, k ≤ l.length ∧ i = .int .i64 k ∧ wr.rowIs g 4 l.length (Bt.upTo k (Bt.bv (Cl.nulls l)) (.bool false)) ∧ Cl.Own (g + 1) wr pv (Cl.live (l.take k)) ∧ Below g w wr ∧ g + 1 ≤ wr.heap.size) (fun _ i _ => l.length - (intOf i).toNat)
 case atStart => exact ⟨0, by omega, rfl, HR2.out, HO3.out, HB2.out, hs2⟩
 case round =>
  obtain ⟨k, hk, rfl, hRk, hOk, hBk, hgs⟩ := hrel
  have HR := Lib.hid hRk
  have HO := Lib.hid hOk
  have HB := Lib.hid hBk
  clear hRk hOk hBk HR2 HB2 HO3 hs2
  have hl6 : (l.length : Int) ≤ 65536 := by have := HL.out; omega
  by_cases hlk : k < l.length
  ·rcases HH.out with h | ⟨b, o, rfl, hbl, hm, h⟩
   ·exact absurd hlk (by rw [h]; simp)
   ·obtain ⟨x, hx⟩ : ∃ x, l[k]? = some x := ⟨_, List.getElem?_eq_getElem hlk⟩
    have hblg : b < g := by rw [HGE.out]; exact hbl
    have hA := h k x hx
    have a0 := (HB.out.cell (p := ⟨b, o + k * 3, none⟩) hblg).trans hA.c0
    have a1 := (HB.out.cell (p := ⟨b, o + k * 3 + 1, none⟩) hblg).trans hA.c1
    have a2 := (HB.out.cell (p := ⟨b, o + k * 3 + 2, none⟩) hblg).trans hA.c2
    have hkl : (k : Int) < (l.length : Int) := by omega
    have hk0 : (0 : Int) ≤ (k : Int) := by omega
    have hcl := HR.out.cell hlk
    have hf := HR.out.frozen k
    have hgl : g < wr.heap.size := by omega
    have HU : Hid (Value.bool x.null = Bt.bv (Cl.nulls l) k) := Lib.hid (by unfold Bt.bv; rw [Cl.nulls_at hx])
    have HLS := Lib.hid (Cl.live_step l k x hx)
    have hlen : (Cl.live (l.take k)).length ≤ k := Nat.le_trans (Cl.live_len _) (List.length_take_le _ _)
    have HRN := Lib.hid (World.rowIs.alloc (Bt.upTo_next HR.out HU.out) (.cells #[.bool x.null, .int .i64 x.n, .string x.s] 33))
    have hbn := (HB.out.trans (Bt.below_set (w := wr) (g := g) (i := k) (Nat.le_refl _) (.bool x.null))).alloc (Nat.le_of_lt (World.rowIs.lt (Bt.upTo_next HR.out HU.out))) (.cells #[.bool x.null, .int .i64 x.n, .string x.s] 33)
    have HBN := Lib.hid hbn
    have hOn := (HO.out.setOther (g := g) (i := k) (by omega) (.bool x.null)).kept ((Below.refl _ _).alloc (Nat.le_refl _) (.cells #[.bool x.null, .int .i64 x.n, .string x.s] 33))
    have HON := Lib.hid hOn
    have hbs : g + 1 ≤ ((wr.setCell ⟨g, k, none⟩ (.bool x.null)).alloc (.cells #[.bool x.null, .int .i64 x.n, .string x.s] 33)).heap.size := by simp [World.setCell]; omega
    have HBS := Lib.hid hbs
    clear h hx hA hm hbn hOn hbs
    cases hn : x.null
    ·rw [hn] at a0 HLS HRN HBN HON HBS
     have e3 : (if false = true then ([] : List Kn.V) else [x]) = [x] := rfl
     rw [e3] at HLS
     have hO := HON.out
     have HNF := Lib.hid hn
     clear hn e3
     go_wp2_with (at_builtin; refine Cl.wpList_append_val_at x hO HBS.out (by omega) (.tmp 29) (.tmp 31) _ (by simp [World.setCell]) _ (by rw [HNF.out]) rfl rfl rfl rfl ?_; intro v5 w5 h5 g5)
     have H5 := Lib.hid h5
     have hb5 := Cl.own_grown HBS.out hO g5
     have HR5 := Lib.hid (HRN.out.of_block (hb5.block g (by omega)))
     have HB5 := Lib.hid (HBN.out.trans (hb5.mono (by omega)))
     have hs5 : g + 1 ≤ w5.heap.size := Nat.le_trans HBS.out hb5.size
     clear h5 g5 hO hb5
     go_wp2
     go_roundw
     case rel => exact ⟨k + 1, by omega, by simp, HR5.out, by rw [HLS.out]; exact H5.out, HB5.out, hs5⟩
     case measure => simp [intOf]; omega
    ·rw [hn] at a0 HLS HRN HBN HON HBS
     have e3 : (if true = true then ([] : List Kn.V) else [x]) = [] := rfl
     rw [e3, List.append_nil] at HLS
     clear hn e3
     go_wp2
     go_roundw
     case rel => exact ⟨k + 1, by omega, by simp, HRN.out, by rw [HLS.out]; exact HON.out, HBN.out, HBS.out⟩
     case measure => simp [intOf]; omega
  ·obtain rfl : k = l.length := by omega
   have hkl : ¬ (l.length : Int) < (l.length : Int) := by omega
   have HV := Lib.hid HO.out.vals
   have HSl : Hid (Bt.Sl wr (.slice (some ⟨g, 0, none⟩) l.length l.length) l.length (Bt.bv (Cl.nulls l))) := Lib.hid (Bt.Sl.row (HR.out.congr fun i hi => by unfold Bt.upTo; rw [if_pos hi]))
   go_wp2
   go_ret2
   refine ⟨_, _, rfl, HSl.out, ?_, by have := HB.out; rwa [HGE.out] at this⟩
   have := HV.out
   rwa [List.take_length] at this
end Go.Proofs.YtbelkhkllneifaaGreatDoor

namespace Go.Proofs.YtbelkhkllneifaaGreatDoor
open Go.RowKit
set_option maxRecDepth 100000 in
set_option maxHeartbeats 1000000 in
theorem Tx.less_c (a b : ByteArray) (w : World) : Calls Tryz.prog 210 #[.string a, .string b] w fun e w' => e = .returned (.bool (Op.bytesLess a.toList b.toList)) ∧ w' = w := by
 generalize hx : Op.bytesLess a.toList b.toList = x
 go_enter Tryz.func210, Tryz.ntmps210
 go_wp2_with fail
 refine (Kn.isNaNs_c _ _).mono ?_
 rintro e w1 ⟨rfl, rfl⟩
 go_wp2
 go_ret
 exact ⟨rfl, rfl⟩
set_option maxRecDepth 100000 in
theorem Tx.tooLongF_c (s : ByteArray) (w : World) : Calls Tryz.prog 194 #[.string s] w fun e w' => e = .returned (.bool (decide ((64 : Int) < (s.size : Int)))) ∧ w' = w := by
 go_enter Tryz.func194, Tryz.ntmps194
 go_wp2
 go_ret
 exact ⟨rfl, rfl⟩
def Tx.fv : Value := .func (.func 194) #[] #[]
set_option maxRecDepth 100000 in
set_option maxHeartbeats 1000000 in
theorem Tx.indexFunc_c (v : Value) (L : List Tx.Str) (w : World) (hv : Tx.At w.heap.size w v L) (hn : L.length ≤ 65536) :
 Calls Tryz.prog 206 #[v, .func (.func 194) #[] #[]] w fun e w' => ∃ z : Int, e = .returned (.int .i64 z) ∧ w' = w ∧ ((z = -1 ∧ ∀ j, j < L.length → (L.getD j []).length ≤ 64) ∨ (0 ≤ z ∧ ∃ j, j < L.length ∧ 64 < (L.getD j []).length)) := by
 obtain ⟨a, c, rfl, hc, _, h⟩ := hv
 have HH := Lib.hid h
 obtain ⟨n, hnn⟩ : ∃ n, n = L.length := ⟨_, rfl⟩
 rw [← hnn] at hn hc ⊢
 have HN := Lib.hid hnn
 clear h hnn
 go_enter Tryz.func206, Tryz.ntmps206
 go_wp2
 go_loopw [8] (fun i wr => ∃ k : Nat, k ≤ n ∧ i = .int .i64 k ∧ (∀ j, j < k → (L.getD j []).length ≤ 64) ∧ wr = w) (fun i _ => n - (intOf i).toNat)
 case atStart => exact ⟨0, by omega, rfl, fun j hj => by omega, rfl⟩
 case round =>
  obtain ⟨k, hk, rfl, hp, rfl⟩ := hrel
  have HP := Lib.hid hp
  clear hp
  by_cases hl : k < n
  ·rcases HH.out with ⟨h, _⟩ | ⟨b, o, rfl, hlt, h⟩
   ·rw [HN.out, h] at hl; simp at hl
   ·have hcell := h k (by rw [← HN.out]; exact hl)
    unfold Tx.sv at hcell
    have hs := Tx.S_size (L.getD k [])
    have HX : Hid ((64 : Int) < ((Ty.S (L.getD k [])).size : Int) ↔ 64 < (L.getD k []).length) := Lib.hid (by rw [hs]; omega)
    have cc := Tx.tooLongF_c (Ty.S (L.getD k [])) wr
    generalize Ty.S (L.getD k []) = s at hcell HX cc
    have hkl : (k : Int) < (n : Int) := by omega
    have hk0 : (0 : Int) ≤ (k : Int) := by omega
    clear h hs
    by_cases h64 : (64 : Int) < (s.size : Int)
    ·rw [decide_eq_true h64] at cc
     have HB := Lib.hid (HX.out.1 h64)
     clear h64 HX
     go_wp2_with fail
     refine cc.mono ?_
     rintro e w1 ⟨rfl, rfl⟩
     go_wp2
     go_ret
     exact ⟨k, rfl, rfl, .inr ⟨by omega, k, hl, HB.out⟩⟩
    ·rw [decide_eq_false h64] at cc
     have HB : Hid ((L.getD k []).length ≤ 64) := Lib.hid (by
      have := HX.out
      omega)
     clear h64 HX
     go_wp2_with fail
     refine cc.mono ?_
     rintro e w1 ⟨rfl, rfl⟩
     go_wp2
     go_roundw
     case rel => exact ⟨k + 1, by omega, by simp, (fun j hj => by
      by_cases e : j = k
      ·rw [e]; exact HB.out
      ·exact HP.out j (by omega)), by trivial⟩
     case measure => simp [intOf]; omega
  ·obtain rfl : k = n := by omega
   have hkl : ¬ (k : Int) < (k : Int) := by omega
   go_wp2
   go_ret
   exact ⟨-1, rfl, rfl, .inl ⟨rfl, HP.out⟩⟩
set_option maxRecDepth 100000 in
theorem Tx.containsFunc_c (v : Value) (L : List Tx.Str) (w : World) (hv : Tx.At w.heap.size w v L) (hn : L.length ≤ 65536) :
 Calls Tryz.prog 193 #[v, .func (.func 194) #[] #[]] w fun e w' => e = .returned (.bool (!Tx.fit L)) ∧ w' = w := by
 have ci := Tx.indexFunc_c v L w hv hn
 have HN := Lib.hid hn
 clear hv hn
 go_enter Tryz.func193, Tryz.ntmps193
 go_wp2_with fail
 refine ci.mono ?_
 rintro e w1 ⟨z, rfl, rfl, hz⟩
 have HZ := Lib.hid hz
 clear ci hz
 go_wp2
 go_ret
 refine ⟨?_, rfl⟩
 congr 2
 rcases HZ.out with ⟨rfl, h⟩ | ⟨h0, j, hj, h⟩
 ·cases hf : Tx.fit L with
  | true => rfl
  | false => exact absurd (Tx.fit_no hf HN.out h) id
 ·cases hf : Tx.fit L with
  | true =>
    have := (Tx.fit_yes hf).2 (L.getD j []) (by rw [List.getD, List.getElem?_eq_getElem hj]; exact List.getElem_mem hj)
    omega
  | false => simpa using h0
set_option maxRecDepth 100000 in
set_option maxHeartbeats 1000000 in
theorem Tx.tooLong_c (v : Value) (L : List Tx.Str) (w : World) (hv : Tx.At w.heap.size w v L) (hn : L.length ≤ 140737488355328) :
 Calls Tryz.prog 175 #[v] w fun e w' => e = .returned (.bool (!Tx.fit L)) ∧ w' = w := by
 by_cases hl : L.length ≤ 65536
 ·have cc := Tx.containsFunc_c v L w hv hl
  obtain ⟨a, c, rfl, hc, _, h⟩ := hv
  have hli : ¬ (65536 : Int) < (L.length : Int) := by omega
  generalize Tx.fit L = x at cc ⊢
  clear h hn
  go_enter Tryz.func175, Tryz.ntmps175
  go_wp2_with fail
  refine cc.mono ?_
  rintro e w1 ⟨rfl, rfl⟩
  go_wp2
  go_ret
  exact ⟨rfl, rfl⟩
 ·have hf : Tx.fit L = false := by
   cases hf : Tx.fit L with
   | false => rfl
   | true => exact absurd (Tx.fit_yes hf).1 hl
  rw [hf]
  obtain ⟨a, c, rfl, hc, _, h⟩ := hv
  have hli : (65536 : Int) < (L.length : Int) := by omega
  clear h hn hf
  go_enter Tryz.func175, Tryz.ntmps175
  go_wp2
  go_ret
  exact ⟨rfl, rfl⟩
theorem Tx.asc_at : ∀ (d : List Tx.Str) (p : Option Tx.Str), Tx.Asc p d → ∀ i j, i < j → j < d.length → Tx.lt (d.getD i []) (d.getD j []) = true
 | [], _, _, i, j, _, hj => by simp at hj
 | a :: d, p, h, 0, j + 1, _, hj => by
   have hj' : j < d.length := by simpa using hj
   have := Tx.asc_all d (some a) h.2 a rfl (d.getD j []) (by rw [List.getD, List.getElem?_eq_getElem hj']; exact List.getElem_mem hj')
   simpa using this
 | a :: d, p, h, i + 1, j + 1, hij, hj => by
   have := Tx.asc_at d (some a) h.2 i j (by omega) (by simpa using hj)
   simpa using this
theorem Tx.search_end {d : List Tx.Str} {p : Option Tx.Str} (ha : Tx.Asc p d) {t : Tx.Str} (ht : t ∈ d) {i : Nat} (h1 : ∀ k, k < i → Tx.lt (d.getD k []) t = true) (h2 : ∀ k, i ≤ k → k < d.length → Tx.lt (d.getD k []) t = false) : i = Tx.pos d t ∧ i < d.length ∧ d.getD i [] = t := by
 have hp := Tx.pos_lt ht
 have hg : d.getD (Tx.pos d t) [] = t := by rw [List.getD, Tx.pos_get ht]; rfl
 have hle : i ≤ Tx.pos d t := by
  rcases Nat.lt_or_ge (Tx.pos d t) i with h | h
  ·have := h1 _ h
   rw [hg] at this
   have k : Tx.lt t t = false := Kn.bl_irrefl t
   rw [k] at this
   cases this
  ·exact h
 have heq : i = Tx.pos d t := by
  rcases Nat.lt_or_ge i (Tx.pos d t) with h | h
  ·have h3 := Tx.asc_at d p ha i (Tx.pos d t) h hp
   rw [hg, h2 i (Nat.le_refl _) (by omega)] at h3
   cases h3
  ·omega
 exact ⟨heq, by omega, by rw [heq]; exact hg⟩
end Go.Proofs.YtbelkhkllneifaaGreatDoor

namespace Go.Proofs.YtbelkhkllneifaaGreatDoor
open Go.RowKit
set_option maxHeartbeats 2000000 in
set_option maxRecDepth 100000 in
theorem Tx.search_c (v : Value) (d : List Tx.Str) (t : Tx.Str) (w : World) (hv : Tx.At w.heap.size w v d) (hn : d.length ≤ 65536) (ha : Tx.Asc none d) (ht : t ∈ d) :
 Calls Tryz.prog 198 #[v, .string (Ty.S t)] w fun e w' => e = .returned (.tuple #[.int .i64 ((Tx.pos d t : Nat) : Int), .bool true]) ∧ w' = w := by
 have HE := Lib.hid (fun (i : Nat) h1 h2 => Tx.search_end ha ht (i := i) h1 h2)
 have HA := Lib.hid ha
 obtain ⟨a, c, rfl, hc, _, h⟩ := hv
 have HH := Lib.hid h
 obtain ⟨n, hnn⟩ : ∃ n, n = d.length := ⟨_, rfl⟩
 rw [← hnn] at hn hc HE ⊢
 have HN := Lib.hid hnn
 have HL : Hid (∀ q : Tx.Str, Op.bytesLess (Ty.S q).toList (Ty.S t).toList = Tx.lt q t) := Lib.hid fun q => by rw [Tx.S_toList, Tx.S_toList]; rfl
 obtain ⟨ts, hts⟩ : ∃ ts, ts = Ty.S t := ⟨_, rfl⟩
 rw [← hts] at HL ⊢
 have HTS := Lib.hid hts
 clear h hnn hts ha ht
 go_enter Tryz.func198, Tryz.ntmps198
 go_wp2
 go_loopw [7, 8] (fun x y wr => ∃ i j : Nat, i ≤ j ∧ j ≤ n ∧ x = .int .i64 i ∧ y = .int .i64 j ∧ (∀ k, k < i → Tx.lt (d.getD k []) t = true) ∧ (∀ k, j ≤ k → k < n → Tx.lt (d.getD k []) t = false) ∧ wr = w) (fun x y _ => (intOf y).toNat - (intOf x).toNat)
 case atStart => exact ⟨0, n, by omega, by omega, rfl, rfl, (fun k hk => by omega), (fun k h1 h2 => by omega), rfl⟩
 case round =>
  obtain ⟨i, j, hij, hjn, rfl, rfl, hlo, hhi, rfl⟩ := hrel
  have HLO := Lib.hid hlo
  have HHI := Lib.hid hhi
  clear hlo hhi
  have hi0 : (0 : Int) ≤ (i : Int) := by omega
  by_cases hl : i < j
  ·have hil : (i : Int) < (j : Int) := by omega
   obtain ⟨m, hm⟩ : ∃ m, m = (i + j) / 2 := ⟨_, rfl⟩
   have hm1 : i ≤ m := by omega
   have hm2 : m < j := by omega
   rcases HH.out with ⟨h, _⟩ | ⟨b, o, rfl, hlt, h⟩
   ·rw [HN.out, h] at hjn; simp at hjn; omega
   ·have hcell := h m (by rw [← HN.out]; omega)
    unfold Tx.sv at hcell
    have cl := fun w => Tx.less_c (Ty.S (d.getD m [])) ts w
    rw [HL.out] at cl
    generalize Ty.S (d.getD m []) = s at hcell cl
    rw [hm] at hcell
    have HM := Lib.hid hm
    have HM1 := Lib.hid hm1
    have HM2 := Lib.hid hm2
    clear h hm hm1 hm2
    cases hx : Tx.lt (d.getD m []) t
    ·rw [hx] at cl
     have HX := Lib.hid hx
     clear hx
     go_wp2_with fail
     refine (cl _).mono ?_
     rintro e w1 ⟨rfl, rfl⟩
     go_wp2
     go_roundw
     case rel => exact ⟨i, m, HM1.out, by have := HM2.out; omega, rfl, by rw [HM.out]; simp, HLO.out, (fun k h1 h2 => by
      by_cases e : k = m
      ·rw [e]; exact HX.out
      ·have h3 := Tx.asc_at d none HA.out m k (by omega) (by rw [← HN.out]; exact h2)
       cases h4 : Tx.lt (d.getD k []) t with
       | false => rfl
       | true =>
         have h5 := Kn.bl_trans _ _ _ h3 h4
         have h6 : Tx.lt (d.getD m []) t = true := h5
         rw [HX.out] at h6
         cases h6), by trivial⟩
     case measure => have h1 := HM.out; have h2 := HM1.out; have h3 := HM2.out; simp [intOf]; omega
    ·rw [hx] at cl
     have HX := Lib.hid hx
     clear hx
     go_wp2_with fail
     refine (cl _).mono ?_
     rintro e w1 ⟨rfl, rfl⟩
     go_wp2
     go_roundw
     case rel => exact ⟨m + 1, j, by have := HM2.out; omega, by omega, by rw [HM.out]; simp, rfl, (fun k h1 => by
      by_cases e : k = m
      ·rw [e]; exact HX.out
      ·have h3 := Tx.asc_at d none HA.out k m (by omega) (by rw [← HN.out]; have := HM2.out; omega)
       exact Kn.bl_trans _ _ _ h3 HX.out), HHI.out, by trivial⟩
     case measure => have h1 := HM.out; have h2 := HM1.out; have h3 := HM2.out; simp [intOf]; omega
  ·obtain rfl : i = j := by omega
   have hil : ¬ (i : Int) < (i : Int) := by omega
   obtain ⟨e1, e2, e3⟩ := HE.out i HLO.out HHI.out
   have hin : (i : Int) < (n : Int) := by omega
   rcases HH.out with ⟨h, _⟩ | ⟨b, o, rfl, hlt, h⟩
   ·rw [HN.out, h] at e2; simp at e2
   ·have hcell := h i (by rw [← HN.out]; omega)
    unfold Tx.sv at hcell
    rw [e3, ← HTS.out] at hcell
    have heq : (ts.toList == ts.toList) = true := by rw [beq_iff_eq]
    have HP := Lib.hid e1
    clear e1 e2 e3 h
    go_wp2
    go_ret2
    exact ⟨by rw [HP.out]; rfl, rfl⟩
end Go.Proofs.YtbelkhkllneifaaGreatDoor

namespace Go.Proofs.YtbelkhkllneifaaGreatDoor
open Go.RowKit Go.Maps
theorem Tx.keyed : Keyed Tryz.prog 9 := string_keyed Tryz.underlying9
theorem Tx.zeroI (w : World) : (zeroValue 3).run Tryz.prog w = .ok (.int .i64 0) w := by kernel_rfl
def Tx.Has (D : DataW Unit) (L : List Tx.Str) : Prop := ∀ x, has D (.string x) = true ↔ x ∈ L
theorem Tx.isKey (x : Tx.Str) : WideAt.IsKeyLit (.string x) := trivial
theorem Tx.Has.next {D : DataW Unit} {L : List Tx.Str} {k : Nat} {d : DataW Unit} (hD : IsMap D) (h : Tx.Has D (L.take k)) (hk : k < L.length) : Tx.Has (D.put (.string (L.getD k [])) d) (L.take (k + 1)) := fun x => by
 have e : L.take (k + 1) = L.take k ++ [L.getD k []] := by
  rw [List.take_add_one, List.getElem?_eq_getElem hk, List.getD, List.getElem?_eq_getElem hk]
  rfl
 rw [e, List.mem_append, List.mem_singleton]
 by_cases hx : x = L.getD k []
 ·rw [hx, has_put_same hD (Tx.isKey _)]
  simp
 ·have hne : (Lit.string x) ≠ .string (L.getD k []) := fun e => hx (by simpa using e)
  rw [has_put_other hne, h x]
  constructor
  ·exact .inl
  ·rintro (h | h)
   ·exact h
   ·exact absurd h hx
def Tx.Counts (b n : Nat) (w : World) (L : List Tx.Str) : Prop := ∃ D : DataW Unit, w.ownsMap Tryz.prog 9 (plainElem Tryz.prog 3) b n D ∧ Tx.Has D L
theorem Tx.dict_nodup (L : List Tx.Str) : (Tx.dict L).Nodup := by
 refine List.pairwise_iff_getElem.2 fun i j hi hj hij => ?_
 have h := Tx.asc_at (Tx.dict L) none (Tx.dict_asc L) i j hij hj
 rw [List.getD, List.getElem?_eq_getElem hi, List.getD, List.getElem?_eq_getElem hj] at h
 intro e
 rw [Option.getD_some, Option.getD_some, e] at h
 have k : Tx.lt ((Tx.dict L)[j]) ((Tx.dict L)[j]) = false := Kn.bl_irrefl _
 rw [k] at h
 cases h
theorem Tx.Counts.keys {b n : Nat} {w : World} {L : List Tx.Str} (h : Tx.Counts b n w L) : ∃ D : DataW Unit, w.ownsMap Tryz.prog 9 (plainElem Tryz.prog 3) b n D ∧ (Tx.dict L).Perm (strKeys D) ∧ Maps.size D = (Tx.dict L).length := by
 obtain ⟨D, hown, hh⟩ := h
 obtain ⟨es, hD, hpw, _⟩ := hown.entries Tx.keyed
 obtain ⟨es', hD', hko⟩ := hown.keysOf
 obtain rfl : es = es' := by rw [hD] at hD'; simpa using hD'
 subst hD
 have hp := perm_strKeys hpw (fun p hp => by obtain ⟨v, hv⟩ := hko p hp; obtain ⟨x, _, hx, _⟩ := Maps.keyOf_str Tryz.underlying9 hv; exact ⟨x, hx⟩) (Tx.dict_nodup L) (fun x => by rw [Tx.dict_mem]; exact (hh x).symm)
 refine ⟨_, hown, hp, ?_⟩
 rw [hp.length_eq]
 show es.length = (es.map fun p => strOf p.1).length
 rw [List.length_map]
set_option maxHeartbeats 1000000 in
set_option maxRecDepth 100000 in
theorem Tx.uses_c (v : Value) (L : List Tx.Str) (w : World) (hv : Tx.At w.heap.size w v L) (hn : L.length ≤ 65536) (h64 : ∀ t ∈ L, t.length ≤ 64) :
 Calls Tryz.prog 197 #[v] w fun e w' => e = .returned (.map (some w.heap.size)) ∧ Tx.Counts w.heap.size L.length w' L ∧ Below w.heap.size w w' := by
 obtain ⟨a, c, rfl, hc, _, h⟩ := hv
 have HH := Lib.hid h
 have H64 := Lib.hid h64
 obtain ⟨n, hnn⟩ : ∃ n, n = L.length := ⟨_, rfl⟩
 rw [← hnn] at hn hc ⊢
 have HN := Lib.hid hnn
 have hmm := @run_makeMap Tryz.prog
 clear h hnn h64
 go_enter Tryz.func197, Tryz.ntmps197
 go_wp2
 go_loopw [9] (fun i wr => ∃ (k : Nat) (D : DataW Unit), k ≤ n ∧ i = .int .i64 k ∧ wr.ownsMap Tryz.prog 9 (plainElem Tryz.prog 3) w.heap.size k D ∧ Tx.Has D (L.take k) ∧ Below w.heap.size w wr) (fun i _ => n - (intOf i).toNat)
 case atStart => exact ⟨0, _, Nat.zero_le _, rfl, World.ownsMap_made _ _ _ _, (fun x => by simp [has]), (Below.refl _ _).alloc (Nat.le_refl _) _⟩
 case round =>
  obtain ⟨k, D, hk, rfl, hown, hhas, hnx⟩ := hrel
  have HHA := Lib.hid hhas
  have HB := Lib.hid hnx
  have hk0 : (0 : Int) ≤ (k : Int) := by omega
  by_cases hl : k < n
  ·rcases HH.out with ⟨h, _⟩ | ⟨b, o, rfl, hlt, h⟩
   ·rw [HN.out, h] at hl; simp at hl
   ·have hcell : wr.cell? ⟨b, o + k, none⟩ = some (Tx.sv L k) := (hnx.cell (p := ⟨b, o + k, none⟩) hlt).trans (h k (by rw [← HN.out]; exact hl))
    unfold Tx.sv at hcell
    have hsz : (Ty.S (L.getD k [])).size ≤ maxLen := by
     have := H64.out (L.getD k []) (by rw [List.getD, List.getElem?_eq_getElem (by rw [← HN.out]; exact hl)]; exact List.getElem_mem _)
     rw [Tx.S_size]
     unfold maxLen; omega
    have hkey : keyOf Tryz.prog 9 (.string (Ty.S (L.getD k []))) = some (.string (L.getD k [])) := Go.WideMaps.keyOf_string_mk Tryz.underlying9 hsz
    have HNX := Lib.hid (fun d => Tx.Has.next (d := d) hown.isMap HHA.out (by rw [← HN.out]; exact hl))
    obtain ⟨q, hrun, hat, _⟩ := hown.lookup_int Tx.keyed Tryz.underlying247 Tryz.underlying3 (Tx.zeroI _) hkey
    have hkl : (k : Int) < (n : Int) := by omega
    generalize Ty.S (L.getD k []) = s at hcell hkey hrun
    generalize (Lit.string (L.getD k [])) = kl at hkey HNX
    clear h hat hsz hhas hnx
    go_wp2_with (at_mapUpdate; refine wpList_mapUpdate_own _ rfl _ _ _ 247 rfl 9 3 Tx.keyed Tryz.underlying247 _ w.heap.size k _ rfl hown (by unfold maxLen; omega) _ _ _ rfl rfl hkey _ [] (plainElem_int Tryz.underlying3 (wrap64_wf _)) ?_; intro w1 hown1 hgrow1)
    have HO1 := Lib.hid hown1
    have HB1 := Lib.hid (HB.out.grown hgrow1 HB.out.size (fun j hj => by cases hj; exact Nat.le_refl _))
    clear hown1 hgrow1 hown hrun
    go_wp2
    go_roundw
    case rel => exact ⟨k + 1, _, by omega, by simp, HO1.out, HNX.out _, HB1.out⟩
    case measure => simp [intOf]; omega
  ·obtain rfl : k = n := by omega
   have hkl : ¬ (k : Int) < (k : Int) := by omega
   have HF : Hid (L.take k = L) := Lib.hid (by rw [HN.out, List.take_length])
   have HO := Lib.hid hown
   clear hown hnx hhas
   go_wp2
   go_ret
   exact ⟨rfl, ⟨D, HO.out, by rw [← HF.out]; exact HHA.out⟩, HB.out⟩
end Go.Proofs.YtbelkhkllneifaaGreatDoor

namespace Go.Proofs.YtbelkhkllneifaaGreatDoor
open Go.RowKit Go.Maps Go.Sort Go.Shelf
theorem Tx.keysOf_c (mb : Option Nat) (w : World) :
 Calls Tryz.prog 196 #[.map mb] w fun e w' => e = .returned (.func (.func 209) #[] #[.pointer (some ⟨w.heap.size, 0, none⟩)]) ∧ w' = w.alloc (.cells #[.map mb] 247) :=
 callsIn_wide.1 (AnyZ.keys_in Tryz.keysL Fence.wide 5 trivial rfl mb w)
theorem Tx.sorts (m : Nat) : AnyZ.SortsIn Tryz.prog Tryz.sortedL_ren Fence.wide m :=
 ⟨fun blk off cap ss w hH hblk hsz => callsIn_wide.2 (AnyM.slices_Sort_string Tryz.sortL blk off cap ss w hH hblk hsz), fun p cap w => callsIn_wide.2 (AnyM.slices_Sort_string_none Tryz.sortL p cap w)⟩
theorem Tx.dict_sorted (L : List Tx.Str) {ss : List Tx.Str} (h : (Tx.dict L).Perm ss) : ss.mergeSort (fun x y => decide (x ≤ y)) = Tx.dict L := by
 rw [mergeSort_of_perm h.symm]
 refine List.mergeSort_of_pairwise (List.pairwise_iff_getElem.2 fun i j hi hj hij => ?_)
 have h1 := Tx.asc_at (Tx.dict L) none (Tx.dict_asc L) i j hij hj
 rw [List.getD, List.getElem?_eq_getElem hi, List.getD, List.getElem?_eq_getElem hj] at h1
 have h2 : Op.bytesLess (Tx.dict L)[i] (Tx.dict L)[j] = true := h1
 rw [bytesLess_eq, decide_eq_true_eq] at h2
 exact decide_eq_true (List.le_of_lt h2)
theorem Tx.enc_sv (L : List Tx.Str) : L.map encStr = (List.range L.length).map (Tx.sv L) := by
 refine List.ext_getElem (by simp) fun i h1 h2 => ?_
 have hi : i < L.length := by simpa using h1
 rw [List.getElem_map, List.getElem_map, List.getElem_range]
 unfold Tx.sv
 rw [List.getD, List.getElem?_eq_getElem hi]
 rfl
set_option maxHeartbeats 1000000 in
theorem Tx.sorted_c {b n : Nat} {L : List Tx.Str} {w : World} (hc : Tx.Counts b n w L) (hn : L.length ≤ 65536) :
 Calls Tryz.prog 195 #[.func (.func 209) #[] #[.pointer (some ⟨w.heap.size, 0, none⟩)]] (w.alloc (.cells #[.map (some b)] 247)) fun e w' => ∃ v, e = .returned v ∧ Tx.Own w.heap.size w' v (Tx.dict L) ∧ Below w.heap.size w w' := by
 obtain ⟨D, hown, hp, hs⟩ := hc.keys
 have hbl := hown.lt
 have hdl := Tx.dict_len L
 have hseq : SeqGives Fence.wide 2 Tryz.prog 209 #[.pointer (some ⟨w.heap.size, 0, none⟩)] encStr (fun ss => ss.Perm (strKeys D)) (Maps.size D) (w.alloc (.cells #[.map (some b)] 247)) :=
  AnyZ.keys_gives (ρ := Tryz.keysL_ren) { Tryz.keysL with } Fence.wide _ trivial rfl (by omega) w.heap.size b n D _ (by simp) (by simp) (hown.alloc _)
 have hc := callsIn_wide.1 (AnyZ.sorted_in Tryz.sortedL Fence.wide 5 trivial trivial trivial trivial rfl (by omega) (Tx.sorts _) (enters_of Tryz.func208 (by kernel_rfl) rfl) 209 #[.pointer (some ⟨w.heap.size, 0, none⟩)] trivial (enters_of Tryz.func209 (by kernel_rfl) rfl) _ _ (by rw [hs]; unfold maxLen; omega) (by rw [hs]; omega) _ hseq)
 refine hc.mono ?_
 rintro e w' ⟨v, ss, rfl, hS, hrow, hnil, hb⟩
 have hd := Tx.dict_sorted L (hp.trans hS.symm)
 have hlen : ss.length = (Tx.dict L).length := (hp.trans hS.symm).length_eq.symm
 refine ⟨v, rfl, ?_, ?_⟩
 ·have e1 : (ss.mergeSort (fun x y => decide (x ≤ y))).map encStr = (List.range (Tx.dict L).length).map (Tx.sv (Tx.dict L)) := by rw [hd, Tx.enc_sv]
  have h2 := hrow
  rw [e1, hlen] at h2
  exact Tx.Own.mono (B := (w.alloc (.cells #[.map (some b)] 247)).heap.size) h2 (by simp)
 ·exact ((Below.refl _ w).alloc (Nat.le_refl _) _).trans (hb.mono (by simp))
end Go.Proofs.YtbelkhkllneifaaGreatDoor
