import Derived.Test.YtbelkhkllneifaaGreatDoorWEAN
import Derived.LoopTactic
import Derived.Test.YtbelkhkllneifaaGreatDoorWEAH
import Derived.Test.YtbelkhkllneifaaGreatDoorWEAL
import Derived.Deep.Onto
import Derived.Deep.RegionHeld3
import Derived.Deep.OwnRows
namespace Go.Proofs.YtbelkhkllneifaaGreatDoor
section
open Go.RowKit
open Ig (nth encI encR grp low off diffs prv)
open Ty (encU num)
end
section
open Go.RowKit
open Ty (encU num txt)
open Tx (restT rdWords)
theorem Tx.buf_ne {e : TypeId} {base : Nat} {w : World} {v : Value} {n : Nat} {f : Nat → Value} (h : Bt.Buf e base w v n f) {b : Nat} (hb : b < base) : v.ownBlock ≠ some b := fun e => by have := h.base_le b e; omega
theorem Tx.buf_by {e : TypeId} {base b : Nat} {w w' : World} {v : Value} {n : Nat} {f : Nat → Value} (h : Bt.Buf e base w v n f) (hg : w.grownBy w' (some b)) (hb : b < base) : Bt.Buf e base w' v n f :=
 World.ownsRow.kept h hg (.inr (Tx.buf_ne h hb))
theorem Tx.Own.by {base b : Nat} {w w' : World} {v : Value} {L : List Tx.Str} (h : Tx.Own base w v L) (hg : w.grownBy w' (some b)) (hb : b < base) : Tx.Own base w' v L := Tx.buf_by h hg hb
def Tx.MidW (ord : Bool) (n : Nat) (l : List UInt8) (M : List Tx.Str) (l2 : List UInt8) : Prop := M.length ≤ n ∧ rdWords ord n none l = ((rdWords ord (n - M.length) M.getLast? l2).1, M ++ (rdWords ord (n - M.length) M.getLast? l2).2.1, (rdWords ord (n - M.length) M.getLast? l2).2.2)
theorem Tx.MidW.start (ord : Bool) (n : Nat) (l : List UInt8) : Tx.MidW ord n l [] l := ⟨by simp, by simp⟩
theorem Tx.MidW.fail {ord : Bool} {n : Nat} {l : List UInt8} {M : List Tx.Str} {l2 : List UInt8} (h : Tx.MidW ord n l M l2) (hk : M.length < n) (h0 : (txt l2 64).2.2 ≠ 0) : (rdWords ord n none l).1 = (txt l2 64).2.2 := by
 obtain ⟨h1, h2⟩ := h
 have e : n - M.length = (n - (M.length + 1)) + 1 := by omega
 rw [h2, e]
 simp only [rdWords]
 rw [if_pos h0]
theorem Tx.MidW.bad {n : Nat} {l : List UInt8} {M : List Tx.Str} {l2 : List UInt8} (h : Tx.MidW true n l M l2) (hk : M.length < n) (h0 : (txt l2 64).2.2 = 0) {q : Tx.Str} (hq : M.getLast? = some q) (hl : Tx.lt q (txt l2 64).1 = false) : (rdWords true n none l).1 = 4 := by
 obtain ⟨h1, h2⟩ := h
 have e : n - M.length = (n - (M.length + 1)) + 1 := by omega
 rw [h2, e]
 simp only [rdWords]
 rw [if_neg (by rw [h0]; simp), if_pos (by rw [hq]; simp [hl])]
theorem Tx.MidW.next {ord : Bool} {n : Nat} {l : List UInt8} {M : List Tx.Str} {l2 : List UInt8} (h : Tx.MidW ord n l M l2) (hk : M.length < n) (h0 : (txt l2 64).2.2 = 0) (hl : ord = true → ∀ q, M.getLast? = some q → Tx.lt q (txt l2 64).1 = true) : Tx.MidW ord n l (M ++ [(txt l2 64).1]) (restT l2) := by
 obtain ⟨h1, h2⟩ := h
 refine ⟨by simp; omega, ?_⟩
 have e : n - M.length = (n - (M.length + 1)) + 1 := by omega
 have hno : ¬ (ord = true ∧ (M.getLast?.any fun q => !Tx.lt q (txt l2 64).1) = true) := by
  rintro ⟨a, b⟩
  cases hm : M.getLast? with
  | none => rw [hm] at b; cases b
  | some q =>
    rw [hm] at b
    have := hl a q hm
    simp [this] at b
 rw [h2, e]
 simp only [rdWords]
 rw [if_neg (by rw [h0]; simp), if_neg hno]
 simp
theorem Tx.MidW.done {ord : Bool} {n : Nat} {l : List UInt8} {M : List Tx.Str} {l2 : List UInt8} (h : Tx.MidW ord n l M l2) (hk : ¬ M.length < n) : rdWords ord n none l = (0, M, l2) := by
 obtain ⟨h1, h2⟩ := h
 have e : n - M.length = 0 := by omega
 rw [h2, e]
 simp [rdWords]
theorem Tx.last_at {M : List Tx.Str} (h : 0 < M.length) : M.getLast? = some (M.getD (M.length - 1) []) := by
 rw [List.getLast?_eq_getElem?, List.getD, List.getElem?_eq_getElem (by omega)]
 rfl
end
section
open Go.RowKit
theorem Cl.live_step (l : List Kn.V) (k : Nat) (x : Kn.V) (h : l[k]? = some x) : Cl.live (l.take (k + 1)) = Cl.live (l.take k) ++ (if x.null = true then [] else [x]) := by
 obtain ⟨h1, rfl⟩ := List.getElem?_eq_some_iff.1 h
 unfold Cl.live
 rw [List.take_succ_eq_append_getElem h1, List.filter_append]
 congr 1
 cases hn : l[k].null <;> simp [hn]
end
section
open Go.RowKit
open Ig (nth encI encR grp low off diffs prv)
open Ty (encU num)
end
section
open Go.RowKit
open Ig (nth encI encR grp low off diffs prv sg rest)
open Ty (encU num)
end
section
open Go.RowKit
open Ig (nth encI encR grp low off diffs prv sg rest outs good un rdPacked)
open Ty (encU num)
def Ig.anyZ (X : Nat → Nat) (k : Nat) : Bool := (List.range k).any (fun i => X i == 0)
end
section
open Go.RowKit
open Ig (nth sg rest rd rdBody rdInts acc)
open Ty (num)
def Ig.ofK (K : Nat) (M : List Int) : List Int := if K = 0 then M else acc 0 M
def Ig.LoopR (K n : Nat) (l : List UInt8) (j : Nat) (M2 : List Int) (l2 : List UInt8) (er : Nat) : Prop :=
 (er = 0 ∧ ∃ M, Ig.Mid n l j M l2 ∧ M2 = Ig.ofK K M) ∨ (er ≠ 0 ∧ (rdInts n l).1 = er ∧ j ≤ n)
theorem Ig.LoopR.step {K n : Nat} {l : List UInt8} {j : Nat} {M : List Int} {l2 : List UInt8} (hM : Ig.Mid n l j M l2) (hj : j < n) {M3 : List Int} (h3 : M3 = Ig.ofK K (M ++ [sg l2])) : Ig.LoopR K n l (j + 1) M3 (rest l2) (num l2).2.2 := by
 by_cases h : (num l2).2.2 = 0
 ·exact .inl ⟨h, _, hM.next hj h, h3⟩
 ·exact .inr ⟨h, hM.fail hj h, by omega⟩
end
section
open Go.RowKit
open Ty (encU num txt)
open Tx (restT rdWords rdPick outs)
open Ig (un)
theorem Tx.rdPk1 {n : Nat} {d : List Tx.Str} : rdPick n d [] = (2, [], []) := rfl
theorem Tx.rdPk2 {n : Nat} {d : List Tx.Str} {b : UInt8} {r : List UInt8} (h : 64 < b.toNat) : (rdPick n d (b :: r)).1 = 4 := by
 unfold rdPick
 simp only
 rw [if_pos h]
theorem Tx.rdPk3 {n : Nat} {d : List Tx.Str} {b : UInt8} {r : List UInt8} (h : ¬ 64 < b.toNat) (h2 : r.length < Bt.need (n * b.toNat)) : (rdPick n d (b :: r)).1 = 2 := by
 unfold rdPick
 simp only
 rw [if_neg h, if_pos h2]
theorem Tx.rdPk4 {n : Nat} {d : List Tx.Str} {b : UInt8} {r : List UInt8} (h : ¬ 64 < b.toNat) (h2 : ¬ r.length < Bt.need (n * b.toNat)) (h3 : Bt.chk (Ty.S (r.take (Bt.need (n * b.toNat)))) (n * b.toNat) ≠ 0) : (rdPick n d (b :: r)).1 = Bt.chk (Ty.S (r.take (Bt.need (n * b.toNat)))) (n * b.toNat) := by
 have h3' : Bt.chk ⟨(r.take (Bt.need (n * b.toNat))).toArray⟩ (n * b.toNat) ≠ 0 := h3
 unfold rdPick
 simp only
 rw [if_neg h, if_neg h2, if_pos h3']
 rfl
theorem Tx.rdPk5 {n : Nat} {d : List Tx.Str} {b : UInt8} {r : List UInt8} (h : ¬ 64 < b.toNat) (h2 : ¬ r.length < Bt.need (n * b.toNat)) (h3 : Bt.chk (Ty.S (r.take (Bt.need (n * b.toNat)))) (n * b.toNat) = 0) (h4 : ¬ Tx.right n b.toNat d (un (Ty.S (r.take (Bt.need (n * b.toNat)))) b.toNat) = true) : (rdPick n d (b :: r)).1 = 4 := by
 have h3' : ¬ Bt.chk ⟨(r.take (Bt.need (n * b.toNat))).toArray⟩ (n * b.toNat) ≠ 0 := fun e => e h3
 have h4' : ¬ Tx.right n b.toNat d (un ⟨(r.take (Bt.need (n * b.toNat))).toArray⟩ b.toNat) = true := h4
 unfold rdPick
 simp only
 rw [if_neg h, if_neg h2, if_neg h3', if_neg h4']
theorem Tx.rdPk6 {n : Nat} {d : List Tx.Str} {b : UInt8} {r : List UInt8} (h : ¬ 64 < b.toNat) (h2 : ¬ r.length < Bt.need (n * b.toNat)) (h3 : Bt.chk (Ty.S (r.take (Bt.need (n * b.toNat)))) (n * b.toNat) = 0) (h4 : Tx.right n b.toNat d (un (Ty.S (r.take (Bt.need (n * b.toNat)))) b.toNat) = true) : rdPick n d (b :: r) = (0, outs n d (un (Ty.S (r.take (Bt.need (n * b.toNat)))) b.toNat), r.drop (Bt.need (n * b.toNat))) := by
 have h3' : ¬ Bt.chk ⟨(r.take (Bt.need (n * b.toNat))).toArray⟩ (n * b.toNat) ≠ 0 := fun e => e h3
 have h4' : Tx.right n b.toNat d (un ⟨(r.take (Bt.need (n * b.toNat))).toArray⟩ b.toNat) = true := h4
 unfold rdPick
 simp only
 rw [if_neg h, if_neg h2, if_neg h3', if_pos h4']
 rfl
def Tx.mark (X : Nat → Nat) (k j : Nat) : Bool := (List.range k).any fun i => X i == j
theorem Tx.right_iff {n w : Nat} {d : List Tx.Str} {X : Nat → Nat} : Tx.right n w d X = true ↔ (∀ i, i < n → X i < d.length) ∧ (∀ j, j < d.length → Tx.mark X n j = true) ∧ Bt.wid n X = w := by
 unfold Tx.right Tx.mark
 simp only [Bool.and_eq_true, List.all_eq_true, List.mem_range, decide_eq_true_iff, beq_iff_eq]
theorem Tx.outs_len (n : Nat) (d : List Tx.Str) (X : Nat → Nat) : (outs n d X).length = n := by simp [outs]
end
section
open Go.RowKit
open Ty (encU num txt)
open Tx (rdPick)
end
section
open Go.RowKit
open Ty (encU num txt)
open Tx (rdPick outs)
def Tx.mv (X : Nat → Nat) (k j : Nat) : Value := .bool (Tx.mark X k j)
theorem Tx.At.str {B n c : Nat} {w : World} {a : Option Addr} {L : List Tx.Str} (h : Tx.At B w (.slice a n c) L) {k : Nat} (hk : k < L.length) : ∃ b o, a = some ⟨b, o, none⟩ ∧ w.cell? ⟨b, o + k, none⟩ = some (.string (Ty.S (L.getD k []))) := by
 obtain ⟨a', c', e, _, _, h⟩ := h
 simp only [Value.slice.injEq] at e
 rcases h with ⟨h, _⟩ | ⟨b, o, ea, _, h⟩
 ·rw [h] at hk; simp at hk
 ·exact ⟨b, o, e.1.trans ea, h k hk⟩
end
section
open Go.RowKit
open Ty (num txt)
open Ig (rest)
open Tx (rdWords rdPick rdBody rd)
def Tx.Got (w : World) (r : Nat × List Tx.Str) (e : Ending) (w' : World) : Prop :=
 ∃ v, e = .returned (.tuple #[v, .int .i64 ((r.1 : Nat) : Int)]) ∧ Tx.At w'.heap.size w' v r.2 ∧ Below w.heap.size w w'
theorem Tx.Got.bad {w w' : World} {r : Nat × List Tx.Str} {z : Int} {q : Nat} (hr : r = (q, [])) (hz : z = (q : Int)) (g : Below w.heap.size w w') : Tx.Got w r (.returned (.tuple #[.slice none 0 0, .int .i64 z])) w' :=
 ⟨_, by rw [hr, hz], by rw [hr]; exact Tx.At.nil _, g⟩
theorem Tx.Got.good {w w' : World} {r : Nat × List Tx.Str} {v : Value} {L : List Tx.Str} (hr : r = (0, L)) (h : Tx.At w'.heap.size w' v L) (g : Below w.heap.size w w') : Tx.Got w r (.returned (.tuple #[v, .int .i64 0])) w' :=
 ⟨v, by rw [hr]; rfl, by rw [hr]; exact h, g⟩
section
variable {x : UInt8} {r : List UInt8}
theorem Tx.rd1 (h : 1 < x.toNat) : rd (x :: r) = (4, []) := by unfold rd; simp only; rw [if_pos h]
theorem Tx.rd2 (h : ¬ 1 < x.toNat) (h2 : (num r).2.2 ≠ 0) : rd (x :: r) = ((num r).2.2, []) := by unfold rd; simp only; rw [if_neg h, if_pos h2]
theorem Tx.rd3 (h : ¬ 1 < x.toNat) (h2 : (num r).2.2 = 0) (h3 : 65536 < (num r).1) : rd (x :: r) = (3, []) := by unfold rd; simp only; rw [if_neg h, if_neg (by rw [h2]; simp), if_pos h3]
theorem Tx.rd4 (h : ¬ 1 < x.toNat) (h2 : (num r).2.2 = 0) (h3 : ¬ 65536 < (num r).1) (h4 : (rdBody x.toNat (num r).1 (rest r)).1 ≠ 0) : rd (x :: r) = ((rdBody x.toNat (num r).1 (rest r)).1, []) := by
 unfold rd; simp only; rw [if_neg h, if_neg (by rw [h2]; simp), if_neg h3, if_pos h4]
theorem Tx.rd5 (h : ¬ 1 < x.toNat) (h2 : (num r).2.2 = 0) (h3 : ¬ 65536 < (num r).1) (h4 : (rdBody x.toNat (num r).1 (rest r)).1 = 0) (h5 : (rdBody x.toNat (num r).1 (rest r)).2.2 ≠ []) : rd (x :: r) = (5, []) := by
 unfold rd; simp only; rw [if_neg h, if_neg (by rw [h2]; simp), if_neg h3, if_neg (by rw [h4]; simp), if_pos h5]
theorem Tx.rd6 (h : ¬ 1 < x.toNat) (h2 : (num r).2.2 = 0) (h3 : ¬ 65536 < (num r).1) (h4 : (rdBody x.toNat (num r).1 (rest r)).1 = 0) (h5 : (rdBody x.toNat (num r).1 (rest r)).2.2 = []) : rd (x :: r) = (0, (rdBody x.toNat (num r).1 (rest r)).2.1) := by
 unfold rd; simp only; rw [if_neg h, if_neg (by rw [h2]; simp), if_neg h3, if_neg (by rw [h4]; simp), if_neg (by rw [h5]; simp)]
end
section
variable {n : Nat} {l : List UInt8}
theorem Tx.rdBody0 : rdBody 0 n l = rdWords false n none l := rfl
theorem Tx.rdB1 (h : (num l).2.2 ≠ 0) : (rdBody 1 n l).1 = (num l).2.2 := by unfold rdBody; rw [if_neg (by decide), if_pos h]
theorem Tx.rdB2 (h : (num l).2.2 = 0) (h2 : 65536 < (num l).1) : (rdBody 1 n l).1 = 3 := by unfold rdBody; rw [if_neg (by decide), if_neg (by rw [h]; simp), if_pos h2]
theorem Tx.rdB3 (h : (num l).2.2 = 0) (h2 : ¬ 65536 < (num l).1) (h3 : (rdWords true (num l).1 none (rest l)).1 ≠ 0) : (rdBody 1 n l).1 = (rdWords true (num l).1 none (rest l)).1 := by unfold rdBody; rw [if_neg (by decide), if_neg (by rw [h]; simp), if_neg h2, if_pos h3]
theorem Tx.rdB4 (h : (num l).2.2 = 0) (h2 : ¬ 65536 < (num l).1) (h3 : (rdWords true (num l).1 none (rest l)).1 = 0) : rdBody 1 n l = rdPick n (rdWords true (num l).1 none (rest l)).2.1 (rdWords true (num l).1 none (rest l)).2.2 := by unfold rdBody; rw [if_neg (by decide), if_neg (by rw [h]; simp), if_neg h2, if_neg (by rw [h3]; simp)]
end
end
section
open Go.RowKit
theorem Cl.ird_bad {l : List UInt8} (h : (Ig.rd l).1 ≠ 0) : (Ig.rd l).2 = [] := by
 unfold Ig.rd at h ⊢
 cases l with
 | nil => rfl
 | cons b r =>
   simp only at h ⊢
   split
   ·rfl
   ·split
    ·rfl
    ·split
     ·rfl
     ·split
      ·rfl
      ·split
       ·rfl
       ·rename_i a1 a2 a3 a4 a5
        rw [if_neg a1, if_neg a2, if_neg a3, if_neg a4, if_neg a5] at h
        exact absurd rfl h
theorem Cl.trd_bad {l : List UInt8} (h : (Tx.rd l).1 ≠ 0) : (Tx.rd l).2 = [] := by
 unfold Tx.rd at h ⊢
 cases l with
 | nil => rfl
 | cons b r =>
   simp only at h ⊢
   split
   ·rfl
   ·split
    ·rfl
    ·split
     ·rfl
     ·split
      ·rfl
      ·split
       ·rfl
       ·rename_i a1 a2 a3 a4 a5
        rw [if_neg a1, if_neg a2, if_neg a3, if_neg a4, if_neg a5] at h
        exact absurd rfl h
theorem Cl.ird_len (l : List UInt8) : (Ig.rd l).2.length ≤ 65536 := by
 by_cases h : (Ig.rd l).1 = 0
 ·obtain ⟨b, r, _, _, _, h, _⟩ := Ig.enc_rd l h
  exact h
 ·rw [Cl.ird_bad h]; simp
theorem Cl.trd_len (l : List UInt8) : (Tx.rd l).2.length ≤ 65536 := by
 by_cases h : (Tx.rd l).1 = 0
 ·obtain ⟨b, r, _, _, _, h, _⟩ := Tx.enc_rd l h
  exact h
 ·rw [Cl.trd_bad h]; simp
theorem Cl.back_len (c : Kn.C) (l : List UInt8) : (Cl.back c l).2.length ≤ 65536 := by
 unfold Cl.back
 split
 ·rw [List.length_map]; exact Cl.ird_len l
 ·rw [List.length_map]; exact Cl.trd_len l
end
section
open Go.RowKit
theorem Cl.vals_len {c : Kn.C} {l : List Kn.V} (h : l.all (Cl.is c) = true) (hl : l.length ≤ 65536) : (Cl.vals c l).length ≤ 4800000 := by
 unfold Cl.vals
 by_cases hk : c.k = 1
 ·rw [if_pos hk]
  have h1 := Ig.bk_least (Cl.nums l) 3 0 (by omega)
  have h2 := Ig.len_flat (Cl.nums l)
  have h3 := Ty.encU_len9 (Cl.nums l).length
  have h4 := Cl.nums_len l
  have e : (Ig.enc 0 (Cl.nums l)).length = 1 + ((Ty.encU (Cl.nums l).length).length + ((Cl.nums l).flatMap Ig.encI).length) := by
   unfold Ig.enc Ig.body
   rw [if_pos rfl, List.length_cons, List.length_append]
   omega
  omega
 ·rw [if_neg hk]
  have hf := Tx.fit_yes (Cl.words_fit hk h hl)
  have h2 := Tx.len_flat (Cl.words l) hf.2
  have h3 := Ty.encU_len9 (Cl.words l).length
  have h4 := hf.1
  have e : (Tx.enc 0 (Cl.words l)).length = 1 + ((Ty.encU (Cl.words l).length).length + ((Cl.words l).flatMap Tx.encT).length) := by
   unfold Tx.enc Tx.body
   rw [if_pos rfl, List.length_cons, List.length_append]
   omega
  unfold Tx.bestK
  split <;> omega
def Cl.wS (c : Kn.C) (l : List Kn.V) : List UInt8 := if Cl.wE c l = 0 then Cl.enc c l else []
def Cl.wV (c : Kn.C) (l : List Kn.V) : Value := .tuple #[.string (Ty.S (Cl.wS c l)), .int .i64 ((Cl.wE c l : Nat) : Int)]
theorem Cl.wV_bad {c : Kn.C} {l : List Kn.V} {q : Nat} (h : Cl.wE c l = q) (hq : q ≠ 0) : Cl.wV c l = .tuple #[.string (Ty.S []), .int .i64 (q : Int)] := by
 unfold Cl.wV Cl.wS
 rw [h, if_neg hq]
theorem Cl.wV_ok {c : Kn.C} {l : List Kn.V} (h : Cl.wE c l = 0) : Cl.wV c l = .tuple #[.string (Ty.S (Cl.enc c l)), .int .i64 0] := by
 unfold Cl.wV Cl.wS
 rw [h, if_pos rfl]
 rfl
theorem Cl.nulls_at {l : List Kn.V} {k : Nat} {x : Kn.V} (h : l[k]? = some x) : Cl.nulls l k = x.null := by
 unfold Cl.nulls
 rw [List.getD, h]
 rfl
theorem Cl.all_of {c : Kn.C} {l : List Kn.V} (h : ∀ (i : Nat) (x : Kn.V), l[i]? = some x → Cl.is c x = true) : l.all (Cl.is c) = true :=
 List.all_eq_true.2 fun x hx => by
  obtain ⟨i, hi⟩ := List.getElem?_of_mem hx
  exact h i x hi
end
end Go.Proofs.YtbelkhkllneifaaGreatDoor
