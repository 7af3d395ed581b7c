import Derived.Test.YtodeodndjkkkbaaZAH
import Derived.Test.YtodeodndjkkkbaaZAD
import Derived.Test.YtodeodndjkkkbaaZAF
import Derived.Test.YtodeodndjkkkbaaZAA
import Derived.BigQuiet
import Derived.Test.YtodeodndjkkkbaaZAG
import Derived.Test.YtodeodndjkkkbaaZAE
import Derived.Laws.MakeOwn
import Derived.StillTailTactics
import Derived.Lib.QuietBelow
import Derived.RegionCalls
import Derived.Deep.RegionWith
import Derived.LoopTactic
import Derived.Deep.Onto
import Derived.Deep.RegionHeld3
import Derived.Deep.OwnRows
namespace Go.Proofs.Ytodeodndjkkkbaa
section
open Go.RowKit
open Ty (encU num txt)
open Tx (restT)
open Ig (rest sg)
end
section
open Go.RowKit
def Dd.same (a b : Dd.D) : Bool := (a.gone == b.gone) && Kn.sameR a.row b.row
end
section
open Go.RowKit
end
section
open Go.RowKit
open Ig (nth encI encR grp diffs prv low off sg rest rdInts acc)
open Ty (encU num)
def Ig.iv (L : List Int) (i : Nat) : Value := .int .i64 (nth L i)
def Ig.Own (base : Nat) (w : World) (v : Value) (L : List Int) : Prop := Bt.Buf 2 base w v L.length (Ig.iv L)
theorem Ig.Own.nil (base : Nat) (w : World) : Ig.Own base w (.slice none 0 0) [] := Bt.Buf.nil _ _ _ _
theorem Ig.Own.post {base : Nat} {w : World} {v : Value} {M : List Int} {x : Int} (h : Bt.Buf 2 base w v (M.length + 1) (Ig.iv (M ++ [x]))) : Ig.Own base w v (M ++ [x]) := by
 unfold Ig.Own
 rw [List.length_append, List.length_singleton]
 exact h
theorem Ig.buf_ne {e : TypeId} {base : Nat} {w : World} {v : Value} {n : Nat} {f : Nat → Value} (h : Bt.Buf e base w v n f) {b : Nat} (hb : b < base) : v.ownBlock ≠ some b := fun e => by have := h.base_le b e; omega
theorem Ig.buf_by {e : TypeId} {base b : Nat} {w w' : World} {v : Value} {n : Nat} {f : Nat → Value} (h : Bt.Buf e base w v n f) (hg : w.grownBy w' (some b)) (hb : b < base) : Bt.Buf e base w' v n f :=
 World.ownsRow.kept h hg (.inr (Ig.buf_ne h hb))
theorem Ig.Own.by {base b : Nat} {w w' : World} {v : Value} {L : List Int} (h : Ig.Own base w v L) (hg : w.grownBy w' (some b)) (hb : b < base) : Ig.Own base w' v L := Ig.buf_by h hg hb
theorem Ig.Own.at {base : Nat} {w : World} {v : Value} {L : List Int} (h : Ig.Own base w v L) : Ig.At w.heap.size w v L := by
 have hs := Bt.Buf.sl h
 obtain ⟨a, c, rfl, h1⟩ := hs
 have hc : L.length ≤ c := by
  rcases h.2 with ⟨e, e0⟩ | ⟨g, cap, cur, e, _, _, hcap, _⟩
  ·omega
  ·simp only [Value.slice.injEq] at e
   omega
 refine ⟨a, c, rfl, hc, Nat.le_refl _, ?_⟩
 rcases h1 with h1 | h1
 ·exact .inl (List.eq_nil_of_length_eq_zero h1)
 ·exact .inr h1
theorem Ig.rest_le (l : List UInt8) : (rest l).length ≤ l.length := by unfold rest; rw [List.length_drop]; omega
def Ig.Mid (n : Nat) (l : List UInt8) (k : Nat) (M : List Int) (l2 : List UInt8) : Prop := M.length = k ∧ k ≤ n ∧ l2.length ≤ l.length ∧ rdInts n l = ((rdInts (n - k) l2).1, M ++ (rdInts (n - k) l2).2.1, (rdInts (n - k) l2).2.2)
theorem Ig.Mid.next {n : Nat} {l : List UInt8} {k : Nat} {M : List Int} {l2 : List UInt8} (h : Ig.Mid n l k M l2) (hk : k < n) (h0 : (num l2).2.2 = 0) : Ig.Mid n l (k + 1) (M ++ [sg l2]) (rest l2) := by
 obtain ⟨h1, h2, h3, h4⟩ := h
 refine ⟨by simp [h1], by omega, Nat.le_trans (Ig.rest_le l2) h3, ?_⟩
 have e : n - k = (n - (k + 1)) + 1 := by omega
 rw [h4, e]
 simp only [rdInts]
 rw [if_neg (by rw [h0]; simp)]
 simp
theorem Ig.Mid.fail {n : Nat} {l : List UInt8} {k : Nat} {M : List Int} {l2 : List UInt8} (h : Ig.Mid n l k M l2) (hk : k < n) (h0 : (num l2).2.2 ≠ 0) : (rdInts n l).1 = (num l2).2.2 := by
 obtain ⟨h1, h2, h3, h4⟩ := h
 have e : n - k = (n - (k + 1)) + 1 := by omega
 rw [h4, e]
 simp only [rdInts]
 rw [if_pos h0]
theorem Ig.Mid.done {n : Nat} {l : List UInt8} {M : List Int} {l2 : List UInt8} (h : Ig.Mid n l n M l2) : rdInts n l = (0, M, l2) := by
 obtain ⟨h1, h2, h3, h4⟩ := h
 rw [h4, Nat.sub_self]
 simp [rdInts]
end
section
open Go.RowKit
open Ig (nth encI encR grp diffs prv low off sg rest rdInts acc)
open Ty (encU num)
def Ig.mix (A D : List Int) (k i : Nat) : Value := .int .i64 (if i < k then nth A i else nth D i)
def Ig.rdDelta (n : Nat) (l : List UInt8) : Nat × List Int × List UInt8 := ((rdInts n l).1, acc 0 (rdInts n l).2.1, (rdInts n l).2.2)
end
section
open Go.RowKit
open Ig (nth encI encR grp diffs prv low off sg rest rdInts acc rdRuns spread)
open Ty (encU num)
def Ig.rr (m : Nat) (p : Option Int) (l : List UInt8) : Nat × List (Nat × Int) × List UInt8 := rdRuns m m p l
theorem Ig.fuel : ∀ (f g m : Nat) (p : Option Int) (l : List UInt8), m ≤ f → m ≤ g → rdRuns f m p l = rdRuns g m p l
 | f, g, 0, p, l, _, _ => by rw [Ig.rdRuns_zero, Ig.rdRuns_zero]
 | 0, _, m + 1, _, _, h, _ => by omega
 | _, 0, m + 1, _, _, _, h => by omega
 | f + 1, g + 1, m + 1, p, l, h1, h2 => by
   simp only [rdRuns]
   split
   ·rfl
   ·split
    ·rfl
    ·split
     ·rfl
     ·split
      ·rfl
      ·rename_i a b c d
       rw [Ig.fuel f g (m + 1 - (num l).1) (some (sg (rest l))) (rest (rest l)) (by omega) (by omega)]
theorem Ig.rr_zero (p : Option Int) (l : List UInt8) : Ig.rr 0 p l = (0, [], l) := Ig.rdRuns_zero _ _ _
theorem Ig.rr_step (m : Nat) (hm : 0 < m) (p : Option Int) (l : List UInt8) : Ig.rr m p l =
 if (num l).2.2 ≠ 0 then ((num l).2.2, [], l)
 else if (num l).1 = 0 ∨ m < (num l).1 then (4, [], l)
 else if (num (rest l)).2.2 ≠ 0 then ((num (rest l)).2.2, [], l)
 else if p = some (sg (rest l)) then (4, [], l)
 else ((Ig.rr (m - (num l).1) (some (sg (rest l))) (rest (rest l))).1, ((num l).1, sg (rest l)) :: (Ig.rr (m - (num l).1) (some (sg (rest l))) (rest (rest l))).2.1, (Ig.rr (m - (num l).1) (some (sg (rest l))) (rest (rest l))).2.2) := by
 obtain ⟨j, rfl⟩ : ∃ j, m = j + 1 := ⟨m - 1, by omega⟩
 unfold Ig.rr
 conv => lhs; simp only [rdRuns]
 split
 ·rfl
 ·split
  ·rfl
  ·split
   ·rfl
   ·split
    ·rfl
    ·rename_i a b c d
     rw [Ig.fuel j (j + 1 - (num l).1) (j + 1 - (num l).1) (some (sg (rest l))) (rest (rest l)) (by omega) (by omega)]
def Ig.rdR (n : Nat) (l : List UInt8) : Nat × List Int × List UInt8 := ((Ig.rr n none l).1, spread (Ig.rr n none l).2.1, (Ig.rr n none l).2.2)
def Ig.MidR (n : Nat) (l : List UInt8) (M : List Int) (l2 : List UInt8) : Prop := M.length ≤ n ∧ l2.length ≤ l.length ∧
 Ig.rdR n l = ((Ig.rr (n - M.length) M.getLast? l2).1, M ++ spread (Ig.rr (n - M.length) M.getLast? l2).2.1, (Ig.rr (n - M.length) M.getLast? l2).2.2)
theorem Ig.MidR.done {n : Nat} {l : List UInt8} {M : List Int} {l2 : List UInt8} (h : Ig.MidR n l M l2) (hn : n ≤ M.length) : Ig.rdR n l = (0, M, l2) := by
 obtain ⟨h1, h2, h3⟩ := h
 rw [h3, show n - M.length = 0 by omega, Ig.rr_zero]
 simp [spread]
theorem Ig.MidR.next {n : Nat} {l : List UInt8} {M : List Int} {l2 : List UInt8} (h : Ig.MidR n l M l2) (hn : M.length < n) (h1 : (num l2).2.2 = 0) (h2 : ¬ ((num l2).1 = 0 ∨ n - M.length < (num l2).1)) (h4 : (num (rest l2)).2.2 = 0) (h5 : ¬ M.getLast? = some (sg (rest l2))) :
 Ig.MidR n l (M ++ List.replicate (num l2).1 (sg (rest l2))) (rest (rest l2)) := by
 obtain ⟨_, hl, h3⟩ := h
 have e1 : (M ++ List.replicate (num l2).1 (sg (rest l2))).getLast? = some (sg (rest l2)) := by
  obtain ⟨j, hj⟩ : ∃ j, (num l2).1 = j + 1 := ⟨(num l2).1 - 1, by omega⟩
  rw [hj, List.replicate_succ', ← List.append_assoc, List.getLast?_append]
  simp
 have e2 : n - (M ++ List.replicate (num l2).1 (sg (rest l2))).length = n - M.length - (num l2).1 := by simp; omega
 refine ⟨by simp; omega, Nat.le_trans (Nat.le_trans (Ig.rest_le _) (Ig.rest_le _)) hl, ?_⟩
 rw [e1, e2, h3, Ig.rr_step (n - M.length) (by omega), if_neg (by rw [h1]; simp), if_neg h2, if_neg (by rw [h4]; simp), if_neg h5]
 simp [spread]
end
section
open Go.RowKit
open Ig (nth encI encR grp diffs prv low off sg rest rdInts acc rdRuns spread)
open Ty (encU num)
end
section
open Go.RowKit
open Ig (nth encI encR grp diffs prv low off sg rest rdInts acc rdRuns spread outs good un)
open Ty (encU num)
end
section
open Go.RowKit
open Ig (nth encI encR grp diffs prv low off sg rest rdInts acc rdRuns spread outs good un rdPacked)
open Ty (encU num)
section
variable {n : Nat} {l r : List UInt8} {x : UInt8}
end
def Ig.rdP (n : Nat) (l : List UInt8) : Nat × List Int × List UInt8 := if n = 0 then (0, [], l) else rdPacked n l
end
section
open Go.RowKit
open Ig (nth sg rest rd rdBody rdInts)
open Ty (num)
def Ig.Got (w : World) (r : Nat × List Int) (e : Ending) (w' : World) : Prop :=
 ∃ v, e = .returned (.tuple #[v, .int .i64 ((r.1 : Nat) : Int)]) ∧ Ig.At w'.heap.size w' v r.2 ∧ Below w.heap.size w w'
theorem Ig.Got.good {w w' : World} {r : Nat × List Int} {v : Value} {L : List Int} (hr : r = (0, L)) (h : Ig.At w'.heap.size w' v L) (g : Below w.heap.size w w') : Ig.Got w r (.returned (.tuple #[v, .int .i64 0])) w' :=
 ⟨v, by rw [hr]; rfl, by rw [hr]; exact h, g⟩
section
variable {x : UInt8} {r : List UInt8}
end
end
section
open Go.RowKit
open Ig (nth encI encR grp)
open Ty (encU num)
end
section
open Go.RowKit
open Ig (nth encI encR grp low off)
open Ty (encU num)
end
section
open Go.RowKit
open Ig (nth encI encR grp low off)
open Ty (encU num)
end
section
open Go.RowKit
open Ig (nth encI encR grp low off diffs prv)
open Ty (encU num)
end
section
open Go.RowKit
open Ty (encU num txt)
open Tx (restT rdWords)
theorem Tx.buf_ne {e : TypeId} {base : Nat} {w : World} {v : Value} {n : Nat} {f : Nat → Value} (h : Bt.Buf e base w v n f) {b : Nat} (hb : b < base) : v.ownBlock ≠ some b := fun e => by have := h.base_le b e; omega
theorem Tx.buf_by {e : TypeId} {base b : Nat} {w w' : World} {v : Value} {n : Nat} {f : Nat → Value} (h : Bt.Buf e base w v n f) (hg : w.grownBy w' (some b)) (hb : b < base) : Bt.Buf e base w' v n f :=
 World.ownsRow.kept h hg (.inr (Tx.buf_ne h hb))
theorem Tx.Own.by {base b : Nat} {w w' : World} {v : Value} {L : List Tx.Str} (h : Tx.Own base w v L) (hg : w.grownBy w' (some b)) (hb : b < base) : Tx.Own base w' v L := Tx.buf_by h hg hb
def Tx.MidW (ord : Bool) (n : Nat) (l : List UInt8) (M : List Tx.Str) (l2 : List UInt8) : Prop := M.length ≤ n ∧ rdWords ord n none l = ((rdWords ord (n - M.length) M.getLast? l2).1, M ++ (rdWords ord (n - M.length) M.getLast? l2).2.1, (rdWords ord (n - M.length) M.getLast? l2).2.2)
theorem Tx.MidW.fail {ord : Bool} {n : Nat} {l : List UInt8} {M : List Tx.Str} {l2 : List UInt8} (h : Tx.MidW ord n l M l2) (hk : M.length < n) (h0 : (txt l2 64).2.2 ≠ 0) : (rdWords ord n none l).1 = (txt l2 64).2.2 := by
 obtain ⟨h1, h2⟩ := h
 have e : n - M.length = (n - (M.length + 1)) + 1 := by omega
 rw [h2, e]
 simp only [rdWords]
 rw [if_pos h0]
theorem Tx.MidW.next {ord : Bool} {n : Nat} {l : List UInt8} {M : List Tx.Str} {l2 : List UInt8} (h : Tx.MidW ord n l M l2) (hk : M.length < n) (h0 : (txt l2 64).2.2 = 0) (hl : ord = true → ∀ q, M.getLast? = some q → Tx.lt q (txt l2 64).1 = true) : Tx.MidW ord n l (M ++ [(txt l2 64).1]) (restT l2) := by
 obtain ⟨h1, h2⟩ := h
 refine ⟨by simp; omega, ?_⟩
 have e : n - M.length = (n - (M.length + 1)) + 1 := by omega
 have hno : ¬ (ord = true ∧ (M.getLast?.any fun q => !Tx.lt q (txt l2 64).1) = true) := by
  rintro ⟨a, b⟩
  cases hm : M.getLast? with
  | none => rw [hm] at b; cases b
  | some q =>
    rw [hm] at b
    have := hl a q hm
    simp [this] at b
 rw [h2, e]
 simp only [rdWords]
 rw [if_neg (by rw [h0]; simp), if_neg hno]
 simp
theorem Tx.MidW.done {ord : Bool} {n : Nat} {l : List UInt8} {M : List Tx.Str} {l2 : List UInt8} (h : Tx.MidW ord n l M l2) (hk : ¬ M.length < n) : rdWords ord n none l = (0, M, l2) := by
 obtain ⟨h1, h2⟩ := h
 have e : n - M.length = 0 := by omega
 rw [h2, e]
 simp [rdWords]
end
section
open Go.RowKit
end
section
open Go.RowKit
open Ig (nth encI encR grp low off diffs prv)
open Ty (encU num)
end
section
open Go.RowKit
open Ig (nth encI encR grp low off diffs prv sg rest)
open Ty (encU num)
end
section
open Go.RowKit
open Ig (nth encI encR grp low off diffs prv sg rest outs good un rdPacked)
open Ty (encU num)
def Ig.anyZ (X : Nat → Nat) (k : Nat) : Bool := (List.range k).any (fun i => X i == 0)
end
section
open Go.RowKit
open Ig (nth sg rest rd rdBody rdInts acc)
open Ty (num)
theorem Ig.add_wrap {x y : Int} : wrap64 (IntKind.u64.wrap (IntKind.u64.wrap y + IntKind.u64.wrap x)) = wrap64 (y + x) := by
 simp only [IntKind.wrap_u64]
 unfold wrap64
 omega
def Ig.ofK (K : Nat) (M : List Int) : List Int := if K = 0 then M else acc 0 M
def Ig.LoopR (K n : Nat) (l : List UInt8) (j : Nat) (M2 : List Int) (l2 : List UInt8) (er : Nat) : Prop :=
 (er = 0 ∧ ∃ M, Ig.Mid n l j M l2 ∧ M2 = Ig.ofK K M) ∨ (er ≠ 0 ∧ (rdInts n l).1 = er ∧ j ≤ n)
theorem Ig.LoopR.step {K n : Nat} {l : List UInt8} {j : Nat} {M : List Int} {l2 : List UInt8} (hM : Ig.Mid n l j M l2) (hj : j < n) {M3 : List Int} (h3 : M3 = Ig.ofK K (M ++ [sg l2])) : Ig.LoopR K n l (j + 1) M3 (rest l2) (num l2).2.2 := by
 by_cases h : (num l2).2.2 = 0
 ·exact .inl ⟨h, _, hM.next hj h, h3⟩
 ·exact .inr ⟨h, hM.fail hj h, by omega⟩
end
section
open Go.RowKit
open Ty (encU num txt)
open Tx (restT rdWords rdPick outs)
open Ig (un)
def Tx.mark (X : Nat → Nat) (k j : Nat) : Bool := (List.range k).any fun i => X i == j
end
section
open Go.RowKit
open Ty (encU num txt)
open Tx (rdPick)
end
section
open Go.RowKit
open Ty (encU num txt)
open Tx (rdPick outs)
def Tx.mv (X : Nat → Nat) (k j : Nat) : Value := .bool (Tx.mark X k j)
end
section
open Go.RowKit
open Ty (num txt)
open Ig (rest)
open Tx (rdWords rdPick rdBody rd)
def Tx.Got (w : World) (r : Nat × List Tx.Str) (e : Ending) (w' : World) : Prop :=
 ∃ v, e = .returned (.tuple #[v, .int .i64 ((r.1 : Nat) : Int)]) ∧ Tx.At w'.heap.size w' v r.2 ∧ Below w.heap.size w w'
theorem Tx.Got.good {w w' : World} {r : Nat × List Tx.Str} {v : Value} {L : List Tx.Str} (hr : r = (0, L)) (h : Tx.At w'.heap.size w' v L) (g : Below w.heap.size w w') : Tx.Got w r (.returned (.tuple #[v, .int .i64 0])) w' :=
 ⟨v, by rw [hr]; rfl, by rw [hr]; exact h, g⟩
section
variable {x : UInt8} {r : List UInt8}
end
section
variable {n : Nat} {l : List UInt8}
end
end
section
open Go.RowKit
end
section
open Go.RowKit
def Cl.wS (c : Kn.C) (l : List Kn.V) : List UInt8 := if Cl.wE c l = 0 then Cl.enc c l else []
def Cl.wV (c : Kn.C) (l : List Kn.V) : Value := .tuple #[.string (Ty.S (Cl.wS c l)), .int .i64 ((Cl.wE c l : Nat) : Int)]
end
section
open Go.RowKit
open Tx (encT)
def Bk.wS (s : List Kn.C) (L : List Dd.D) : List UInt8 := if Bk.wE s L = 0 then Bk.enc s L else []
def Bk.wV (s : List Kn.C) (L : List Dd.D) : Value := .tuple #[.string (Ty.S (Bk.wS s L)), .int .i64 (Bk.wE s L)]
end
section
open Go.RowKit
open Tx (encT)
def Bk.pre (s : List Kn.C) (L : List Dd.D) (k : Nat) : List UInt8 := Ty.encU L.length ++ (Bk.bools L ++ Bk.encC 0 (s.take k) L)
end
end Go.Proofs.Ytodeodndjkkkbaa
