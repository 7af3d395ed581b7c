/-
  
  
  
-/
import Derived.Test.YtbelkhkllneifaaGreatDoorWBAF
import Derived.Test.YtbelkhkllneifaaGreatDoorWBAA
import Derived.Test.YtbelkhkllneifaaGreatDoorWBAE
import Derived.Test.YtbelkhkllneifaaGreatDoorWBAC
import Derived.Lib.QuietBelow
import Derived.Deep.RegionHeld3
namespace Go.Proofs.YtbelkhkllneifaaGreatDoor
open Go.RowKit
def Ig.bk (L : List Int) : Nat → Nat
 | 0 => 0
 | k + 1 => if (Ig.enc (k + 1) L).length < (Ig.enc (Ig.bk L k) L).length then k + 1 else Ig.bk L k
theorem Ig.bk_le (L : List Int) : ∀ k, Ig.bk L k ≤ k
 | 0 => Nat.le_refl _
 | k + 1 => by
   have := Ig.bk_le L k
   unfold Ig.bk
   split <;> omega
theorem Ig.bk_least (L : List Int) : ∀ k j, j ≤ k → (Ig.enc (Ig.bk L k) L).length ≤ (Ig.enc j L).length
 | 0, j, h => by
   obtain rfl : j = 0 := by omega
   exact Nat.le_refl _
 | k + 1, j, h => by
   have ih := Ig.bk_least L k
   unfold Ig.bk
   split
   ·rename_i hlt
    rcases Nat.lt_or_ge j (k + 1) with hj | hj
    ·have := ih j (by omega); omega
    ·obtain rfl : j = k + 1 := by omega
     exact Nat.le_refl _
   ·rename_i hlt
    rcases Nat.lt_or_ge j (k + 1) with hj | hj
    ·exact ih j (by omega)
    ·obtain rfl : j = k + 1 := by omega
     omega
def Ig.bestE (L : List Int) : Nat := if 65536 < L.length then 3 else 0
def Ig.bestS (L : List Int) : List UInt8 := if 65536 < L.length then [] else Ig.enc (Ig.bk L 3) L
def Ig.bestV (L : List Int) : Value := .tuple #[.string (Ty.S (Ig.bestS L)), .int .i64 ((Ig.bestE L : Nat) : Int)]
theorem Ig.bestV_long {L : List Int} (h : 65536 < L.length) : Ig.bestV L = .tuple #[.string (Ty.S []), .int .i64 3] := by unfold Ig.bestV Ig.bestE Ig.bestS; rw [if_pos h, if_pos h]; rfl
theorem Ig.bestV_good {L : List Int} (h : ¬ 65536 < L.length) : Ig.bestV L = .tuple #[.string (Ty.S (Ig.enc (Ig.bk L 3) L)), .int .i64 0] := by unfold Ig.bestV Ig.bestE Ig.bestS; rw [if_neg h, if_neg h]; rfl
set_option maxHeartbeats 2000000 in
theorem Ig.best_c (u : Value) (L : List Int) (w : World) (hw : Ty.Tabs w) (hL : Ig.At w.heap.size w u L) (hi : ∀ x ∈ L, Ty.I64 x) (hl : L.length ≤ 140737488355328) :
 Calls Tryz.prog 144 #[u] w fun e w' => e = .returned (Ig.bestV L) ∧ Below w.heap.size w w' := by
 have hG := hw.two
 by_cases hln : 65536 < L.length
 ·have c0 := Ig.with_c u L 0 w hw hL hi hl
  rw [Ig.withV_long (by omega) hln] at c0
  rw [Ig.bestV_long hln]
  clear hln hi hl
  obtain ⟨a, c, rfl, hc, _, h⟩ := hL
  clear h
  go_enter Tryz.func144, Tryz.ntmps144
  go_wp2_with fail
  refine c0.mono ?_
  rintro e w1 ⟨rfl, hb1⟩
  go_wp2
  go_ret2
  exact ⟨rfl, hb1⟩
 ·rw [Ig.bestV_good hln]
  have cw : Hid (∀ k : Nat, k ≤ 3 → ∀ wz, Below w.heap.size w wz → Calls Tryz.prog 155 #[u, .int .i64 (k : Int)] wz fun e w' => e = .returned (.tuple #[.string (Ty.S (Ig.enc k L)), .int .i64 0]) ∧ Below w.heap.size w w') := Lib.hid fun k hk wz hb => by
   have := Ig.with_c u L (k : Int) wz (hw.below hb hG) (hL.below hb).bufs hi hl
   rw [Ig.withV_good hk hln] at this
   exact this.mono fun e w' ⟨he, hg⟩ => ⟨he, hb.trans (hg.mono hb.size)⟩
  have c0 := cw.out 0 (by decide) w (Below.refl _ _)
  obtain ⟨a, c, rfl, hc, _, h⟩ := hL
  clear h hi hl hln
  have e0 : ((0 : Nat) : Int) = 0 := rfl
  rw [e0] at c0
  clear e0
  go_enter Tryz.func144, Tryz.ntmps144
  go_wp2_with fail
  refine c0.mono ?_
  rintro e w1 ⟨rfl, hb1⟩
  clear c0
  go_wp2
  go_loopw [4, 6] (fun s i wr => ∃ k : Nat, 1 ≤ k ∧ k ≤ 4 ∧ i = .int .i64 k ∧ s = .string (Ty.S (Ig.enc (Ig.bk L (k - 1)) L)) ∧ Below w.heap.size w wr) (fun _ i _ => 4 - (intOf i).toNat)
  case atStart => exact ⟨1, by omega, by omega, rfl, rfl, hb1⟩
  case round =>
   obtain ⟨k, hk1, hk, rfl, rfl, hb⟩ := hrel
   clear hb1
   have hs := hb.size
   by_cases hk4 : k < 4
   ·have hki : (k : Int) < 4 := by omega
    have hk0 : (0 : Int) ≤ (k : Int) := by omega
    have HBK : Hid (Ig.bk L k = if (Ig.enc k L).length < (Ig.enc (Ig.bk L (k - 1)) L).length then k else Ig.bk L (k - 1)) := Lib.hid (by
     obtain ⟨j, rfl⟩ : ∃ j, k = j + 1 := ⟨k - 1, by omega⟩
     rfl)
    obtain ⟨s0, es0⟩ : ∃ s0, s0 = Ty.S (Ig.enc (Ig.bk L (k - 1)) L) := ⟨_, rfl⟩
    obtain ⟨s1, es1⟩ : ∃ s1, s1 = Ty.S (Ig.enc k L) := ⟨_, rfl⟩
    have HN : Hid (s1.size < s0.size → Ty.S (Ig.enc (Ig.bk L k) L) = s1) := Lib.hid (fun h => by
     rw [es0, es1, Ty.size_S, Ty.size_S] at h
     rw [es1, HBK.out, if_pos h])
    have HM : Hid (¬ s1.size < s0.size → Ty.S (Ig.enc (Ig.bk L k) L) = s0) := Lib.hid (fun h => by
     rw [es0, es1, Ty.size_S, Ty.size_S] at h
     rw [es0, HBK.out, if_neg h])
    have c1 := cw.out k (by omega)
    rw [← es1] at c1
    rw [← es0]
    have HC := Lib.hid c1
    clear c1 es0 es1
    by_cases hlt : (s1.size : Int) < (s0.size : Int)
    all_goals
     go_wp2_with fail
     refine (Ig.coders_c _).mono ?_
     rintro e w2 ⟨rfl, hw2⟩
     have hb2 : Below w.heap.size w w2 := by rw [hw2]; exact hb.alloc hs _
     clear hw2
     have c2 := HC.out _ hb2
     go_wp2_with fail
     refine c2.mono ?_
     rintro e w3 ⟨rfl, hb3⟩
     clear c2
     go_wp2
     go_roundw
     case rel => exact ⟨k + 1, by omega, by omega, by simp, by first | rw [show k + 1 - 1 = k by omega, HN.out (by omega)] | rw [show k + 1 - 1 = k by omega, HM.out (by omega)], hb3⟩
     case measure => simp [intOf]; omega
   ·obtain rfl : k = 4 := by omega
    go_wp2_with fail
    refine (Ig.coders_c _).mono ?_
    rintro e w2 ⟨rfl, hw2⟩
    have hb2 : Below w.heap.size w w2 := by rw [hw2]; exact hb.alloc hs _
    clear hw2
    go_wp2
    go_ret2
    exact ⟨rfl, hb2⟩
end Go.Proofs.YtbelkhkllneifaaGreatDoor

namespace Go.Proofs.YtbelkhkllneifaaGreatDoor
open Go.RowKit
def Tx.sv (L : List Tx.Str) (i : Nat) : Value := .string (Ty.S (L.getD i []))
structure Tx.At (B : Nat) (w : World) (v : Value) (L : List Tx.Str) : Prop where
 is : ∃ a c, v = .slice a L.length c ∧ L.length ≤ c ∧ B ≤ w.heap.size ∧ ((L = [] ∧ (a = none → c = 0)) ∨ ∃ b o, a = some ⟨b, o, none⟩ ∧ b < B ∧ ∀ i, i < L.length → w.cell? ⟨b, o + i, none⟩ = some (Tx.sv L i))
theorem Tx.At.below {B : Nat} {w w' : World} {v : Value} {L : List Tx.Str} (h : Tx.At B w v L) (g : Below B w w') : Tx.At B w' v L := by
 obtain ⟨a, c, rfl, hc, hB, h⟩ := h
 refine ⟨a, c, rfl, hc, Nat.le_trans hB g.size, ?_⟩
 rcases h with h | ⟨b, o, rfl, hlt, h⟩
 ·exact .inl h
 ·exact .inr ⟨b, o, rfl, hlt, fun i hi => (g.cell (p := ⟨b, o + i, none⟩) hlt).trans (h i hi)⟩
theorem Tx.At.mono {B B' : Nat} {w : World} {v : Value} {L : List Tx.Str} (h : Tx.At B w v L) (h1 : B ≤ B') (h2 : B' ≤ w.heap.size) : Tx.At B' w v L := by
 obtain ⟨a, c, rfl, hc, hB, h⟩ := h
 refine ⟨a, c, rfl, hc, h2, ?_⟩
 rcases h with h | ⟨b, o, rfl, hlt, h⟩
 ·exact .inl h
 ·exact .inr ⟨b, o, rfl, by omega, h⟩
theorem Tx.At.nil (w : World) : Tx.At w.heap.size w (.slice none 0 0) [] := ⟨_, _, rfl, Nat.le_refl _, Nat.le_refl _, .inl ⟨rfl, fun _ => rfl⟩⟩
theorem Tx.S_size (t : Tx.Str) : (Ty.S t).size = t.length := rfl
theorem Tx.S_toList (t : Tx.Str) : (Ty.S t).toList = t := by
 rw [ByteArray.toList_eq]
 rfl
theorem Tx.S_yes (a : Tx.Str) : ((Ty.S a).toList == (Ty.S a).toList) = true := by rw [beq_iff_eq]
theorem Tx.S_no {a b : Tx.Str} (h : a ≠ b) : ((Ty.S a).toList == (Ty.S b).toList) = false := by
 rw [beq_eq_false_iff_ne, Tx.S_toList, Tx.S_toList]
 exact h
theorem Tx.cmp_lt (a b : Tx.Str) : decide (Kn.cmp ⟨false, 0, Ty.S a⟩ ⟨false, 0, Ty.S b⟩ < 0) = Tx.lt a b := by
 rw [Kn.ahead_is]
 simp only [Bool.false_eq_true, if_false, bne_self_eq_false]
 rw [Tx.S_toList, Tx.S_toList]
 rfl
set_option maxRecDepth 100000 in
set_option maxHeartbeats 1000000 in
theorem Tx.rahead_c (a b : Tx.Str) (ha : a.length ≤ 140737488351232) (hb : b.length ≤ 140737488351232) (w : World) :
 Calls Tryz.prog 188 #[.string (Ty.S a), .string (Ty.S b)] w fun e w' => e = .returned (.bool (Tx.lt a b)) ∧ Below w.heap.size w w' := by
 have ca := Kn.rAhead_c ⟨false, 0, Ty.S a⟩ ⟨false, 0, Ty.S b⟩ ha hb
 rw [Tx.cmp_lt] at ca
 unfold Kn.V.val at ca
 generalize Tx.lt a b = x at ca ⊢
 generalize Ty.S a = sa at ca ⊢
 generalize Ty.S b = sb at ca ⊢
 clear ha hb
 go_enter Tryz.func188, Tryz.ntmps188
 go_wp2_with fail
 refine (ca _).mono ?_
 rintro e w1 ⟨rfl, g1⟩
 go_wp2
 go_ret
 exact ⟨rfl, g1⟩
def Tx.posI (L : List Tx.Str) (t : Tx.Str) : Int := if t ∈ L then ((Tx.pos L t : Nat) : Int) else -1
theorem Tx.pos_le : ∀ (L : List Tx.Str) (t : Tx.Str) (k : Nat) (hk : k < L.length), L[k] = t → Tx.pos L t ≤ k
 | [], _, k, hk, _ => by simp at hk
 | a :: L, t, 0, _, e => by
   obtain rfl : a = t := e
   simp [Tx.pos]
 | a :: L, t, k + 1, hk, e => by
   have ih := Tx.pos_le L t k (by simpa using hk) (by simpa using e)
   unfold Tx.pos at ih ⊢
   rw [List.idxOf_cons]
   cases (a == t)
   ·simpa using ih
   ·simp
theorem Tx.posI_here {L : List Tx.Str} {t : Tx.Str} {k : Nat} (hk : k < L.length) (h : ∀ j, j < k → L.getD j [] ≠ t) (e : L.getD k [] = t) : Tx.posI L t = (k : Int) := by
 have hg : L[k] = t := by rw [← e, List.getD, List.getElem?_eq_getElem hk]; rfl
 have hm : t ∈ L := hg ▸ List.getElem_mem hk
 unfold Tx.posI
 rw [if_pos hm]
 have h1 := Tx.pos_get hm
 have h2 := Tx.pos_lt hm
 have h3 : ¬ Tx.pos L t < k := fun hc => h _ hc (by rw [List.getD, h1]; rfl)
 have h4 := Tx.pos_le L t k hk hg
 omega
theorem Tx.posI_none {L : List Tx.Str} {t : Tx.Str} (h : ∀ j, j < L.length → L.getD j [] ≠ t) : Tx.posI L t = -1 := by
 unfold Tx.posI
 rw [if_neg]
 intro hm
 obtain ⟨j, hj, e⟩ := List.getElem_of_mem hm
 exact h j hj (by rw [List.getD, List.getElem?_eq_getElem hj]; exact e)
set_option maxRecDepth 100000 in
set_option maxHeartbeats 1000000 in
theorem Tx.rat_c (v : Value) (L : List Tx.Str) (t : Tx.Str) (w : World) (hv : Tx.At w.heap.size w v L) (hn : L.length ≤ 140737488355328) :
 Calls Tryz.prog 161 #[v, .string (Ty.S t)] w fun e w' => e = .returned (.int .i64 (Tx.posI L t)) ∧ Below w.heap.size w w' := by
 obtain ⟨a, c, rfl, _, _, h⟩ := hv
 have HH := Lib.hid h
 obtain ⟨n, hnn⟩ : ∃ n, n = L.length := ⟨_, rfl⟩
 rw [← hnn] at hn ⊢
 have HN := Lib.hid hnn
 clear h hnn
 go_enter Tryz.func161, Tryz.ntmps161
 go_wp2
 go_loopw [5] (fun i wr => ∃ k : Nat, k ≤ n ∧ i = .int .i64 k ∧ (∀ j, j < k → L.getD j [] ≠ t) ∧ Below w.heap.size w wr) (fun i _ => n - (intOf i).toNat)
 case atStart => exact ⟨0, by omega, rfl, fun j hj => by omega, Below.refl _ _⟩
 case round =>
  obtain ⟨k, hk, rfl, hp, hb⟩ := hrel
  have HB := Lib.hid hb
  have HP := Lib.hid hp
  clear hp
  by_cases hl : k < n
  ·rcases HH.out with h | ⟨b, o, rfl, hlt, h⟩
   ·exact absurd hl (by rw [HN.out, h.1]; simp)
   ·have hc := (hb.cell (p := ⟨b, o + k, none⟩) hlt).trans (h k (by rw [← HN.out]; exact hl))
    unfold Tx.sv at hc
    have dk : (k : Int) < (n : Int) := by omega
    have dk0 : (0 : Int) ≤ (k : Int) := by omega
    have dk2 : (k : Int) < 140737488355328 := by omega
    have HNN := Lib.hid hn
    by_cases he : L.getD k [] = t
    ·have HE := Lib.hid (Tx.posI_here (by rw [← HN.out]; exact hl) HP.out he)
     have hx := Tx.S_yes t
     rw [he] at hc
     generalize Ty.S t = s at hc hx ⊢
     clear h hn hb he
     go_wp2
     go_ret
     exact ⟨congrArg (fun x : Int => Ending.returned (.int .i64 x)) HE.out.symm, HB.out⟩
    ·have HE := Lib.hid he
     have hx := Tx.S_no he
     generalize Ty.S t = s at hc hx ⊢
     generalize Ty.S (L.getD k []) = s2 at hc hx ⊢
     clear h hn hb he
     go_wp2
     go_roundw
     case rel => exact ⟨k + 1, by omega, by simp, (fun j hj => by
      by_cases e : j = k
      ·rw [e]; exact HE.out
      ·exact HP.out j (by omega)), HB.out⟩
     case measure => simp [intOf]; omega
  ·obtain rfl : k = n := by omega
   have dk : ¬ (k : Int) < (k : Int) := by omega
   have HE := Lib.hid (Tx.posI_none (L := L) (t := t) (fun j hj => HP.out j (by rw [HN.out]; exact hj)))
   clear hb
   go_wp2
   go_ret
   exact ⟨congrArg (fun x : Int => Ending.returned (.int .i64 x)) HE.out.symm, HB.out⟩
end Go.Proofs.YtbelkhkllneifaaGreatDoor

namespace Go.Proofs.YtbelkhkllneifaaGreatDoor
open Go.RowKit
theorem Tx.infoS : (Tryz.prog.info? 9).map (fun i => (i.zero, i.size, i.bytes)) = some (some (.string ⟨#[]⟩), 1, 16) := by kernel_rfl
theorem Ig.below_reg {w w' : World} (h : ∃ p : Regrown, w' = Sort.grow (redrawn w p.d) p.os) : Below w.heap.size w w' := by
 obtain ⟨p, rfl⟩ := h
 exact below_regrown w p.d p.os
def Tx.Own (base : Nat) (w : World) (v : Value) (L : List Tx.Str) : Prop := Bt.Buf 9 base w v L.length (Tx.sv L)
theorem Tx.Own.nil (base : Nat) (w : World) : Tx.Own base w (.slice none 0 0) [] := Bt.Buf.nil _ _ _ _
theorem Tx.sv_left (M R : List Tx.Str) {i : Nat} (h : i < M.length) : Tx.sv (M ++ R) i = Tx.sv M i := by
 unfold Tx.sv
 rw [List.getD, List.getD, List.getElem?_append_left h]
theorem Tx.sv_right (M R : List Tx.Str) (i : Nat) : Tx.sv (M ++ R) (M.length + i) = Tx.sv R i := by
 unfold Tx.sv
 have e : M.length + i - M.length = i := by omega
 rw [List.getD, List.getD, List.getElem?_append_right (by omega), e]
theorem Tx.sv_drop (M : List Tx.Str) (k i : Nat) : Tx.sv (M.drop k) i = Tx.sv M (k + i) := by
 unfold Tx.sv
 rw [List.getD, List.getD, List.getElem?_drop]
theorem Tx.sv_take (M : List Tx.Str) {k i : Nat} (h : i < k) : Tx.sv (M.take k) i = Tx.sv M i := by
 unfold Tx.sv
 rw [List.getD, List.getD, List.getElem?_take, if_pos h]
theorem Tx.Own.pre {base : Nat} {w : World} {v : Value} {M : List Tx.Str} (h : Tx.Own base w v M) (x : Tx.Str) : Bt.Buf 9 base w v M.length (Tx.sv (M ++ [x])) :=
 Bt.Buf.congr h fun i hi => by rw [Tx.sv_left M [x] hi]
theorem Tx.Own.post {base : Nat} {w : World} {v : Value} {M : List Tx.Str} {x : Tx.Str} (h : Bt.Buf 9 base w v (M.length + 1) (Tx.sv (M ++ [x]))) : Tx.Own base w v (M ++ [x]) := by
 unfold Tx.Own
 rw [List.length_append, List.length_singleton]
 exact h
theorem Tx.sv_snoc (M : List Tx.Str) (x : Tx.Str) : Value.string (Ty.S x) = Tx.sv (M ++ [x]) M.length := by
 have := Tx.sv_right M [x] 0
 rw [Nat.add_zero] at this
 rw [this]
 rfl
theorem Tx.Own.at {base : Nat} {w : World} {v : Value} {L : List Tx.Str} (h : Tx.Own base w v L) : Tx.At w.heap.size w v L := by
 have hs := Bt.Buf.sl h
 obtain ⟨a, c, rfl, h1⟩ := hs
 have hc : L.length ≤ c ∧ (a = none → c = 0) := by
  rcases h.2 with ⟨e, e0⟩ | ⟨g, cap, cur, e, _, _, hcap, _⟩
  ·simp only [Value.slice.injEq] at e
   exact ⟨by omega, fun _ => by omega⟩
  ·simp only [Value.slice.injEq] at e
   exact ⟨by omega, fun e2 => by rw [e2] at e; exact absurd e.1 (by simp)⟩
 refine ⟨a, c, rfl, hc.1, Nat.le_refl _, ?_⟩
 rcases h1 with h1 | h1
 ·exact .inl ⟨List.eq_nil_of_length_eq_zero h1, hc.2⟩
 ·exact .inr h1
def Tx.Src (w : World) (u : Value) (K : List Tx.Str) : Prop := (u = .slice none 0 0 ∧ K = []) ∨ ∃ ad c, u = .slice (some ad) K.length c ∧ ∀ i, i < K.length → w.cell? (ad.add i) = some (Tx.sv K i)
theorem Tx.addr_add (b o i : Nat) : (⟨b, o, none⟩ : Addr).add i = ⟨b, o + i, none⟩ := by unfold Addr.add; split <;> simp_all
theorem Tx.Own.form {base : Nat} {w : World} {v : Value} {L : List Tx.Str} (h : Tx.Own base w v L) : (v = .slice none 0 0 ∧ L = []) ∨ ∃ g c, v = .slice (some ⟨g, 0, none⟩) L.length c ∧ L.length ≤ c ∧ g < w.heap.size ∧ ∀ i, i < L.length → w.cell? ⟨g, i, none⟩ = some (Tx.sv L i) := by
 rcases h.2 with ⟨e, e0⟩ | ⟨g, cap, cur, e, _, hgg, hcap, _⟩
 ·exact .inl ⟨e, List.eq_nil_of_length_eq_zero e0⟩
 ·refine .inr ⟨g, cap, e, hcap, (Array.getElem?_eq_some_iff.1 hgg).1, fun i hi => ?_⟩
  have := h.cells (g := g) (by rw [e]; rfl) i (Tx.sv L i) (by simp [hi])
  rwa [Tx.addr_add, Nat.zero_add] at this
set_option maxRecDepth 100000 in
theorem Tx.append_more {base : Nat} {w0 : World} {v : Value} {M K : List Tx.Str} (hown : Tx.Own base w0 v M) (hb : base ≤ w0.heap.size) (hl : (M.length + K.length) * 16 ≤ 140737488355328) {u : Value} (hu : Tx.Src w0 u K) (ty : TypeId) :
 ∃ v' w', (Builtin.append_ #[111, 111] ty #[v, u]).run Tryz.prog w0 = .ok v' w' ∧ Tx.Own base w' v' (M ++ K) ∧ Ty.Grew w0 w' v v' := by
 obtain ⟨i0, hi, hz0, hz1, hz2⟩ := info_parts Tx.infoS
 rcases hu with ⟨rfl, rfl⟩ | ⟨ad, c, rfl, hK⟩
 ·exact ⟨v, w0, run_append_owned_none (P := Tryz.prog) w0 base 111 ty 9 i0 1 Tryz.underlying111 hi v _ _ hown, by rw [List.append_nil]; exact hown, Ty.Grew.refl _ _⟩
 ·obtain ⟨v', w', hr, h1, h2⟩ := Ty.append_tight (P := Tryz.prog) w0 base 111 ty 9 i0 _ 1 16 Tryz.underlying111 hi hz0 hz1 hz2 rfl (by decide) v M.length ((List.range M.length).map (Tx.sv M)) hown ad K.length c ((List.range K.length).map (Tx.sv K)) (by simp) (fun j u hj => by
   have hjl : j < K.length := by
    rcases Nat.lt_or_ge j K.length with h3 | h3
    ·exact h3
    ·rw [List.getElem?_eq_none (by simpa using h3)] at hj
     cases hj
   have e : u = Tx.sv K j := by
    rw [List.getElem?_map, List.getElem?_range hjl] at hj
    exact (Option.some.inj hj).symm
   rw [e]
   exact hK j hjl) (fun u hu => by
   obtain ⟨i, _, rfl⟩ := List.mem_map.1 hu
   rfl) (by unfold maxLen; omega) hl hb
  refine ⟨v', w', hr, ?_, h2⟩
  unfold Tx.Own Bt.Buf
  rw [List.length_append]
  have e : (List.range (M.length + K.length)).map (Tx.sv (M ++ K)) = (List.range M.length).map (Tx.sv M) ++ (List.range K.length).map (Tx.sv K) := by
   rw [List.range_add, List.map_append, List.map_map]
   congr 1
   ·exact List.map_congr_left fun i hi => Tx.sv_left M K (List.mem_range.1 hi)
   ·exact List.map_congr_left fun i _ => Tx.sv_right M K i
  rw [e]
  exact h1
theorem Tx.grew_below {wo w w' : World} {v v' : Value} {L : List Tx.Str} (hb : Below wo.heap.size wo w) (ho : Tx.Own wo.heap.size w v L) (g : Ty.Grew w w' v v') : Below wo.heap.size wo w' :=
 hb.trans (g.below hb.size (Bt.Buf.base_le ho))
theorem Tx.cell_kept {w w' : World} {v' : Value} (g : Ty.Grew w w' (.slice none 0 0) v') {a : Addr} {x : Value} (h : w.cell? a = some x) : w'.cell? a = some x := by
 have hb : Below w.heap.size w w' := g.below (Nat.le_refl _) (fun k hk => by cases hk)
 exact (hb.cell (World.block_lt_of_cell? w _ h)).trans h
theorem Tx.step_append_more {wo w0 : World} {v : Value} {M K : List Tx.Str} (hbW : Below wo.heap.size wo w0) (hown : Tx.Own wo.heap.size w0 v M) (hl : (M.length + K.length) * 16 ≤ 140737488355328)
 {ops : Array Oper} {o : Oper} {a : Act} {Kx : Act → World → Prop} {Q : Exit → Act → World → Prop} {E : Prop} (s x : Operand) (u : Value) (hgd : o.guard = none)
 (ho : o.op = .call { callee := .builtin .append, args := #[s, x], argTypes := #[111, 111] })
 (hs : a.eval s = v) (hx : a.eval x = u) (hu : Tx.Src w0 u K)
 (h : ∀ v' w', Tx.Own wo.heap.size w' v' (M ++ K) → Below wo.heap.size wo w' → Ty.Grew w0 w' v v' → Kx (a.put o.dst v') w') :
 if Region.wanted o (yielded ops a.tmps) = true then Oper.wp Tryz.prog o a w0 Kx Q else E := by
 have hw : Region.wanted o (yielded ops a.tmps) = true := by simp [Region.wanted, hgd]
 rw [if_pos hw]
 obtain ⟨v', w', hr, h2, h3⟩ := Tx.append_more hown hbW.size hl hu o.type
 unfold Oper.wp execOp
 simp only [ho, resolve, invoke, builtin, Sem.run_bind, Sem.run_pure, Result.andThen_ok, List.map_toArray, List.map_cons, List.map_nil, hs, hx, hr]
 exact h v' w' h2 (Tx.grew_below hbW hown h3) h3
theorem Tx.src_take {w W : World} {D : List Tx.Str} {b q : Nat} (hlt : b < w.heap.size) (hc : ∀ i, i < D.length → w.cell? ⟨b, i, none⟩ = some (Tx.sv D i)) (g : Below w.heap.size w W) (hq : q ≤ D.length) (c : Nat) : Tx.Src W (.slice (some ⟨b, 0, none⟩) q c) (D.take q) := by
 have hl : (D.take q).length = q := by rw [List.length_take]; omega
 refine .inr ⟨⟨b, 0, none⟩, c, by rw [hl], fun i hi => ?_⟩
 rw [hl] at hi
 rw [Tx.addr_add, Nat.zero_add, Tx.sv_take D hi]
 exact (g.cell (p := ⟨b, i, none⟩) hlt).trans (hc i (by omega))
theorem Tx.src_drop {w W : World} {D : List Tx.Str} {b q : Nat} (hlt : b < w.heap.size) (hc : ∀ i, i < D.length → w.cell? ⟨b, i, none⟩ = some (Tx.sv D i)) (g : Below w.heap.size w W) (hq : q ≤ D.length) (c : Nat) : Tx.Src W (.slice (some ⟨b, q, none⟩) (D.length - q) c) (D.drop q) := by
 have hl : (D.drop q).length = D.length - q := by rw [List.length_drop]
 refine .inr ⟨⟨b, q, none⟩, c, by rw [hl], fun i hi => ?_⟩
 rw [hl] at hi
 rw [Tx.addr_add, Tx.sv_drop]
 exact (g.cell (p := ⟨b, q + i, none⟩) hlt).trans (hc (q + i) (by omega))
theorem Tx.src_one {w : World} {b : Nat} {t : Tx.Str} (h : w.cell? ⟨b, 0, none⟩ = some (.string (Ty.S t))) (c : Nat) : Tx.Src w (.slice (some ⟨b, 0, none⟩) 1 c) [t] := by
 refine .inr ⟨⟨b, 0, none⟩, c, rfl, fun i hi => ?_⟩
 obtain rfl : i = 0 := by simpa using hi
 rw [Tx.addr_add]
 exact h
theorem Tx.Own.mono {B B' : Nat} {w : World} {v : Value} {L : List Tx.Str} (h : Tx.Own B w v L) (hB : B' ≤ B) : Tx.Own B' w v L := by
 refine ⟨h.1, ?_⟩
 rcases h.2 with hn | ⟨b, cap, cur, rfl, hbb, rest⟩
 ·exact .inl hn
 ·exact .inr ⟨b, cap, cur, rfl, by omega, rest⟩
theorem Tx.ins_at (t : Tx.Str) : ∀ (d : List Tx.Str) (k : Nat), t ∉ d → k ≤ d.length → (∀ i, i < k → Tx.lt (d.getD i []) t = true) → (k < d.length → Tx.lt (d.getD k []) t = false) → Tx.ins t d = d.take k ++ t :: d.drop k
 | [], k, _, hk, _, _ => by
   obtain rfl : k = 0 := by simpa using hk
   rfl
 | a :: d, 0, hm, _, _, h0 => by
   have h1 : a ≠ t := fun e => hm (by rw [e]; simp)
   have h2 : Tx.lt a t = false := h0 (by simp)
   unfold Tx.ins
   rw [if_neg h1, h2]
   rfl
 | a :: d, k + 1, hm, hk, hb, h0 => by
   have h1 : a ≠ t := fun e => hm (by rw [e]; simp)
   have h2 : Tx.lt a t = true := hb 0 (by omega)
   unfold Tx.ins
   rw [if_neg h1, if_pos h2, Tx.ins_at t d k (fun h => hm (by simp [h])) (by simpa using hk) (fun i hi => hb (i + 1) (by omega)) (fun h => h0 (by simpa using h))]
   rfl
theorem Tx.ins_in (t : Tx.Str) : ∀ (d : List Tx.Str) (p : Option Tx.Str), Tx.Asc p d → t ∈ d → Tx.ins t d = d
 | [], _, _, h => by cases h
 | a :: d, p, ha, h => by
   unfold Tx.ins
   by_cases h1 : a = t
   ·rw [if_pos h1]
   ·have hm : t ∈ d := by
     rcases List.mem_cons.1 h with e | e
     ·exact absurd e.symm h1
     ·exact e
    have h2 := Tx.asc_all d (some a) ha.2 a rfl t hm
    rw [if_neg h1, if_pos h2, Tx.ins_in t d (some a) ha.2 hm]
theorem Tx.dict_step (L : List Tx.Str) (k : Nat) (h : k < L.length) : Tx.dict (L.take (k + 1)) = Tx.ins (L.getD k []) (Tx.dict (L.take k)) := by
 unfold Tx.dict
 rw [List.take_succ_eq_append_getElem h, List.foldl_append, List.getD, List.getElem?_eq_getElem h]
 rfl
set_option maxHeartbeats 2000000 in
set_option maxRecDepth 100000 in
theorem Tx.rdict_c (v : Value) (L : List Tx.Str) (w : World) (hv : Tx.At w.heap.size w v L) (hn : L.length ≤ 65536) (h64 : ∀ t ∈ L, t.length ≤ 64) :
 Calls Tryz.prog 160 #[v] w fun e w' => ∃ u, e = .returned u ∧ Tx.Own w.heap.size w' u (Tx.dict L) ∧ Below w.heap.size w w' := by
 obtain ⟨a, c, rfl, _, _, h⟩ := hv
 have HH := Lib.hid h
 obtain ⟨n, hnn⟩ : ∃ n, n = L.length := ⟨_, rfl⟩
 rw [← hnn] at hn ⊢
 have HN := Lib.hid hnn
 have H64 := Lib.hid h64
 clear h hnn h64
 go_enter Tryz.func160, Tryz.ntmps160
 go_wp2
 go_loopw [3, 4] (fun u i wr => ∃ k : Nat, k ≤ n ∧ i = .int .i64 k ∧ Tx.Own w.heap.size wr u (Tx.dict (L.take k)) ∧ Below w.heap.size w wr) (fun _ i _ => n - (intOf i).toNat)
 case atStart => exact ⟨0, by omega, rfl, Tx.Own.nil _ _, Below.refl _ _⟩
 case round =>
  obtain ⟨k, hk, rfl, hO, hb⟩ := hrel
  have HB := Lib.hid hb
  have HO := Lib.hid hO
  clear hO
  by_cases hl : k < n
  ·rcases HH.out with h | ⟨b, o, rfl, hlt, h⟩
   ·exact absurd hl (by rw [HN.out, h.1]; simp)
   ·have hc := (hb.cell (p := ⟨b, o + k, none⟩) hlt).trans (h k (by rw [← HN.out]; exact hl))
    unfold Tx.sv at hc
    have dk : (k : Int) < (n : Int) := by omega
    have dk0 : (0 : Int) ≤ (k : Int) := by omega
    have dk2 : (k : Int) < 140737488355328 := by omega
    have HNN := Lib.hid hn
    have HS := Lib.hid (Tx.dict_step L k (by rw [← HN.out]; exact hl))
    have HT : Hid ((L.getD k []).length ≤ 64) := Lib.hid (H64.out _ (by rw [List.getD, List.getElem?_eq_getElem (by rw [← HN.out]; exact hl)]; exact List.getElem_mem _))
    have HA := Lib.hid (Tx.dict_asc (L.take k))
    have HD64 : Hid (∀ x ∈ Tx.dict (L.take k), x.length ≤ 64) := Lib.hid fun x hx => H64.out x (List.mem_of_mem_take ((Tx.dict_mem _ x).1 hx))
    have hDl : (Tx.dict (L.take k)).length ≤ k := Nat.le_trans (Tx.dict_len _) (List.length_take_le _ _)
    obtain ⟨t, ht⟩ : ∃ t, t = L.getD k [] := ⟨_, rfl⟩
    obtain ⟨D, hD⟩ : ∃ D, D = Tx.dict (L.take k) := ⟨_, rfl⟩
    rw [← ht] at hc HS HT
    rw [← hD] at HO HS HA hDl HD64
    have hat := HO.out.at
    have ca := Tx.rat_c u3 D t wr hat (by omega)
    have HAT := Lib.hid hat
    clear h hb hn ht hD hat
    by_cases hm : t ∈ D
    ·have hp : Tx.posI D t = ((Tx.pos D t : Nat) : Int) := by unfold Tx.posI; rw [if_pos hm]
     rw [hp] at ca
     generalize Tx.pos D t = q at ca hp
     have hq : (0 : Int) ≤ (q : Int) := by omega
     have HS2 : Hid (Tx.dict (L.take (k + 1)) = D) := Lib.hid (by rw [HS.out]; exact Tx.ins_in t D none HA.out hm)
     generalize Ty.S t = ts at hc ca
     clear hm hp
     go_wp2_with fail
     refine ca.mono ?_
     rintro e w1 ⟨rfl, g1⟩
     go_wp2
     go_roundw
     case rel => exact ⟨k + 1, by omega, by simp, by rw [HS2.out]; exact Bt.Buf.kept HO.out g1, HB.out.trans (g1.mono HB.out.size)⟩
     case measure => simp [intOf]; omega
    ·have hp : Tx.posI D t = -1 := by unfold Tx.posI; rw [if_neg hm]
     rw [hp] at ca
     have HM := Lib.hid hm
     obtain ⟨ts, hts⟩ : ∃ ts, ts = Ty.S t := ⟨_, rfl⟩
     rw [← hts] at hc ca
     have HTS := Lib.hid hts
     clear hm hp hts
     have hform := HO.out.form
     have HCL := Lib.hid hform
     rcases hform with ⟨rfl, hD0⟩ | ⟨b2, c2, rfl, hcap, hlt2, hcl⟩
     ·subst hD0
      have HIN := Lib.hid (Tx.ins_at t [] 0 HM.out (by simp) (fun i hi => by omega) fun h => by simp at h)
      go_wp2_with fail
      refine ca.mono ?_
      rintro e w1 ⟨rfl, g1⟩
      have G1 := Lib.hid g1
      clear g1 ca
      generalize wr = wo at *
      go_wp2_with fail
      go_loopw [5] (fun j wi => j = .int .i64 0 ∧ Below wo.heap.size wo wi) (fun _ _ => 0)
      case atStart => exact ⟨rfl, G1.out⟩
      case round =>
       obtain ⟨rfl, hbi⟩ := hrel
       have HBI := Lib.hid hbi
       clear hbi
       go_wp2_with fail
       go_quiet (fail)
       go_wp2_with fail
       generalize hwq : wr.drewN _ = wq
       have HB2 : Hid (Below wo.heap.size wo wq) := Lib.hid (by rw [← hwq]; exact HBI.out.trans ((Bt.drewN_below wr _).mono HBI.out.size))
       clear hwq
       have HC0 := Lib.hid hc
       have hcz := HB2.out.cell (p := ⟨b, o + k, none⟩) (World.block_lt_of_cell? wo _ hc)
       rw [hc] at hcz
       have HSA : Hid (∀ W, Below wo.heap.size wo W → Tx.Src W (.slice none 0 0) []) := Lib.hid fun W g => .inl ⟨rfl, rfl⟩
       clear hc
       have HZ : Hid (∀ W, Below wo.heap.size wo W → W.cell? ⟨b, o + k, none⟩ = some (.string ts)) := Lib.hid fun W g => (g.cell (p := ⟨b, o + k, none⟩) (World.block_lt_of_cell? wo _ HC0.out)).trans HC0.out
       have HONE : Hid (∀ W B, W.cell? ⟨B, 0, none⟩ = some (.string ts) → Tx.Src W (.slice (some ⟨B, 0, none⟩) 1 1) [t]) := Lib.hid fun W B h => Tx.src_one (by rw [← HTS.out]; exact h) 1
       have HDQ2 : Hid ([] ++ [] ++ [t] ++ [] = List.take 0 [] ++ t :: List.drop 0 []) := Lib.hid rfl
       have HD0 : Hid (Below wo.heap.size wo wq.drew) := Lib.hid HB2.out.drew
       have HNM : Hid (([] : List Tx.Str).length ≤ 65536) := Lib.hid (by simp)
       go_wp2_with fail
       go_region_held3 (fun wx => wx.cell? ⟨b, o + k, none⟩ = some (.string ts))
        (first
         | exact HZ.out _ HD0.out
         | exact HZ.out _ (HD0.out.alloc HD0.out.size _)
         | exact HZ.out _ b4
         | exact HZ.out _ b3
         | exact HZ.out _ b1
         | exact HZ.out _ (b1.alloc b1.size _))
        (first
         | (refine Tx.step_append_more (M := []) (K := []) HD0.out (Tx.Own.nil _ _) (by have := HNM.out; simp only [List.length_nil]; omega) _ _ _ (by rfl) (by rfl) (by rfl) (by rfl) (HSA.out _ HD0.out) ?_; intro v1 w1 o1 b1 g1)
         | (refine Tx.step_append_more (M := []) (K := []) (HD0.out.alloc HD0.out.size _) (Tx.Own.nil _ _) (by have := HNM.out; simp only [List.length_nil]; omega) _ _ _ (by rfl) (by rfl) (by rfl) (by rfl) (HSA.out _ (HD0.out.alloc HD0.out.size _)) ?_; intro v1 w1 o1 b1 g1)
         | (refine Tx.step_append_more (M := [] ++ []) (K := [t]) (b1.alloc b1.size _) (World.ownsRow.alloc o1 _) (by have := HNM.out; simp only [List.nil_append, List.length_singleton]; omega) _ _ _ (by rfl) (by rfl) (by rfl) (by rfl) (HONE.out _ _ (Kn.cell_new _ _ _ 0 _ rfl)) ?_; intro v3 w3 o3 b3 g3)
         | (refine Tx.step_append_more (M := [] ++ []) (K := [t]) b1 o1 (by have := HNM.out; simp only [List.nil_append, List.length_singleton]; omega) _ _ _ (by rfl) (by rfl) (by rfl) (by rfl) (HONE.out _ _ (Tx.cell_kept g1 (Kn.cell_new _ _ _ 0 _ rfl))) ?_; intro v3 w3 o3 b3 g3)
         | (refine Tx.step_append_more (M := [] ++ [] ++ [t]) (K := []) b3 o3 (by have := HNM.out; simp only [List.nil_append, List.length_singleton]; omega) _ _ _ (by rfl) (by rfl) (by rfl) (by rfl) (HSA.out _ b3) ?_; intro v4 w4 o4 b4 g4))
       all_goals
        have HB4 := Lib.hid (HB.out.trans (b4.mono HB.out.size))
        have HO4 := Lib.hid (Tx.Own.mono o4 HB.out.size)
        clear o1 o3 o4 g1 g3 g4 b1 b3 b4
        go_wp2
        go_roundw
        case rel => exact ⟨k + 1, by omega, by simp, by rw [HS.out, HIN.out]; exact HDQ2.out ▸ HO4.out, HB4.out⟩
        case measure => simp [intOf]; omega
     have HCLS := Lib.hid hcl
     clear hcl
     go_wp2_with fail
     refine ca.mono ?_
     rintro e w1 ⟨rfl, g1⟩
     have G1 := Lib.hid g1
     clear g1 ca
     generalize wr = wo at *
     go_wp2_with fail
     go_loopw [5] (fun j wi => ∃ q : Nat, q ≤ D.length ∧ j = .int .i64 q ∧ (∀ i, i < q → Tx.lt (D.getD i []) t = true) ∧ Below wo.heap.size wo wi) (fun j _ => D.length - (intOf j).toNat)
     case atStart => exact ⟨0, by omega, rfl, (fun i hi => by omega), G1.out⟩
     case round =>
      obtain ⟨q, hq, rfl, hlts, hbi⟩ := hrel
      have HLT := Lib.hid hlts
      have HBI := Lib.hid hbi
      clear hlts
      have dq0 : (0 : Int) ≤ (q : Int) := by omega
      have dq2 : (q : Int) < 140737488355328 := by omega
      by_cases hqd : q < D.length
      ·have hc2 := (hbi.cell (p := ⟨b2, q, none⟩) hlt2).trans (HCLS.out q hqd)
       have hc3 := hbi.cell (p := ⟨b, o + k, none⟩) (World.block_lt_of_cell? wo _ hc)
       rw [hc] at hc3
       unfold Tx.sv at hc2
       have dq : (q : Int) < (D.length : Int) := by omega
       have HDQ : Hid ((D.getD q []).length ≤ 140737488351232) := Lib.hid (by
        have := HD64.out (D.getD q []) (by rw [List.getD, List.getElem?_eq_getElem hqd]; exact List.getElem_mem _)
        omega)
       have CA : Hid (∀ p : Regrown, Calls Tryz.prog 188 #[.string (Ty.S (D.getD q [])), .string ts] (Sort.grow (redrawn wr p.d) p.os) fun e w'' => e = .returned (.bool (Tx.lt (D.getD q []) t)) ∧ ∃ p : Regrown, w'' = Sort.grow (redrawn wr p.d) p.os) := Lib.hid fun p => by
        rw [HTS.out]
        exact Calls.regrown_of (Tx.rahead_c _ _ HDQ.out (by have := HT.out; omega) _)
       have E0 := fun d os => cell_regrown hc2 d os
       have E1 := fun d os => cell_regrown hc3 d os
       generalize Ty.S (D.getD q []) = ds at CA E0 hc2
       have HQ := Lib.hid hqd
       cases hx : Tx.lt (D.getD q []) t
       ·rw [hx] at CA
        have HX := Lib.hid hx
        clear hx hbi
        go_wp2_with fail
        refine wp_region_quiet_below (by kernel_rfl) (by kernel_rfl) ?_
        repeat (go_big_quiet_step (first | with_reducible exact CA.out _))
        refine wpQuiet_nil ?_
        intro wq hw'
        have HB2 := Lib.hid (HBI.out.trans ((Ig.below_reg hw').mono HBI.out.size))
        have HIN := Lib.hid (Tx.ins_at t D q HM.out (by omega) HLT.out fun _ => HX.out)
        have HC0 := Lib.hid hc
        have hcz := HB2.out.cell (p := ⟨b, o + k, none⟩) (World.block_lt_of_cell? wo _ hc)
        rw [hc] at hcz
        have HSA : Hid (∀ W, Below wo.heap.size wo W → Tx.Src W (.slice (some ⟨b2, 0, none⟩) q c2) (D.take q)) := Lib.hid fun W g => Tx.src_take hlt2 HCLS.out g (by omega) c2
        obtain ⟨oz, hoz, HSC⟩ : ∃ oz, ((c2 = q ∧ oz = 0) ∨ (¬ c2 = q ∧ oz = q)) ∧ Hid (∀ W, Below wo.heap.size wo W → ∀ m c, m = D.length - q → Tx.Src W (.slice (some ⟨b2, oz, none⟩) m c) (D.drop q)) := by
         by_cases hcq : c2 = q
         ·refine ⟨0, .inl ⟨hcq, rfl⟩, Lib.hid fun W g m c hm => .inr ⟨⟨b2, 0, none⟩, c, by rw [List.length_drop, hm], fun i hi => ?_⟩⟩
          rw [List.length_drop] at hi
          omega
         ·exact ⟨q, .inr ⟨hcq, rfl⟩, Lib.hid fun W g m c hm => by rw [hm]; exact Tx.src_drop hlt2 HCLS.out g (by omega) c⟩
        have dq4 : (q : Int) ≤ (c2 : Int) := by omega
        have dq5 : (q : Int) ≤ (D.length : Int) := by omega
        have dq6 : (D.length : Int) ≤ (c2 : Int) := by omega
        clear hw' CA E0 E1 hc2 hc3 hc
        have HZ : Hid (∀ W, Below wo.heap.size wo W → W.cell? ⟨b, o + k, none⟩ = some (.string ts)) := Lib.hid fun W g => (g.cell (p := ⟨b, o + k, none⟩) (World.block_lt_of_cell? wo _ HC0.out)).trans HC0.out
        have HONE : Hid (∀ W B, W.cell? ⟨B, 0, none⟩ = some (.string ts) → Tx.Src W (.slice (some ⟨B, 0, none⟩) 1 1) [t]) := Lib.hid fun W B h => Tx.src_one (by rw [← HTS.out]; exact h) 1
        have HDQ2 : Hid ([] ++ D.take q ++ [t] ++ D.drop q = D.take q ++ t :: D.drop q) := Lib.hid (by simp)
        have HD0 : Hid (Below wo.heap.size wo wq.drew) := Lib.hid HB2.out.drew
        have HNM : Hid (D.length ≤ 65536 ∧ (D.take q).length ≤ 65536 ∧ (D.drop q).length ≤ 65536) := Lib.hid ⟨by have := HNN.out; omega, by rw [List.length_take]; have := HNN.out; omega, by rw [List.length_drop]; have := HNN.out; omega⟩
        generalize D.take q = K1 at HSA HNM HDQ2 HIN
        generalize D.drop q = K3 at HSC HNM HDQ2 HIN
        rcases hoz with ⟨rfl, rfl⟩ | ⟨hcq, rfl⟩
        all_goals
         go_wp2_with fail
         go_region_held3 (fun wx => wx.cell? ⟨b, o + k, none⟩ = some (.string ts))
          (first
           | exact HZ.out _ HD0.out
           | exact HZ.out _ (HD0.out.alloc HD0.out.size _)
           | exact HZ.out _ b4
           | exact HZ.out _ b3
           | exact HZ.out _ b1
           | exact HZ.out _ (b1.alloc b1.size _))
          (first
           | (refine Tx.step_append_more (M := []) (K := K1) HD0.out (Tx.Own.nil _ _) (by have := HNM.out; simp only [List.length_nil]; omega) _ _ _ (by rfl) (by rfl) (by rfl) (by rfl) (HSA.out _ HD0.out) ?_; intro v1 w1 o1 b1 g1)
           | (refine Tx.step_append_more (M := []) (K := K1) (HD0.out.alloc HD0.out.size _) (Tx.Own.nil _ _) (by have := HNM.out; simp only [List.length_nil]; omega) _ _ _ (by rfl) (by rfl) (by rfl) (by rfl) (HSA.out _ (HD0.out.alloc HD0.out.size _)) ?_; intro v1 w1 o1 b1 g1)
           | (refine Tx.step_append_more (M := [] ++ K1) (K := [t]) (b1.alloc b1.size _) (World.ownsRow.alloc o1 _) (by have := HNM.out; simp only [List.nil_append, List.length_singleton]; omega) _ _ _ (by rfl) (by rfl) (by rfl) (by rfl) (HONE.out _ _ (Kn.cell_new _ _ _ 0 _ rfl)) ?_; intro v3 w3 o3 b3 g3)
           | (refine Tx.step_append_more (M := [] ++ K1) (K := [t]) b1 o1 (by have := HNM.out; simp only [List.nil_append, List.length_singleton]; omega) _ _ _ (by rfl) (by rfl) (by rfl) (by rfl) (HONE.out _ _ (Tx.cell_kept g1 (Kn.cell_new _ _ _ 0 _ rfl))) ?_; intro v3 w3 o3 b3 g3)
           | (refine Tx.step_append_more (M := [] ++ K1 ++ [t]) (K := K3) b3 o3 (by have := HNM.out; simp only [List.nil_append, List.length_append, List.length_singleton]; omega) _ _ _ (by rfl) (by rfl) (by rfl) (by rfl) (HSC.out _ b3 _ _ (by first | rfl | omega | simp)) ?_; intro v4 w4 o4 b4 g4))
         all_goals
          have HB4 := Lib.hid (HB.out.trans (b4.mono HB.out.size))
          have HO4 := Lib.hid (Tx.Own.mono o4 HB.out.size)
          clear o1 o3 o4 g1 g3 g4 b1 b3 b4
          go_wp2
          go_roundw
          case rel => exact ⟨k + 1, by omega, by simp, by rw [HS.out, HIN.out]; exact HDQ2.out ▸ HO4.out, HB4.out⟩
          case measure => simp [intOf]; omega
       ·rw [hx] at CA
        have HX := Lib.hid hx
        clear hx hbi
        go_wp2_with fail
        refine wp_region_quiet_below (by kernel_rfl) (by kernel_rfl) ?_
        repeat (go_big_quiet_step (first | with_reducible exact CA.out _))
        refine wpQuiet_nil ?_
        intro wq hw'
        have HB2 := Lib.hid (HBI.out.trans ((Ig.below_reg hw').mono HBI.out.size))
        clear hw'
        go_wp2
        go_roundw
        case rel => exact ⟨q + 1, by omega, by simp, (fun i hi => by
         by_cases e : i = q
         ·rw [e]; exact HX.out
         ·exact HLT.out i (by omega)), HB2.out⟩
        case measure => simp [intOf]; omega
      ·have dq : ¬ (q : Int) < (D.length : Int) := by omega
       have HIN := Lib.hid (Tx.ins_at t D q HM.out hq HLT.out fun h => absurd h hqd)
       clear hbi
       go_wp2_with fail
       go_quiet (fail)
       go_wp2_with fail
       generalize hwq : wr.drewN _ = wq
       have HB2 : Hid (Below wo.heap.size wo wq) := Lib.hid (by rw [← hwq]; exact HBI.out.trans ((Bt.drewN_below wr _).mono HBI.out.size))
       clear hwq
       have HC0 := Lib.hid hc
       have hcz := HB2.out.cell (p := ⟨b, o + k, none⟩) (World.block_lt_of_cell? wo _ hc)
       rw [hc] at hcz
       have HSA : Hid (∀ W, Below wo.heap.size wo W → Tx.Src W (.slice (some ⟨b2, 0, none⟩) q c2) (D.take q)) := Lib.hid fun W g => Tx.src_take hlt2 HCLS.out g (by omega) c2
       obtain ⟨oz, hoz, HSC⟩ : ∃ oz, ((c2 = q ∧ oz = 0) ∨ (¬ c2 = q ∧ oz = q)) ∧ Hid (∀ W, Below wo.heap.size wo W → ∀ m c, m = D.length - q → Tx.Src W (.slice (some ⟨b2, oz, none⟩) m c) (D.drop q)) := by
        by_cases hcq : c2 = q
        ·refine ⟨0, .inl ⟨hcq, rfl⟩, Lib.hid fun W g m c hm => .inr ⟨⟨b2, 0, none⟩, c, by rw [List.length_drop, hm], fun i hi => ?_⟩⟩
         rw [List.length_drop] at hi
         omega
        ·exact ⟨q, .inr ⟨hcq, rfl⟩, Lib.hid fun W g m c hm => by rw [hm]; exact Tx.src_drop hlt2 HCLS.out g (by omega) c⟩
       have dq4 : (q : Int) ≤ (c2 : Int) := by omega
       have dq5 : (q : Int) ≤ (D.length : Int) := by omega
       have dq6 : (D.length : Int) ≤ (c2 : Int) := by omega
       clear hc
       have HZ : Hid (∀ W, Below wo.heap.size wo W → W.cell? ⟨b, o + k, none⟩ = some (.string ts)) := Lib.hid fun W g => (g.cell (p := ⟨b, o + k, none⟩) (World.block_lt_of_cell? wo _ HC0.out)).trans HC0.out
       have HONE : Hid (∀ W B, W.cell? ⟨B, 0, none⟩ = some (.string ts) → Tx.Src W (.slice (some ⟨B, 0, none⟩) 1 1) [t]) := Lib.hid fun W B h => Tx.src_one (by rw [← HTS.out]; exact h) 1
       have HDQ2 : Hid ([] ++ D.take q ++ [t] ++ D.drop q = D.take q ++ t :: D.drop q) := Lib.hid (by simp)
       have HD0 : Hid (Below wo.heap.size wo wq.drew) := Lib.hid HB2.out.drew
       have HNM : Hid (D.length ≤ 65536 ∧ (D.take q).length ≤ 65536 ∧ (D.drop q).length ≤ 65536) := Lib.hid ⟨by have := HNN.out; omega, by rw [List.length_take]; have := HNN.out; omega, by rw [List.length_drop]; have := HNN.out; omega⟩
       generalize D.take q = K1 at HSA HNM HDQ2 HIN
       generalize D.drop q = K3 at HSC HNM HDQ2 HIN
       rcases hoz with ⟨rfl, rfl⟩ | ⟨hcq, rfl⟩
       all_goals
        go_wp2_with fail
        go_region_held3 (fun wx => wx.cell? ⟨b, o + k, none⟩ = some (.string ts))
         (first
          | exact HZ.out _ HD0.out
          | exact HZ.out _ (HD0.out.alloc HD0.out.size _)
          | exact HZ.out _ b4
          | exact HZ.out _ b3
          | exact HZ.out _ b1
          | exact HZ.out _ (b1.alloc b1.size _))
         (first
          | (refine Tx.step_append_more (M := []) (K := K1) HD0.out (Tx.Own.nil _ _) (by have := HNM.out; simp only [List.length_nil]; omega) _ _ _ (by rfl) (by rfl) (by rfl) (by rfl) (HSA.out _ HD0.out) ?_; intro v1 w1 o1 b1 g1)
          | (refine Tx.step_append_more (M := []) (K := K1) (HD0.out.alloc HD0.out.size _) (Tx.Own.nil _ _) (by have := HNM.out; simp only [List.length_nil]; omega) _ _ _ (by rfl) (by rfl) (by rfl) (by rfl) (HSA.out _ (HD0.out.alloc HD0.out.size _)) ?_; intro v1 w1 o1 b1 g1)
          | (refine Tx.step_append_more (M := [] ++ K1) (K := [t]) (b1.alloc b1.size _) (World.ownsRow.alloc o1 _) (by have := HNM.out; simp only [List.nil_append, List.length_singleton]; omega) _ _ _ (by rfl) (by rfl) (by rfl) (by rfl) (HONE.out _ _ (Kn.cell_new _ _ _ 0 _ rfl)) ?_; intro v3 w3 o3 b3 g3)
          | (refine Tx.step_append_more (M := [] ++ K1) (K := [t]) b1 o1 (by have := HNM.out; simp only [List.nil_append, List.length_singleton]; omega) _ _ _ (by rfl) (by rfl) (by rfl) (by rfl) (HONE.out _ _ (Tx.cell_kept g1 (Kn.cell_new _ _ _ 0 _ rfl))) ?_; intro v3 w3 o3 b3 g3)
          | (refine Tx.step_append_more (M := [] ++ K1 ++ [t]) (K := K3) b3 o3 (by have := HNM.out; simp only [List.nil_append, List.length_append, List.length_singleton]; omega) _ _ _ (by rfl) (by rfl) (by rfl) (by rfl) (HSC.out _ b3 _ _ (by first | rfl | omega | simp)) ?_; intro v4 w4 o4 b4 g4))
        all_goals
         have HB4 := Lib.hid (HB.out.trans (b4.mono HB.out.size))
         have HO4 := Lib.hid (Tx.Own.mono o4 HB.out.size)
         clear o1 o3 o4 g1 g3 g4 b1 b3 b4
         go_wp2
         go_roundw
         case rel => exact ⟨k + 1, by omega, by simp, by rw [HS.out, HIN.out]; exact HDQ2.out ▸ HO4.out, HB4.out⟩
         case measure => simp [intOf]; omega
  ·obtain rfl : k = n := by omega
   have dk : ¬ (k : Int) < (k : Int) := by omega
   have HF : Hid (Tx.dict (L.take k) = Tx.dict L) := Lib.hid (by rw [HN.out, List.take_length])
   clear hb
   go_wp2
   go_ret
   exact ⟨_, rfl, by rw [← HF.out]; exact HO.out, HB.out⟩
end Go.Proofs.YtbelkhkllneifaaGreatDoor
