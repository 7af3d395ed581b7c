import Derived.Test.YtbelkhkllneifaaGreatDoorWEAF
import Derived.Test.YtbelkhkllneifaaGreatDoorWEAA
import Derived.Test.YtbelkhkllneifaaGreatDoorWEAE
import Derived.Test.YtbelkhkllneifaaGreatDoorWEAC
import Derived.Lib.QuietBelow
import Derived.Deep.RegionHeld3
namespace Go.Proofs.YtbelkhkllneifaaGreatDoor
section
open Go.RowKit
def Ig.bk (L : List Int) : Nat → Nat
 | 0 => 0
 | k + 1 => if (Ig.enc (k + 1) L).length < (Ig.enc (Ig.bk L k) L).length then k + 1 else Ig.bk L k
theorem Ig.bk_le (L : List Int) : ∀ k, Ig.bk L k ≤ k
 | 0 => Nat.le_refl _
 | k + 1 => by
   have := Ig.bk_le L k
   unfold Ig.bk
   split <;> omega
theorem Ig.bk_least (L : List Int) : ∀ k j, j ≤ k → (Ig.enc (Ig.bk L k) L).length ≤ (Ig.enc j L).length
 | 0, j, h => by
   obtain rfl : j = 0 := by omega
   exact Nat.le_refl _
 | k + 1, j, h => by
   have ih := Ig.bk_least L k
   unfold Ig.bk
   split
   ·rename_i hlt
    rcases Nat.lt_or_ge j (k + 1) with hj | hj
    ·have := ih j (by omega); omega
    ·obtain rfl : j = k + 1 := by omega
     exact Nat.le_refl _
   ·rename_i hlt
    rcases Nat.lt_or_ge j (k + 1) with hj | hj
    ·exact ih j (by omega)
    ·obtain rfl : j = k + 1 := by omega
     omega
def Ig.bestE (L : List Int) : Nat := if 65536 < L.length then 3 else 0
def Ig.bestS (L : List Int) : List UInt8 := if 65536 < L.length then [] else Ig.enc (Ig.bk L 3) L
def Ig.bestV (L : List Int) : Value := .tuple #[.string (Ty.S (Ig.bestS L)), .int .i64 ((Ig.bestE L : Nat) : Int)]
theorem Ig.bestV_long {L : List Int} (h : 65536 < L.length) : Ig.bestV L = .tuple #[.string (Ty.S []), .int .i64 3] := by unfold Ig.bestV Ig.bestE Ig.bestS; rw [if_pos h, if_pos h]; rfl
theorem Ig.bestV_good {L : List Int} (h : ¬ 65536 < L.length) : Ig.bestV L = .tuple #[.string (Ty.S (Ig.enc (Ig.bk L 3) L)), .int .i64 0] := by unfold Ig.bestV Ig.bestE Ig.bestS; rw [if_neg h, if_neg h]; rfl
set_option maxHeartbeats 2000000 in
theorem Ig.best_c (u : Value) (L : List Int) (w : World) (hw : Ty.Tabs w) (hL : Ig.At w.heap.size w u L) (hi : ∀ x ∈ L, Ty.I64 x) (hl : L.length ≤ 140737488355328) :
 Calls Tryz.prog 144 #[u] w fun e w' => e = .returned (Ig.bestV L) ∧ Below w.heap.size w w' := by
 have hG := hw.two
 by_cases hln : 65536 < L.length
 ·have c0 := Ig.with_c u L 0 w hw hL hi hl
  rw [Ig.withV_long (by omega) hln] at c0
  rw [Ig.bestV_long hln]
  clear hln hi hl
  obtain ⟨a, c, rfl, hc, _, h⟩ := hL
  clear h
  go_enter Tryz.func144, Tryz.ntmps144
  go_wp2_with fail
  refine c0.mono ?_
  rintro e w1 ⟨rfl, hb1⟩
  go_wp2
  go_ret2
  exact ⟨rfl, hb1⟩
 ·rw [Ig.bestV_good hln]
  have cw : Hid (∀ k : Nat, k ≤ 3 → ∀ wz, Below w.heap.size w wz → Calls Tryz.prog 155 #[u, .int .i64 (k : Int)] wz fun e w' => e = .returned (.tuple #[.string (Ty.S (Ig.enc k L)), .int .i64 0]) ∧ Below w.heap.size w w') := Lib.hid fun k hk wz hb => by
   have := Ig.with_c u L (k : Int) wz (hw.below hb hG) (hL.below hb).bufs hi hl
   rw [Ig.withV_good hk hln] at this
   exact this.mono fun e w' ⟨he, hg⟩ => ⟨he, hb.trans (hg.mono hb.size)⟩
  have c0 := cw.out 0 (by decide) w (Below.refl _ _)
  obtain ⟨a, c, rfl, hc, _, h⟩ := hL
  clear h hi hl hln
  have e0 : ((0 : Nat) : Int) = 0 := rfl
  rw [e0] at c0
  clear e0
  go_enter Tryz.func144, Tryz.ntmps144
  go_wp2_with fail
  refine c0.mono ?_
  rintro e w1 ⟨rfl, hb1⟩
  clear c0
  go_wp2
  go_loopw [4, 6] (fun s i wr => ∃ k : Nat, 1 ≤ k ∧ k ≤ 4 ∧ i = .int .i64 k ∧ s = .string (Ty.S (Ig.enc (Ig.bk L (k - 1)) L)) ∧ Below w.heap.size w wr) (fun _ i _ => 4 - (intOf i).toNat)
  case atStart => exact ⟨1, by omega, by omega, rfl, rfl, hb1⟩
  case round =>
   obtain ⟨k, hk1, hk, rfl, rfl, hb⟩ := hrel
   clear hb1
   have hs := hb.size
   by_cases hk4 : k < 4
   ·have hki : (k : Int) < 4 := by omega
    have hk0 : (0 : Int) ≤ (k : Int) := by omega
    have HBK : Hid (Ig.bk L k = if (Ig.enc k L).length < (Ig.enc (Ig.bk L (k - 1)) L).length then k else Ig.bk L (k - 1)) := Lib.hid (by
     obtain ⟨j, rfl⟩ : ∃ j, k = j + 1 := ⟨k - 1, by omega⟩
     rfl)
    obtain ⟨s0, es0⟩ : ∃ s0, s0 = Ty.S (Ig.enc (Ig.bk L (k - 1)) L) := ⟨_, rfl⟩
    obtain ⟨s1, es1⟩ : ∃ s1, s1 = Ty.S (Ig.enc k L) := ⟨_, rfl⟩
    have HN : Hid (s1.size < s0.size → Ty.S (Ig.enc (Ig.bk L k) L) = s1) := Lib.hid (fun h => by
     rw [es0, es1, Ty.size_S, Ty.size_S] at h
     rw [es1, HBK.out, if_pos h])
    have HM : Hid (¬ s1.size < s0.size → Ty.S (Ig.enc (Ig.bk L k) L) = s0) := Lib.hid (fun h => by
     rw [es0, es1, Ty.size_S, Ty.size_S] at h
     rw [es0, HBK.out, if_neg h])
    have c1 := cw.out k (by omega)
    rw [← es1] at c1
    rw [← es0]
    have HC := Lib.hid c1
    clear c1 es0 es1
    by_cases hlt : (s1.size : Int) < (s0.size : Int)
    all_goals
     go_wp2_with fail
     refine (Ig.coders_c _).mono ?_
     rintro e w2 ⟨rfl, hw2⟩
     have hb2 : Below w.heap.size w w2 := by rw [hw2]; exact hb.alloc hs _
     clear hw2
     have c2 := HC.out _ hb2
     go_wp2_with fail
     refine c2.mono ?_
     rintro e w3 ⟨rfl, hb3⟩
     clear c2
     go_wp2
     go_roundw
     case rel => exact ⟨k + 1, by omega, by omega, by simp, by first | rw [show k + 1 - 1 = k by omega, HN.out (by omega)] | rw [show k + 1 - 1 = k by omega, HM.out (by omega)], hb3⟩
     case measure => simp [intOf]; omega
   ·obtain rfl : k = 4 := by omega
    go_wp2_with fail
    refine (Ig.coders_c _).mono ?_
    rintro e w2 ⟨rfl, hw2⟩
    have hb2 : Below w.heap.size w w2 := by rw [hw2]; exact hb.alloc hs _
    clear hw2
    go_wp2
    go_ret2
    exact ⟨rfl, hb2⟩
end
section
open Go.RowKit
def Tx.sv (L : List Tx.Str) (i : Nat) : Value := .string (Ty.S (L.getD i []))
structure Tx.At (B : Nat) (w : World) (v : Value) (L : List Tx.Str) : Prop where
 is : ∃ a c, v = .slice a L.length c ∧ L.length ≤ c ∧ B ≤ w.heap.size ∧ ((L = [] ∧ (a = none → c = 0)) ∨ ∃ b o, a = some ⟨b, o, none⟩ ∧ b < B ∧ ∀ i, i < L.length → w.cell? ⟨b, o + i, none⟩ = some (Tx.sv L i))
theorem Tx.At.below {B : Nat} {w w' : World} {v : Value} {L : List Tx.Str} (h : Tx.At B w v L) (g : Below B w w') : Tx.At B w' v L := by
 obtain ⟨a, c, rfl, hc, hB, h⟩ := h
 refine ⟨a, c, rfl, hc, Nat.le_trans hB g.size, ?_⟩
 rcases h with h | ⟨b, o, rfl, hlt, h⟩
 ·exact .inl h
 ·exact .inr ⟨b, o, rfl, hlt, fun i hi => (g.cell (p := ⟨b, o + i, none⟩) hlt).trans (h i hi)⟩
theorem Tx.At.mono {B B' : Nat} {w : World} {v : Value} {L : List Tx.Str} (h : Tx.At B w v L) (h1 : B ≤ B') (h2 : B' ≤ w.heap.size) : Tx.At B' w v L := by
 obtain ⟨a, c, rfl, hc, hB, h⟩ := h
 refine ⟨a, c, rfl, hc, h2, ?_⟩
 rcases h with h | ⟨b, o, rfl, hlt, h⟩
 ·exact .inl h
 ·exact .inr ⟨b, o, rfl, by omega, h⟩
theorem Tx.At.nil (w : World) : Tx.At w.heap.size w (.slice none 0 0) [] := ⟨_, _, rfl, Nat.le_refl _, Nat.le_refl _, .inl ⟨rfl, fun _ => rfl⟩⟩
theorem Tx.S_size (t : Tx.Str) : (Ty.S t).size = t.length := rfl
theorem Tx.S_toList (t : Tx.Str) : (Ty.S t).toList = t := by
 rw [ByteArray.toList_eq]
 rfl
def Tx.posI (L : List Tx.Str) (t : Tx.Str) : Int := if t ∈ L then ((Tx.pos L t : Nat) : Int) else -1
end
section
open Go.RowKit
theorem Tx.infoS : (Tryz.prog.info? 9).map (fun i => (i.zero, i.size, i.bytes)) = some (some (.string ⟨#[]⟩), 1, 16) := by kernel_rfl
theorem Ig.below_reg {w w' : World} (h : ∃ p : Regrown, w' = Sort.grow (redrawn w p.d) p.os) : Below w.heap.size w w' := by
 obtain ⟨p, rfl⟩ := h
 exact below_regrown w p.d p.os
def Tx.Own (base : Nat) (w : World) (v : Value) (L : List Tx.Str) : Prop := Bt.Buf 9 base w v L.length (Tx.sv L)
theorem Tx.Own.nil (base : Nat) (w : World) : Tx.Own base w (.slice none 0 0) [] := Bt.Buf.nil _ _ _ _
theorem Tx.sv_left (M R : List Tx.Str) {i : Nat} (h : i < M.length) : Tx.sv (M ++ R) i = Tx.sv M i := by
 unfold Tx.sv
 rw [List.getD, List.getD, List.getElem?_append_left h]
theorem Tx.sv_right (M R : List Tx.Str) (i : Nat) : Tx.sv (M ++ R) (M.length + i) = Tx.sv R i := by
 unfold Tx.sv
 have e : M.length + i - M.length = i := by omega
 rw [List.getD, List.getD, List.getElem?_append_right (by omega), e]
theorem Tx.Own.pre {base : Nat} {w : World} {v : Value} {M : List Tx.Str} (h : Tx.Own base w v M) (x : Tx.Str) : Bt.Buf 9 base w v M.length (Tx.sv (M ++ [x])) :=
 Bt.Buf.congr h fun i hi => by rw [Tx.sv_left M [x] hi]
theorem Tx.Own.post {base : Nat} {w : World} {v : Value} {M : List Tx.Str} {x : Tx.Str} (h : Bt.Buf 9 base w v (M.length + 1) (Tx.sv (M ++ [x]))) : Tx.Own base w v (M ++ [x]) := by
 unfold Tx.Own
 rw [List.length_append, List.length_singleton]
 exact h
theorem Tx.sv_snoc (M : List Tx.Str) (x : Tx.Str) : Value.string (Ty.S x) = Tx.sv (M ++ [x]) M.length := by
 have := Tx.sv_right M [x] 0
 rw [Nat.add_zero] at this
 rw [this]
 rfl
theorem Tx.Own.at {base : Nat} {w : World} {v : Value} {L : List Tx.Str} (h : Tx.Own base w v L) : Tx.At w.heap.size w v L := by
 have hs := Bt.Buf.sl h
 obtain ⟨a, c, rfl, h1⟩ := hs
 have hc : L.length ≤ c ∧ (a = none → c = 0) := by
  rcases h.2 with ⟨e, e0⟩ | ⟨g, cap, cur, e, _, _, hcap, _⟩
  ·simp only [Value.slice.injEq] at e
   exact ⟨by omega, fun _ => by omega⟩
  ·simp only [Value.slice.injEq] at e
   exact ⟨by omega, fun e2 => by rw [e2] at e; exact absurd e.1 (by simp)⟩
 refine ⟨a, c, rfl, hc.1, Nat.le_refl _, ?_⟩
 rcases h1 with h1 | h1
 ·exact .inl ⟨List.eq_nil_of_length_eq_zero h1, hc.2⟩
 ·exact .inr h1
def Tx.Src (w : World) (u : Value) (K : List Tx.Str) : Prop := (u = .slice none 0 0 ∧ K = []) ∨ ∃ ad c, u = .slice (some ad) K.length c ∧ ∀ i, i < K.length → w.cell? (ad.add i) = some (Tx.sv K i)
theorem Tx.addr_add (b o i : Nat) : (⟨b, o, none⟩ : Addr).add i = ⟨b, o + i, none⟩ := by unfold Addr.add; split <;> simp_all
theorem Tx.Own.form {base : Nat} {w : World} {v : Value} {L : List Tx.Str} (h : Tx.Own base w v L) : (v = .slice none 0 0 ∧ L = []) ∨ ∃ g c, v = .slice (some ⟨g, 0, none⟩) L.length c ∧ L.length ≤ c ∧ g < w.heap.size ∧ ∀ i, i < L.length → w.cell? ⟨g, i, none⟩ = some (Tx.sv L i) := by
 rcases h.2 with ⟨e, e0⟩ | ⟨g, cap, cur, e, _, hgg, hcap, _⟩
 ·exact .inl ⟨e, List.eq_nil_of_length_eq_zero e0⟩
 ·refine .inr ⟨g, cap, e, hcap, (Array.getElem?_eq_some_iff.1 hgg).1, fun i hi => ?_⟩
  have := h.cells (g := g) (by rw [e]; rfl) i (Tx.sv L i) (by simp [hi])
  rwa [Tx.addr_add, Nat.zero_add] at this
theorem Tx.grew_below {wo w w' : World} {v v' : Value} {L : List Tx.Str} (hb : Below wo.heap.size wo w) (ho : Tx.Own wo.heap.size w v L) (g : Ty.Grew w w' v v') : Below wo.heap.size wo w' :=
 hb.trans (g.below hb.size (Bt.Buf.base_le ho))
theorem Tx.Own.mono {B B' : Nat} {w : World} {v : Value} {L : List Tx.Str} (h : Tx.Own B w v L) (hB : B' ≤ B) : Tx.Own B' w v L := by
 refine ⟨h.1, ?_⟩
 rcases h.2 with hn | ⟨b, cap, cur, rfl, hbb, rest⟩
 ·exact .inl hn
 ·exact .inr ⟨b, cap, cur, rfl, by omega, rest⟩
end
end Go.Proofs.YtbelkhkllneifaaGreatDoor
