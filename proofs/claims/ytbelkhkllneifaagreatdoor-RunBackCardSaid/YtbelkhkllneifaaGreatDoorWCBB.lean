/-
  
-/
import Derived.Test.YtbelkhkllneifaaGreatDoorWCAL
import Derived.Test.YtbelkhkllneifaaGreatDoorWCBA
import Derived.Shelf.Abstract
import Derived.Shelf.RegionOpen
import Derived.OwnWalkIn
import Derived.TacticsInMore
import Derived.LoopNIn
import Derived.LoopIn
import Derived.BigQuiet
namespace Go.Proofs.YtbelkhkllneifaaGreatDoor
open Go Go.RowKit Go.Shelf
attribute [local go_sem] Oper.semAt_some
def Rn.ck (b o n k : Nat) : Option Addr × Nat × Nat := (some ⟨b, o + 8 * k * 2, none⟩, min 8 (n - 8 * k), min 8 (n - 8 * k))
def Rn.cks (b o n j : Nat) : List (Option Addr × Nat × Nat) := (List.range j).map (Rn.ck b o n)
theorem Rn.cks_next (b o n j : Nat) : Rn.cks b o n (j + 1) = Rn.cks b o n j ++ [Rn.ck b o n j] := by
 unfold Rn.cks
 rw [List.range_succ, List.map_append]
 rfl
theorem Rn.cks_len (b o n j : Nat) : (Rn.cks b o n j).length = j := by unfold Rn.cks; simp
theorem Rn.cks_pre {b o n : Nat} {i j : Nat} (h : i ≤ j) : Rn.cks b o n i <+: Rn.cks b o n j := by
 induction j with
 | zero => obtain rfl : i = 0 := by omega
           exact List.prefix_refl _
 | succ j ih =>
   rcases Nat.lt_or_ge i (j + 1) with h1 | h1
   ·rw [Rn.cks_next]
    exact (ih (by omega)).trans (List.prefix_append _ _)
   ·obtain rfl : i = j + 1 := by omega
    exact List.prefix_refl _
theorem Rn.cks_at {b o n j : Nat} {pre : List (Option Addr × Nat × Nat)} {x : Option Addr × Nat × Nat} (h : pre ++ [x] <+: Rn.cks b o n j) : pre.length < j ∧ x = Rn.ck b o n pre.length := by
 obtain ⟨r, h⟩ := h
 have hl := congrArg List.length h
 rw [Rn.cks_len, List.length_append, List.length_append, List.length_singleton] at hl
 have hp : pre.length < j := by omega
 have hx := congrArg (fun l => l[pre.length]?) h
 rw [List.append_assoc, List.getElem?_append_right (Nat.le_refl _), Nat.sub_self] at hx
 unfold Rn.cks at hx
 rw [List.getElem?_map, List.getElem?_range hp] at hx
 exact ⟨hp, by simpa using hx⟩
set_option maxHeartbeats 1000000 in
set_option maxRecDepth 100000 in
theorem Rn.chunk_c {w : World} (a : Option Addr) (n c m : Nat) (hm : m = w.heap.size) :
 Calls Tryz.prog 67 #[.slice a n c, .int .i64 8] w fun e w' => e = .returned (.func (.func 96) #[] #[.pointer (some ⟨m, 0, none⟩), .pointer (some ⟨m + 1, 0, none⟩)]) ∧
  w'.cell? ⟨m, 0, none⟩ = some (.slice a n c) ∧ w'.cell? ⟨m + 1, 0, none⟩ = some (.int .i64 8) ∧ Below w.heap.size w w' ∧ w'.heap.size = m + 2 := by
 subst hm
 have HC : Hid (((w.alloc (.cells #[.slice a n c] 23)).alloc (.cells #[.int .i64 8] 3)).cell? ⟨w.heap.size, 0, none⟩ = some (.slice a n c) ∧
  ((w.alloc (.cells #[.slice a n c] 23)).alloc (.cells #[.int .i64 8] 3)).cell? ⟨w.heap.size + 1, 0, none⟩ = some (.int .i64 8)) := Lib.hid (by
  refine ⟨?_, ?_⟩
  ·exact (((Below.refl _ (w.alloc (.cells #[.slice a n c] 23))).alloc (Nat.le_refl _) _).cell (p := ⟨w.heap.size, 0, none⟩) (by simp)).trans (Kn.cell_new w _ _ 0 _ rfl)
  ·have := Kn.cell_new (w.alloc (.cells #[.slice a n c] 23)) #[.int .i64 8] 3 0 _ rfl
   rwa [World.size_alloc] at this)
 have x1 := HC.out.2
 go_enter Tryz.func67, Tryz.ntmps67
 go_wp2
 go_ret
 exact ⟨rfl, HC.out.1, HC.out.2, ((Below.refl _ w).alloc (Nat.le_refl _) _).alloc (by simp) _, by simp⟩
set_option maxHeartbeats 4000000 in
set_option maxRecDepth 100000 in
theorem Rn.chunk1_seq {w : World} {D : Nat → Prop} {b o n c bs bn : Nat} (c1 : w.cell? ⟨bs, 0, none⟩ = some (.slice (some ⟨b, o, none⟩) n c)) (c2 : w.cell? ⟨bn, 0, none⟩ = some (.int .i64 8)) (h1 : D bs) (h2 : D bn) (hc : n ≤ c) (hn : n ≤ 1048576) :
 Rn.Seq Tryz.prog 96 #[.pointer (some ⟨bs, 0, none⟩), .pointer (some ⟨bn, 0, none⟩)] (fun x args _ => args = #[Bk.sv x]) D (Rn.cks b o n (Rn.nb n)) w := by
 intro l J Jx W hW hJ hJx hY h0
 have l1 := World.block_lt_of_cell? w _ c1
 have l2 := World.block_lt_of_cell? w _ c2
 have d1 := (hW.cell (p := ⟨bs, 0, none⟩) l1).trans c1
 have d2 := (hW.cell (p := ⟨bn, 0, none⟩) l2).trans c2
 have HC : Hid (∀ W', Rn.Kd D W W' → W'.cell? ⟨bs, 0, none⟩ = some (.slice (some ⟨b, o, none⟩) n c) ∧ W'.cell? ⟨bn, 0, none⟩ = some (.int .i64 8)) := Lib.hid fun W' g =>
  ⟨(World.cell?_of_block (g.same bs h1 (World.block_lt_of_cell? W _ d1))).trans d1, (World.cell?_of_block (g.same bn h2 (World.block_lt_of_cell? W _ d2))).trans d2⟩
 have HY := Lib.hid hY
 have HJ0 := Lib.hid h0
 have HJA := Lib.hid hJ
 have HN := Lib.hid (And.intro hc hn)
 clear c1 c2 h1 h2 hW hJ hJx hY h0 l1 l2 d1 d2 hc hn
 refine callsIn_of_wp Tryz.func96 rfl trivial ?_ rfl
 simp only [Tryz.ntmps96, List.size_toArray, List.length_cons, List.length_nil, Nat.reduceAdd, Nat.reduceSub, Array.replicate_succ, Array.replicate_zero, List.push_toArray, List.append_toArray, List.nil_append, List.cons_append]
 gi_wp2
 gi_loopw [4] (fun at_ wr => ∃ k p : Nat, p = 8 * k ∧ k ≤ Rn.nb n ∧ at_ = .int .i64 p ∧ J (Rn.cks b o n k) wr ∧ Rn.Kd D W wr)
  (fun at_ _ => n - (intOf at_).toNat)
 case atStart => exact ⟨0, 0, rfl, Nat.zero_le _, rfl, HJ0.out, Rn.Kd.below (Below.refl _ _)⟩
 case round =>
  obtain ⟨k, p, hp, hk, rfl, hj, hkd⟩ := hrel
  have HP := Lib.hid (And.intro hp hk)
  have HJ := Lib.hid hj
  have HKD := Lib.hid hkd
  obtain ⟨e1, e2⟩ := HC.out wr hkd
  clear HJ0 hj hkd hp hk
  by_cases hl : p < n
  ·have hpl : (p : Int) < (n : Int) := by omega
   have hp0 : (0 : Int) ≤ (p : Int) := by omega
   have hp7 : (n : Int) ≤ 1048576 := by have := HN.out.2; omega
   have hnc : (n : Int) ≤ (c : Int) := by have := HN.out.1; omega
   have HK : Hid (k < Rn.nb n) := Lib.hid (by have := HP.out.1; unfold Rn.nb; omega)
   have HKL := Lib.hid hl
   have HX : Hid (Rn.cks b o n (k + 1) = Rn.cks b o n k ++ [Rn.ck b o n k] ∧ Rn.cks b o n k ++ [Rn.ck b o n k] <+: Rn.cks b o n (Rn.nb n)) := Lib.hid ⟨Rn.cks_next .., by rw [← Rn.cks_next]; exact Rn.cks_pre HK.out⟩
   have HM : Hid (∃ e : Nat, (e : Int) = min 8 ((n : Int) - p) ∧ Rn.ck b o n k = (some ⟨b, o + p * 2, none⟩, e, e) ∧ 1 ≤ e ∧ p + e ≤ n ∧ e ≤ 8 ∧ (p + 8 ≤ n → e = 8) ∧ (n < p + 8 → e = n - p)) := Lib.hid (by
    have := HP.out.1
    refine ⟨min 8 (n - p), by omega, by unfold Rn.ck; rw [this], by omega, by omega, by omega, by omega, by omega⟩)
   obtain ⟨e, he, hek, he1, hen, he8, heA, heB⟩ := HM.out
   have HEK := Lib.hid hek
   clear hl
   have hY9 : ∀ W3, Below wr.heap.size wr W3 → ∃ fn tmps assign body, (Instr.yield l #[.slice (some ⟨b, o + p * 2, none⟩) e e]).run Tryz.prog W3 = .ok (.round l fn tmps assign body) W3 ∧ RoundIn Fence.wide 7 Tryz.prog l fn tmps assign body W3 fun x W' => (x = .returned (.bool true) ∧ J (Rn.cks b o n (k + 1)) W' ∧ Rn.Kd D W W') ∨ (x = .returned (.bool false) ∧ Jx (Rn.cks b o n (k + 1)) W') := fun W3 g => by
    have hk3 : Rn.Kd D W W3 := HKD.out.trans (Rn.Kd.below g)
    obtain ⟨fn, tmps, assign, body, hy, hR⟩ := HY.out (Rn.cks b o n k) (Rn.ck b o n k) _ W3 (Rn.own_below HJA.out HJ.out g) rfl hk3 HX.out.2
    rw [HEK.out] at hy
    rw [← HX.out.1] at hR
    refine ⟨fn, tmps, assign, body, hy, hR.mono ?_⟩
    rintro x W' (⟨rfl, j3, k3⟩ | ⟨rfl, j3⟩)
    ·exact .inl ⟨rfl, j3, hk3.trans k3⟩
    ·exact .inr ⟨rfl, j3⟩
   have HY9 := Lib.hid hY9
   clear hY9 hek
   by_cases h8 : p + 8 ≤ n
   ·obtain rfl : e = 8 := heA h8
    have hm8 : (8 : Int) ≤ (n : Int) - (p : Int) := by omega
    have hmA : min (8 : Int) ((n - p : Nat) : Int) = 8 := by omega
    have h9 : (p : Int) + 8 ≤ (n : Int) := by omega
    have h10 : (p : Int) + 8 ≤ (c : Int) := by omega
    clear heA heB he h8 he1 hen he8
    gi_wp2
    refine wpIn_wide.2 ?_
    go_quiet (fail)
    have g3 : Below wr.heap.size wr (wr.drewN nq) := Bt.drewN_below _ _
    obtain ⟨f1, f2⟩ := HC.out (wr.drewN nq) (HKD.out.trans (Rn.Kd.below g3))
    obtain ⟨fn, tmps, assign, body, hy, hR⟩ := HY9.out _ g3
    generalize wr.drewN nq = w3 at f1 f2 hy hR ⊢
    clear g3 e1 e2
    gi_wp2
    refine hR.mono ?_
    rintro x W3 (⟨rfl, j3, k3⟩ | ⟨rfl, j3⟩)
    ·have HJ3 := Lib.hid j3
     have HK3 := Lib.hid k3
     obtain ⟨e1, e2⟩ := HC.out W3 k3
     clear j3 k3 hy hR f1 f2
     gi_wp2
     go_roundw
     case rel => exact ⟨k + 1, p + 8, by have := HP.out.1; omega, HK.out, by simp, HJ3.out, HK3.out⟩
     case measure => have := HKL.out; simp [intOf]; omega
    ·have HJ3 := Lib.hid j3
     clear j3 hy hR f1 f2
     gi_wp2
     refine bodyPost_ret (results_none rfl _ _ _) rfl ?_
     exact ⟨⟨_, rfl⟩, .inr ⟨Rn.cks b o n (k + 1), Rn.cks_pre HK.out, by rw [HX.out.1]; simp, HJ3.out⟩⟩
   ·obtain rfl : e = n - p := heB (by omega)
    have hm8 : ¬ (8 : Int) ≤ (n : Int) - (p : Int) := by omega
    have hmA : min (8 : Int) ((n - p : Nat) : Int) = ((n - p : Nat) : Int) := by omega
    have hmC : (p : Int) + ((n - p : Nat) : Int) = (n : Int) := by omega
    have hm9 : (n : Int) - (p : Int) < 8 := by omega
    clear heA heB he h8 he1 hen he8
    gi_wp2
    refine wpIn_wide.2 ?_
    go_quiet (fail)
    have g3 : Below wr.heap.size wr (wr.drewN nq) := Bt.drewN_below _ _
    obtain ⟨f1, f2⟩ := HC.out (wr.drewN nq) (HKD.out.trans (Rn.Kd.below g3))
    obtain ⟨fn, tmps, assign, body, hy, hR⟩ := HY9.out _ g3
    generalize wr.drewN nq = w3 at f1 f2 hy hR ⊢
    clear g3 e1 e2
    gi_wp2
    refine hR.mono ?_
    rintro x W3 (⟨rfl, j3, k3⟩ | ⟨rfl, j3⟩)
    ·have HJ3 := Lib.hid j3
     have HK3 := Lib.hid k3
     obtain ⟨e1, e2⟩ := HC.out W3 k3
     clear j3 k3 hy hR f1 f2
     gi_wp2
     go_roundw
     case rel => exact ⟨k + 1, p + 8, by have := HP.out.1; omega, HK.out, by simp, HJ3.out, HK3.out⟩
     case measure => have := HKL.out; simp [intOf]; omega
    ·have HJ3 := Lib.hid j3
     clear j3 hy hR f1 f2
     gi_wp2
     refine bodyPost_ret (results_none rfl _ _ _) rfl ?_
     exact ⟨⟨_, rfl⟩, .inr ⟨Rn.cks b o n (k + 1), Rn.cks_pre HK.out, by rw [HX.out.1]; simp, HJ3.out⟩⟩
  ·obtain rfl : k = Rn.nb n := by have := HP.out; unfold Rn.nb at this ⊢; omega
   have hpl : ¬ (p : Int) < (n : Int) := by omega
   clear hl
   gi_wp2
   go_end0
   exact ⟨⟨_, rfl⟩, .inl HJ.out⟩
end Go.Proofs.YtbelkhkllneifaaGreatDoor
