/-
  
  
  
  
  
  
  
-/
import Derived.Test.YtbelkhkllneifaaGreatDoorWCAW
import Derived.Test.YtbelkhkllneifaaGreatDoorWCAX
import Derived.Test.YtbelkhkllneifaaGreatDoorWCAT
import Derived.Deep.RegionLaw
import Derived.Test.YtbelkhkllneifaaGreatDoorWCAK
import Derived.Test.YtbelkhkllneifaaGreatDoorWCAA
import Derived.Test.YtbelkhkllneifaaGreatDoorWCAS
import Derived.Deep.RegionLawGrows
namespace Go.Proofs.YtbelkhkllneifaaGreatDoor
open Go.RowKit
open Ty (num txt)
open Ig (rest)
def Bk.Got (w : World) (r : Nat × List Dd.D) (e : Ending) (w' : World) : Prop :=
 ∃ v, e = .returned (.tuple #[v, .int .i64 ((r.1 : Nat) : Int)]) ∧ Bk.Ds w' v r.2 ∧ Below w.heap.size w w'
theorem Bk.Got.bad {w w' : World} {r : Nat × List Dd.D} {z : Int} {q : Nat} (hr : r = (q, [])) (hz : z = (q : Int)) (g : Below w.heap.size w w') : Bk.Got w r (.returned (.tuple #[.slice none 0 0, .int .i64 z])) w' :=
 ⟨_, by rw [hr, hz], by rw [hr]; exact ⟨none, 0, rfl, Nat.le_refl _, by decide, .inl rfl⟩, g⟩
theorem Bk.Got.good {w w' : World} {r : Nat × List Dd.D} {v : Value} {L : List Dd.D} (hr : r = (0, L)) (h : Bk.Ds w' v L) (g : Below w.heap.size w w') : Bk.Got w r (.returned (.tuple #[v, .int .i64 0])) w' :=
 ⟨v, by rw [hr]; rfl, by rw [hr]; exact h, g⟩
theorem Bk.run_make (n : Nat) (hn : n ≤ 8) (w : World) : (Instr.makeSlice 23 (.int .u64 (n : Int)) (.int .u64 (n : Int))).run Tryz.prog w = .ok (.slice (some ⟨w.heap.size, 0, none⟩) n n) (w.alloc (.cells (madeCells #[.bool false, .slice none 0 0] (n * 2)) 41)) := by
 obtain ⟨i0, hi, hz0, hz1, hz2⟩ := info_parts (show (Tryz.prog.info? 41).map (fun i => (i.zero, i.size, i.bytes)) = some (some (.agg #[.bool false, .slice none 0 0]), 2, 32) by kernel_rfl)
 have := Go.run_make (P := Tryz.prog) w 23 41 i0 _ Tryz.underlying23 hi hz0 .u64 .u64 n n (by omega) (Int.le_refl _) (by rw [hz2]; omega) (by omega)
 rw [hz1, Int.toNat_natCast] at this
 exact this
theorem Bk.rd_zs {c : Kn.C} {l : List UInt8} (h : (Cl.rd c l).1 = 0) : ∀ v ∈ (Cl.rd c l).2, Kn.Z v := fun v hv => by
 obtain ⟨h1, _, _, _⟩ := Cl.enc_rd h
 have ha : (Cl.rd c l).2.all (Cl.is c) = true := by
  unfold Cl.wE at h1
  by_cases hg : c.good = true
  ·rw [if_pos hg] at h1
   by_cases hl : 65536 < (Cl.rd c l).2.length
   ·rw [if_pos hl] at h1; cases h1
   ·rw [if_neg hl] at h1
    by_cases ha : (Cl.rd c l).2.all (Cl.is c) = true
    ·exact ha
    ·rw [if_neg ha] at h1; cases h1
  ·rw [if_neg hg] at h1; cases h1
 have hi := List.all_eq_true.1 ha v hv
 unfold Kn.Z
 cases hn : v.null
 ·by_cases hk : c.k = 1
  ·rw [Cl.is_num hk hi hn]
   exact Nat.zero_le _
  ·have := (Cl.is_str hk hi hn).2
   rw [Bt.length_data] at this
   omega
 ·rw [(Cl.is_null hi hn).1]
  exact Nat.zero_le _
end Go.Proofs.YtbelkhkllneifaaGreatDoor

namespace Go.Proofs.YtbelkhkllneifaaGreatDoor
open Go.RowKit
open Ty (num txt)
theorem Bk.stC_len (c : Kn.C) (i : Nat) (A : List Dd.D) (s : Dd.St) : (Bk.stC c i A s).1.length = A.length := by
 unfold Bk.stC
 split
 ·exact Bk.give_len i A _
 ·rfl
theorem Bk.stC_wide {c : Kn.C} {i w : Nat} {A : List Dd.D} {s : Dd.St} (h : Bk.Wide w A) : Bk.Wide w (Bk.stC c i A s).1 := by
 unfold Bk.stC
 split
 ·exact Bk.give_wide i w A _ h
 ·exact h
theorem Bk.give_zs (i : Nat) : ∀ (L : List Dd.D) (vs : List Kn.V), Bk.Zs L → (∀ v ∈ vs, Kn.Z v) → Bk.Zs (Bk.give i L vs)
 | [], _, _, _ => fun d hd => by cases hd
 | x :: L, vs, h, hv => fun d hd v hvd => by
   have hx := h x (List.mem_cons_self ..)
   have hL : Bk.Zs L := fun y hy => h y (List.mem_cons_of_mem _ hy)
   unfold Bk.give at hd
   split at hd
   ·rcases List.mem_cons.1 hd with rfl | hd
    ·rcases List.mem_or_eq_of_mem_set hvd with h1 | h1
     ·exact hx v h1
     ·subst h1
      cases vs with
      | nil => unfold Kn.Z; exact Nat.zero_le _
      | cons y vs => exact hv y (List.mem_cons_self ..)
    ·exact Bk.give_zs i L _ hL (fun y hy => hv y (List.mem_of_mem_tail hy)) d hd v hvd
   ·rcases List.mem_cons.1 hd with rfl | hd
    ·exact hx v hvd
    ·exact Bk.give_zs i L _ hL hv d hd v hvd
theorem Bk.stC_zs {c : Kn.C} {i : Nat} {A : List Dd.D} {s : Dd.St} (h : Bk.Zs A) : Bk.Zs (Bk.stC c i A s).1 := by
 unfold Bk.stC
 split
 ·rename_i hk
  exact Bk.give_zs i A _ h (Bk.rd_zs hk.1)
 ·exact h
theorem Bk.stD_next {j : Nat} {s : List Kn.C} {c : Kn.C} (h : s[j]? = some c) (A : List Dd.D) (st : Dd.St) : Bk.stD j (s.drop j) A st = Bk.stD (j + 1) (s.drop (j + 1)) (Bk.stC c j A st).1 (Bk.stC c j A st).2 := by
 obtain ⟨hj, rfl⟩ := List.getElem?_eq_some_iff.1 h
 rw [List.drop_eq_getElem_cons hj]
 rfl
theorem Bk.stD_end {j : Nat} {s : List Kn.C} (h : j = s.length) (A : List Dd.D) (st : Dd.St) : Bk.stD j (s.drop j) A st = (A, st) := by
 rw [h, List.drop_length]
 rfl
def Bk.zk (w n : Nat) (b : UInt8) (k : Nat) : List Dd.D := (List.range n).map fun i => if i < k then ⟨b.toNat.testBit i, List.replicate (Bk.wdt w (b.toNat.testBit i)) (Cl.ofN 0)⟩ else Bk.nod
theorem Bk.zk_len (w n : Nat) (b : UInt8) (k : Nat) : (Bk.zk w n b k).length = n := by unfold Bk.zk; simp
theorem Bk.zk_zero (w n : Nat) (b : UInt8) : Bk.zk w n b 0 = (List.range n).map fun _ => Bk.nod := by unfold Bk.zk; simp
theorem Bk.zk_step {w n : Nat} (b : UInt8) {j : Nat} (h : j < n) : (Bk.zk w n b j).set j ⟨b.toNat.testBit j, List.replicate (Bk.wdt w (b.toNat.testBit j)) (Cl.ofN 0)⟩ = Bk.zk w n b (j + 1) := by
 refine List.ext_getElem? fun i => ?_
 rw [List.getElem?_set, Bk.zk_len]
 by_cases hi : i < n
 ·by_cases e : j = i
  ·subst e
   rw [if_pos rfl, if_pos hi]
   unfold Bk.zk
   rw [List.getElem?_map, List.getElem?_range hi, Option.map_some, if_pos (by omega)]
  ·rw [if_neg e]
   unfold Bk.zk
   rw [List.getElem?_map, List.getElem?_map, List.getElem?_range hi, Option.map_some, Option.map_some]
   by_cases e2 : i < j
   ·rw [if_pos e2, if_pos (by omega)]
   ·rw [if_neg e2, if_neg (by omega)]
 ·have h1 : (Bk.zk w n b j)[i]? = none := List.getElem?_eq_none (by rw [Bk.zk_len]; omega)
  have h2 : (Bk.zk w n b (j + 1))[i]? = none := List.getElem?_eq_none (by rw [Bk.zk_len]; omega)
  rw [if_neg (by omega), h1, h2]
theorem Bk.zk_done (w n : Nat) (b : UInt8) : Bk.zk w n b n = Bk.zero w n b := by
 unfold Bk.zk Bk.zero
 refine List.map_congr_left fun i hi => ?_
 rw [if_pos (List.mem_range.1 hi)]
theorem Bk.zero_zs (w n : Nat) (b : UInt8) : Bk.Zs (Bk.zero w n b) := fun d hd v hv => by
 unfold Bk.zero at hd
 obtain ⟨i, _, rfl⟩ := List.mem_map.1 hd
 rw [List.eq_of_mem_replicate hv]
 unfold Kn.Z
 exact Nat.zero_le _
structure Bk.Pm (q k : Nat) (w : World) (R : Nat → Option Addr × Nat × Nat) (A : List Dd.D) : Prop where
 row : w.rowIs q 41 (A.length * 2) (Bk.mx A R)
 rows : ∀ j d, j < k → A[j]? = some d → ∃ g, R j = (some ⟨g, 0, none⟩, d.row.length, d.row.length) ∧ q < g ∧ Cl.Row w g d.row.length (fun k => d.row.getD k Cl.nul)
 sep : ∀ j l, j < k → l < k → j < A.length → l < A.length → j ≠ l → ∀ g, (R j).1 = some ⟨g, 0, none⟩ → (R l).1 ≠ some ⟨g, 0, none⟩
theorem Bk.Pm.done {q k : Nat} {w : World} {R : Nat → Option Addr × Nat × Nat} {A : List Dd.D} (h : Bk.Pm q k w R A) (hk : k = A.length) : Bk.Mx q w R A :=
 ⟨h.row, fun j d hd => h.rows j d (by rw [hk]; exact (List.getElem?_eq_some_iff.1 hd).1) hd, fun j l hj hl hn => h.sep j l (by omega) (by omega) hj hl hn⟩
theorem Bk.Pm.made (w : World) (n : Nat) : Bk.Pm w.heap.size 0 (w.alloc (.cells (madeCells #[.bool false, .slice none 0 0] (n * 2)) 41)) (fun _ => (none, 0, 0)) ((List.range n).map fun _ => Bk.nod) := by
 have hl : ((List.range n).map fun _ => Bk.nod).length = n := by simp
 refine ⟨?_, fun j d hj => by omega, fun j l hj => by omega⟩
 rw [hl]
 refine ⟨_, Go.Deep.blk_alloc_new _ _, size_madeCells _ _, fun i hi => ?_⟩
 unfold madeCells
 rw [Array.getElem?_map, Array.getElem?_range, if_pos hi]
 unfold Bk.mx
 have hg : (((List.range n).map fun _ => Bk.nod).getD (i / 2) Bk.nod).gone = false := by
  rw [List.getD_eq_getElem?_getD, List.getElem?_map, List.getElem?_range (by omega)]
  rfl
 rw [hg]
 have h2 : i % 2 = 0 ∨ i % 2 = 1 := by omega
 rcases h2 with h | h <;> simp [h, Bk.sv]
theorem Bk.Pm.step {q k : Nat} {w : World} {R : Nat → Option Addr × Nat × Nat} {A : List Dd.D} (h : Bk.Pm q k w R A) (hk : k < A.length) (gd : Bool) (m : Nat) :
 Bk.Pm q (k + 1) (((w.alloc (.cells (madeCells #[.bool false, .int .i64 0, .string ⟨#[]⟩] (m * 3)) 33)).setCell ⟨q, k * 2, none⟩ (.bool gd)).setCell ⟨q, k * 2 + 1, none⟩ (.slice (some ⟨w.heap.size, 0, none⟩) m m))
  (fun i => if i = k then (some ⟨w.heap.size, 0, none⟩, m, m) else R i) (A.set k ⟨gd, List.replicate m (Cl.ofN 0)⟩) := by
 have hq := h.row.lt
 have hal : Below w.heap.size w (w.alloc (.cells (madeCells #[.bool false, .int .i64 0, .string ⟨#[]⟩] (m * 3)) 33)) := (Below.refl _ _).alloc (Nat.le_refl _) _
 have hnew := Cl.Row.made w m
 have hrow := h.row.of_block (hal.block q hq)
 generalize w.alloc (.cells (madeCells #[.bool false, .int .i64 0, .string ⟨#[]⟩] (m * 3)) 33) = w1 at hal hnew hrow ⊢
 have hoth : ∀ g, g ≠ q → ((w1.setCell ⟨q, k * 2, none⟩ (.bool gd)).setCell ⟨q, k * 2 + 1, none⟩ (.slice (some ⟨w.heap.size, 0, none⟩) m m)).heap[g]? = w1.heap[g]? := fun g hg =>
  (Below.heap_setCell _ _ _ _ hg).trans (Below.heap_setCell _ _ _ _ hg)
 refine ⟨?_, fun j d hj hd => ?_, fun j l hj hl hja hla hn g hg => ?_⟩
 ·rw [List.length_set]
  refine World.rowIs.congr (World.rowIs.set (World.rowIs.set hrow (k * 2) (.bool gd)) (k * 2 + 1) (.slice (some ⟨w.heap.size, 0, none⟩) m m)) fun i hi => ?_
  unfold Bk.mx
  by_cases e : i = k * 2 + 1
  ·subst e
   rw [if_pos rfl, if_neg (by omega)]
   dsimp only
   rw [if_pos (by omega)]
   rfl
  ·rw [if_neg e]
   by_cases e1 : i = k * 2
   ·subst e1
    rw [if_pos rfl, if_pos (by omega), show k * 2 / 2 = k by omega, List.getD_eq_getElem?_getD, List.getElem?_set_self hk]
    rfl
   ·rw [if_neg e1]
    by_cases e2 : i % 2 = 0
    ·rw [if_pos e2, if_pos e2]
     simp only [List.getD_eq_getElem?_getD, List.getElem?_set]
     rw [if_neg (by omega)]
    ·rw [if_neg e2, if_neg e2]
     dsimp only
     rw [if_neg (by omega)]
 ·rw [List.getElem?_set] at hd
  by_cases e : k = j
  ·subst e
   rw [if_pos rfl, if_pos hk] at hd
   obtain rfl := Option.some.inj hd
   refine ⟨w.heap.size, by simp only [if_pos, List.length_replicate], hq, ?_⟩
   simp only [List.length_replicate]
   refine Cl.Row.congr (World.rowIs.of_block hnew (hoth _ (by omega))) fun i hi => ?_
   rw [List.getD_eq_getElem?_getD, List.getElem?_replicate, if_pos hi]
   rfl
  ·rw [if_neg e] at hd
   obtain ⟨g, f1, f2, f3⟩ := h.rows j d (by omega) hd
   refine ⟨g, by simp only [if_neg (show ¬ j = k by omega)]; exact f1, f2, ?_⟩
   exact World.rowIs.of_block f3 ((hoth g (by omega)).trans (hal.block g f3.lt))
 ·rw [List.length_set] at hja hla
  have hold : ∀ i, i < k → ∀ g, (R i).1 = some ⟨g, 0, none⟩ → i < A.length → g < w.heap.size := fun i hi g hg hia => by
   obtain ⟨g', f1, _, f3⟩ := h.rows i A[i] hi (List.getElem?_eq_getElem hia)
   rw [f1] at hg
   obtain rfl : g' = g := by simpa using hg
   exact f3.lt
  by_cases ej : j = k
  ·simp only [if_pos ej, Option.some.injEq, Addr.mk.injEq, and_true] at hg
   simp only [if_neg (show ¬ l = k by omega)]
   intro h2
   have := hold l (by omega) g h2 hla
   omega
  ·simp only [if_neg ej] at hg
   by_cases el : l = k
   ·simp only [if_pos el]
    intro h2
    simp only [Option.some.injEq, Addr.mk.injEq, and_true] at h2
    have := hold j (by omega) g hg hja
    omega
   ·simp only [if_neg el]
    exact h.sep j l (by omega) (by omega) hja hla hn g hg
theorem Bk.Pm.lt {q k : Nat} {w : World} {R : Nat → Option Addr × Nat × Nat} {A : List Dd.D} (h : Bk.Pm q k w R A) : q < w.heap.size := h.row.lt
theorem Bk.run_makeD (n : Nat) (hn : n ≤ 8) (w : World) : (Instr.makeSlice 23 (.int .i64 (n : Int)) (.int .i64 (n : Int))).run Tryz.prog w = .ok (.slice (some ⟨w.heap.size, 0, none⟩) n n) (w.alloc (.cells (madeCells #[.bool false, .slice none 0 0] (n * 2)) 41)) := by
 obtain ⟨i0, hi, hz0, hz1, hz2⟩ := info_parts (show (Tryz.prog.info? 41).map (fun i => (i.zero, i.size, i.bytes)) = some (some (.agg #[.bool false, .slice none 0 0]), 2, 32) by kernel_rfl)
 have := Go.run_make (P := Tryz.prog) w 23 41 i0 _ Tryz.underlying23 hi hz0 .i64 .i64 n n (by omega) (Int.le_refl _) (by rw [hz2]; omega) (by omega)
 rw [hz1, Int.toNat_natCast] at this
 exact this
theorem Bk.run_makeR (n : Nat) (hn : n ≤ 8) (w : World) : (Instr.makeSlice 39 (.int .i64 (n : Int)) (.int .i64 (n : Int))).run Tryz.prog w = .ok (.slice (some ⟨w.heap.size, 0, none⟩) n n) (w.alloc (.cells (madeCells #[.bool false, .int .i64 0, .string ⟨#[]⟩] (n * 3)) 33)) := by
 obtain ⟨i0, hi, hz0, hz1, hz2⟩ := info_parts Cl.infoV
 have := Go.run_make (P := Tryz.prog) w 39 33 i0 _ Tryz.underlying39 hi hz0 .i64 .i64 n n (by omega) (Int.le_refl _) (by rw [hz2]; omega) (by omega)
 rw [hz1, Int.toNat_natCast] at this
 exact this
def Bk.Dsd (r b : Nat) (w0 : World) (X : List Dd.D × Dd.St) (e : Ending) (w' : World) : Prop :=
 ∃ q R, e = .returned (.slice (some ⟨q, 0, none⟩) X.1.length X.1.length) ∧ Bk.Rdr r b w' X.2 ∧ Bk.Mx q w' R X.1 ∧ Below w0.heap.size w0 w' ∧ w0.heap.size ≤ q
end Go.Proofs.YtbelkhkllneifaaGreatDoor

namespace Go.Proofs.YtbelkhkllneifaaGreatDoor
open Go.RowKit
open Ty (num txt)
set_option maxHeartbeats 8000000 in
set_option maxRecDepth 100000 in
theorem Bk.deeds_c (r b : Nat) (st : Dd.St) (vs : Value) (s : List Kn.C) (w0 w : World) (h : Bk.Rdr r b w st) (hs : Kn.Cols w0 vs s) (hw : Below w0.heap.size w0 w) (hr : w0.heap.size ≤ r) (hb : w0.heap.size ≤ b) (hl : 1 ≤ s.length ∧ s.length ≤ 6) (hn : (Bk.stG st).1 ≤ 8) :
 Calls Tryz.prog 114 #[.pointer (some ⟨r, 0, none⟩), vs] w (Bk.Dsd r b w0 (Bk.stD 0 s (Bk.zero s.length (Bk.stG st).1 (Bk.stG st).2.1) (Bk.stG st).2.2)) := by
 obtain ⟨X, hX⟩ : ∃ X, X = Bk.stD 0 s (Bk.zero s.length (Bk.stG st).1 (Bk.stG st).2.1) (Bk.stG st).2.2 := ⟨_, rfl⟩
 rw [← hX]
 have HX := Lib.hid hX
 have HS := Lib.hid hs
 have HL := Lib.hid hl
 have HRB := Lib.hid (And.intro hr hb)
 have HW := Lib.hid hw
 have cf := Bk.rflags_c r b st w h
 have CWD := Lib.hid fun (g : Bool) (wz : World) (hz : Kn.Cols wz vs s) => Bk.width_c vs s g wz hz
 obtain ⟨sa, sc, rfl, hsc⟩ := hs
 have HSC := Lib.hid hsc
 unfold Bk.Flg at cf
 clear hX hl hsc h
 generalize Bk.stG st = G at cf hn HX
 obtain ⟨n, b8, s1⟩ := G
 simp only at cf hn HX
 have hmk := Bk.run_makeD n hn
 have HN := Lib.hid hn
 go_enter Tryz.func114, Tryz.ntmps114
 go_wp2_with fail
 with_reducible refine cf.mono ?_
 rintro e w1 ⟨u, rfl, hSl, hR1, hB1⟩
 have HB1 := Lib.hid (HW.out.trans (hB1 _ HRB.out.1 HRB.out.2 HW.out.size))
 have HR1 := Lib.hid hR1
 obtain ⟨ua, uc, rfl, hua⟩ := hSl
 have HUA := Lib.hid hua
 clear cf hR1 hB1 hua hw hr hb
 go_wp2_with fail
 have hP := Bk.Pm.made w1 n
 rw [← Bk.zk_zero s.length n b8] at hP
 have hal : Below w1.heap.size w1 (w1.alloc (.cells (madeCells #[.bool false, .slice none 0 0] (n * 2)) 41)) := (Below.refl _ w1).alloc (Nat.le_refl _) _
 generalize w1.alloc _ = w2 at hP hal ⊢
 obtain ⟨q, hq⟩ : ∃ q, q = w1.heap.size := ⟨_, rfl⟩
 rw [← hq] at hP ⊢
 have HQ : Hid (r < q ∧ b < q ∧ w0.heap.size ≤ q) := Lib.hid (by have h1 := HR1.out.lt; have h2 := HB1.out.size; rw [hq]; exact ⟨h1.1, h1.2, h2⟩)
 have HP := Lib.hid hP
 have HAL : Hid (Below q w1 w2) := Lib.hid (by rw [hq]; exact hal)
 have HQE := Lib.hid hq
 clear hmk hP hal hq hn
 go_loopw [17] (fun i wr => ∃ (k : Nat) (R : Nat → Option Addr × Nat × Nat), k ≤ n ∧ i = .int .i64 k ∧ Bk.Pm q k wr R (Bk.zk s.length n b8 k) ∧ Below q w1 wr) (fun i _ => n - (intOf i).toNat)
 case atStart => exact ⟨0, _, Nat.zero_le _, rfl, HP.out, HAL.out⟩
 case round =>
  obtain ⟨k, R, hk, rfl, hP, hB⟩ := hrel
  have HPk := Lib.hid hP
  have HB := Lib.hid hB
  clear hP hB
  by_cases hkn : k < n
  ·rcases HUA.out with h0 | ⟨gb, go, rfl, hgb, hc⟩
   ·omega
   ·have c0 : w1.cell? ⟨gb, go + k, none⟩ = some (.bool (b8.toNat.testBit k)) := hc k hkn
    have hgq : gb < q := by rw [HQE.out]; exact hgb
    have hwr : q ≤ wr.heap.size := Nat.le_of_lt HPk.out.lt
    have hkl : (k : Int) < (n : Int) := by omega
    have hk0 : (0 : Int) ≤ (k : Int) := by omega
    have hk7 : (k : Int) ≤ 7 := by have := HN.out; omega
    have HPD : Hid (Bk.Pm q k wr.drew R (Bk.zk s.length n b8 k)) := Lib.hid ⟨HPk.out.row, HPk.out.rows, HPk.out.sep⟩
    have HPS := Lib.hid (HPk.out.step (show k < (Bk.zk s.length n b8 k).length by rw [Bk.zk_len]; exact hkn) (b8.toNat.testBit k) (Bk.wdt s.length (b8.toNat.testBit k)))
    rw [Bk.zk_step b8 hkn] at HPS
    have hz := HPk.out.row
    rw [Bk.zk_len] at hz
    have q0 := hz.cell (show k * 2 < n * 2 by omega)
    have q1 := hz.cell (show k * 2 + 1 < n * 2 by omega)
    have z0 := hz.frozen (k * 2)
    have z1 := hz.frozen (k * 2 + 1)
    have HQ0 : Hid (∀ W, Below wr.heap.size wr W → ∃ x y, W.cell? ⟨q, k * 2, none⟩ = some x ∧ W.cell? ⟨q, k * 2 + 1, none⟩ = some y ∧ W.frozen? ⟨q, k * 2, none⟩ = false ∧ W.frozen? ⟨q, k * 2 + 1, none⟩ = false) := Lib.hid fun W g =>
     ⟨_, _, (g.cell (p := ⟨q, k * 2, none⟩) HPk.out.lt).trans q0, (g.cell (p := ⟨q, k * 2 + 1, none⟩) HPk.out.lt).trans q1, (g.frozen (p := ⟨q, k * 2, none⟩) HPk.out.lt).trans z0, (g.frozen (p := ⟨q, k * 2 + 1, none⟩) HPk.out.lt).trans z1⟩
    have c1 := (HB.out.cell (p := ⟨gb, go + k, none⟩) hgq).trans c0
    have CW2 := Lib.hid fun (wz : World) (hz : Kn.Cols wz (.slice sa s.length sc) s) => CWD.out (b8.toNat.testBit k) wz hz
    have hmk := Bk.run_makeR (Bk.wdt s.length (b8.toNat.testBit k)) (by unfold Bk.wdt; have := HL.out; split <;> omega)
    have hwd : Bk.wd s (b8.toNat.testBit k) = Bk.wdt s.length (b8.toNat.testBit k) := rfl
    rw [hwd] at CW2
    generalize Bk.wdt s.length (b8.toNat.testBit k) = m at HPS CW2 hmk
    generalize b8.toNat.testBit k = gd at c0 c1 HPS CW2
    have HDW : Hid (Below wr.heap.size wr wr.drew) := Lib.hid (Bt.drewN_below wr 1)
    have HSD : Hid (Kn.Cols wr.drew (.slice sa s.length sc) s) := Lib.hid (HS.out.later ((HB1.out.trans (HB.out.mono HQ.out.2.2)).trans (HDW.out.mono (by have := HQ.out.2.2; omega))))
    have HK := Lib.hid hkn
    have HBD : Hid (Below q w1 wr.drew) := Lib.hid (HB.out.trans (HDW.out.mono hwr))
    have HHS : Hid (∀ W, Below q w1 W → W.cell? ⟨gb, go + k, none⟩ = some (.bool gd)) := Lib.hid fun W g => (g.cell (p := ⟨gb, go + k, none⟩) hgq).trans c0
    have HBC : Hid (Below q w1 (wr.alloc (.cells (madeCells #[.bool false, .int .i64 0, .string ⟨#[]⟩] (m * 3)) 33))) := Lib.hid (HB.out.alloc hwr _)
    obtain ⟨x, y, q0, q1, z0, z1⟩ := HQ0.out (wr.alloc (.cells (madeCells #[.bool false, .int .i64 0, .string ⟨#[]⟩] (m * 3)) 33)) ((Below.refl _ _).alloc (Nat.le_refl _) _)
    have y0 : (wr.alloc (.cells (madeCells #[.bool false, .int .i64 0, .string ⟨#[]⟩] (m * 3)) 33)).drew.cell? ⟨q, k * 2, none⟩ = some x := q0
    have y1 : (wr.alloc (.cells (madeCells #[.bool false, .int .i64 0, .string ⟨#[]⟩] (m * 3)) 33)).drew.cell? ⟨q, k * 2 + 1, none⟩ = some y := q1
    have y2 : (wr.alloc (.cells (madeCells #[.bool false, .int .i64 0, .string ⟨#[]⟩] (m * 3)) 33)).drew.frozen? ⟨q, k * 2, none⟩ = false := z0
    have y3 : (wr.alloc (.cells (madeCells #[.bool false, .int .i64 0, .string ⟨#[]⟩] (m * 3)) 33)).drew.frozen? ⟨q, k * 2 + 1, none⟩ = false := z1
    have HBS : Hid (Below q w1 (((wr.alloc (.cells (madeCells #[.bool false, .int .i64 0, .string ⟨#[]⟩] (m * 3)) 33)).setCell ⟨q, k * 2, none⟩ (.bool gd)).setCell ⟨q, k * 2 + 1, none⟩ (.slice (some ⟨wr.heap.size, 0, none⟩) m m)).drew) := Lib.hid (Cl.below_cell (Cl.below_cell HBC.out (Nat.le_refl _) _) (Nat.le_refl _) _).drew
    have HPR : Hid (Bk.Pm q (k + 1) (((wr.alloc (.cells (madeCells #[.bool false, .int .i64 0, .string ⟨#[]⟩] (m * 3)) 33)).setCell ⟨q, k * 2, none⟩ (.bool gd)).setCell ⟨q, k * 2 + 1, none⟩ (.slice (some ⟨wr.heap.size, 0, none⟩) m m)).drew _ (Bk.zk s.length n b8 (k + 1))) := Lib.hid ⟨HPS.out.row, HPS.out.rows, HPS.out.sep⟩
    clear c0 hz hwd hc hk hkn HPk HB HPD HQ0 HDW hwr
    go_upto_region 6 with (fail)
    have d1 := HHS.out _ HBD.out
    have d2 := HHS.out _ HBC.out
    go_region_law (first
     | (go_simp; go_at_call 139; (with_reducible refine (CW2.out _ HSD.out).mono ?_); rintro e w5 ⟨rfl, rfl⟩))
    all_goals
     go_wp2
     go_roundw
     case rel => exact ⟨k + 1, _, HK.out, by simp, HPR.out, HBS.out⟩
     case measure => (have := HK.out; simp [intOf]; omega)
  ·obtain rfl : k = n := by omega
   have hkl : ¬ (k : Int) < (k : Int) := by omega
   have HMX := Lib.hid (HPk.out.done (Bk.zk_len ..).symm)
   rw [Bk.zk_done] at HMX
   have HAl : Hid ((Bk.zero s.length k b8).length = k) := Lib.hid (Bk.zero_len ..)
   have HAw := Lib.hid (Bk.zero_wide s.length k b8)
   have HBw := Lib.hid (HB1.out.trans (HB.out.mono HQ.out.2.2))
   have HRw : Hid (Bk.Rdr r b wr s1) := Lib.hid (HR1.out.same (Nat.le_trans (by rw [← HQE.out]; exact Nat.le_refl _) (Nat.le_of_lt HPk.out.lt)) (fun j hj => HB.out.block j (by have := HR1.out.gr; have := HQ.out.1; omega)) (HB.out.block r HQ.out.1) (HB.out.block b HQ.out.2.1))
   generalize Bk.zero s.length k b8 = A0 at HMX HAl HAw HX
   clear hkn hk HPk
   go_wp2_with fail
   clear hkl
   go_loopw [38] (fun i wr2 => ∃ (j : Nat) (A : List Dd.D) (t : Dd.St), j ≤ s.length ∧ i = .int .i64 j ∧ Bk.stD 0 s A0 s1 = Bk.stD j (s.drop j) A t ∧ Bk.Rdr r b wr2 t ∧ Bk.Mx q wr2 R A ∧ A.length = k ∧ Bk.Wide s.length A ∧ Below w0.heap.size w0 wr2) (fun i _ => s.length - (intOf i).toNat)
   case atStart => exact ⟨0, A0, s1, Nat.zero_le _, rfl, rfl, HRw.out, HMX.out, HAl.out, HAw.out, HBw.out⟩
   case round =>
    obtain ⟨j, A, t, hj, rfl, hD, hR, hM, hA, hAw, hB⟩ := hrel
    have HD := Lib.hid hD
    have HR2 := Lib.hid hR
    have HM2 := Lib.hid hM
    have HA := Lib.hid hA
    have HW2 := Lib.hid hAw
    have HB2 := Lib.hid hB
    clear hD hR hM hA hAw hB HRw HMX HBw
    by_cases hjl : j < s.length
    ·rcases HSC.out with rfl | ⟨b9, o9, rfl, hbl, hm9, hc9⟩
     ·simp at hjl
     ·have hx := List.getElem?_eq_getElem hjl
      generalize s[j] = cc at hx
      have c0 := (HB2.out.cell (p := ⟨b9, o9 + j * 2, none⟩) hbl).trans (hc9 j cc hx).1
      have c1 := (HB2.out.cell (p := ⟨b9, o9 + j * 2 + 1, none⟩) hbl).trans (hc9 j cc hx).2
      have dj : (j : Int) < (s.length : Int) := by omega
      have dj0 : (0 : Int) ≤ (j : Int) := by omega
      have dj6 : (j : Int) ≤ 6 := by have := HL.out; omega
      have HN2 := Lib.hid (HD.out.trans (Bk.stD_next hx A t))
      have CC := Lib.hid fun (wz : World) (h1 : Bk.Rdr r b wz t) (h2 : Bk.Mx q wz R A) => Bk.column_c r b q t cc A j s.length R wz h1 h2 (by rw [HA.out]; exact HN.out) HW2.out hjl HL.out.2 HQ.out.1 HQ.out.2.1
      have HSL : Hid ((Bk.stC cc j A t).1.length = k) := Lib.hid ((Bk.stC_len ..).trans HA.out)
      have HSW := Lib.hid (Bk.stC_wide (c := cc) (i := j) (s := t) HW2.out)
      rw [HA.out] at CC
      unfold Bk.Cld Kn.C.val at CC
      generalize Bk.stC cc j A t = Y at CC HN2 HSL HSW
      generalize cc.k = ck at c0 CC
      generalize cc.null = cn at c1 CC
      have HK := Lib.hid hjl
      clear hc9 hm9 hx hjl hj hbl
      go_upto_region 11 with (fail)
      have HBX : Hid (Below wr.heap.size wr (wr.alloc (.cells #[.int .i64 ck, .bool cn] 76))) := Lib.hid ((Below.refl _ _).alloc (Nat.le_refl _) _)
      have x0 := Kn.cell_new wr #[.int .i64 ck, .bool cn] 76 0 _ rfl
      have x1 := Kn.cell_new wr #[.int .i64 ck, .bool cn] 76 1 _ rfl
      simp only [List.getElem_toArray, List.getElem_cons_zero, List.getElem_cons_succ] at x0 x1
      obtain ⟨p, hp⟩ : ∃ p, p = wr.heap.size := ⟨_, rfl⟩
      rw [← hp] at x0 x1 ⊢
      generalize wr.alloc _ = w8 at HBX x0 x1 ⊢
      have cc8 := CC.out w8 (HR2.out.kept HBX.out) (HM2.out.kept HBX.out)
      have HB8 := Lib.hid (HB2.out.trans (HBX.out.mono HB2.out.size))
      clear hp c0 c1
      go_wp2_with fail
      with_reducible refine cc8.mono ?_
      rintro e w9 ⟨rfl, hR9, hM9, hB9⟩
      have HR9 := Lib.hid hR9
      have HM9 := Lib.hid hM9
      have HB9 := Lib.hid (HB8.out.trans (hB9 _ HRB.out.1 HRB.out.2))
      clear cc8 hR9 hM9 hB9 x0 x1
      go_wp2
      go_roundw
      case rel => exact ⟨j + 1, Y.1, Y.2, HK.out, by simp, HN2.out, HR9.out, HM9.out, HSL.out, HSW.out, HB9.out⟩
      case measure => (have := HK.out; simp [intOf]; omega)
    ·obtain rfl : j = s.length := by omega
     have dj : ¬ (s.length : Int) < (s.length : Int) := by omega
     have HE := Lib.hid (HX.out.trans (HD.out.trans (Bk.stD_end rfl A t)))
     clear hj hjl
     go_wp2
     go_ret
     exact ⟨q, R, by rw [HE.out]; show _ = Ending.returned (.slice (some ⟨q, 0, none⟩) A.length A.length); rw [HA.out]; rfl, by rw [HE.out]; exact HR2.out, by rw [HE.out]; exact HM2.out, HB2.out, HQ.out.2.2⟩
end Go.Proofs.YtbelkhkllneifaaGreatDoor

namespace Go.Proofs.YtbelkhkllneifaaGreatDoor
open Go.RowKit
set_option maxHeartbeats 4000000 in
set_option maxRecDepth 100000 in
theorem Bk.psorted_c (v : Value) (L : List Dd.D) (w : World) (hv : Bk.Ds w v L) (hz : Bk.Zs L) : Calls Tryz.prog 35 #[v] w fun e w' => e = .returned (.bool (Bk.sorted L)) ∧ Below w.heap.size w w' := by
 obtain ⟨a, c, rfl, hlc, hcm, h⟩ := hv
 have HH := Lib.hid h
 have HZ := Lib.hid hz
 clear h hz
 generalize hB : Bk.sorted L = B
 have HB := Lib.hid hB
 clear hB
 go_enter Tryz.func35, Tryz.ntmps35
 go_wp2_with fail
 go_loopw [7] (fun i wr => ∃ k : Nat, k ≤ L.length ∧ i = .int .i64 k ∧ (∀ j, j < k → Bk.step L j = true) ∧ Below w.heap.size w wr) (fun i _ => L.length - (intOf i).toNat)
 case atStart => exact ⟨0, Nat.zero_le _, rfl, (fun j hj => by omega), Below.refl _ _⟩
 case round =>
  obtain ⟨k, hk, rfl, hs, hg⟩ := hrel
  have HS := Lib.hid hs
  have HG := Lib.hid hg
  clear hs
  by_cases hkl : k < L.length
  ·rcases HH.out with rfl | ⟨b, o, rfl, hlt, hc⟩
   ·simp at hkl
   ·have hx := List.getElem?_eq_getElem hkl
    have hm := List.getElem_mem hkl
    generalize L[k] = d at hx hm
    obtain ⟨u, c0, c1, hu⟩ := hc k d hx
    have hu := hu.later hg
    have c0 := (hg.cell (p := ⟨b, o + k * 2, none⟩) hlt).trans c0
    have c1 := (hg.cell (p := ⟨b, o + k * 2 + 1, none⟩) hlt).trans c1
    have dk : (k : Int) < (L.length : Int) := by omega
    have dk0 : (0 : Int) ≤ (k : Int) := by omega
    have HK := Lib.hid hkl
    have HX := Lib.hid hx
    have HC := Lib.hid hc
    have HU := Lib.hid hu
    have hlw : b < wr.heap.size := Nat.lt_of_lt_of_le hlt hg.size
    have HLW := Lib.hid hlw
    obtain ⟨ua, uc, rfl, huc⟩ := hu
    have HUC := Lib.hid huc
    clear hc hx hkl hk huc hlw
    go_upto_region 4 with (fail)
    have HB1 : Hid (Below wr.heap.size wr (wr.alloc (.cells #[.bool d.gone, .slice ua d.row.length uc] 41))) := Lib.hid ((Below.refl _ _).alloc (Nat.le_refl _) _)
    have x1 := Kn.cell_new wr #[.bool d.gone, .slice ua d.row.length uc] 41 1 _ rfl
    simp only [List.getElem_toArray, List.getElem_cons_zero, List.getElem_cons_succ] at x1
    obtain ⟨q, hq⟩ : ∃ q, q = wr.heap.size := ⟨_, rfl⟩
    rw [← hq] at x1 ⊢
    clear hq c0 c1
    generalize wr.alloc _ = w1 at HB1 x1 ⊢
    have HG1 := Lib.hid (HG.out.trans (HB1.out.mono HG.out.size))
    by_cases he : d.row = []
    ·have HE := Lib.hid (Bk.sorted_no HK.out (Bk.step_empty HX.out he))
     obtain rfl : B = false := HB.out.symm.trans HE.out
     rw [he] at x1
     simp only [List.length_nil] at x1
     clear he hm
     go_wp2
     go_ret
     exact ⟨rfl, HG1.out⟩
    ·have hz0 : ((d.row.length : Int) == 0) = false := by
      rw [beq_eq_false_iff_ne]
      have := List.length_pos_iff.2 he
      omega
     rcases HUC.out with h0 | ⟨b2, o2, rfl, hlt2, hm2, hcc⟩
     ·exact absurd h0 he
     ·have hp0 : 0 < d.row.length := List.length_pos_iff.2 he
      have hx0 := List.getElem?_eq_getElem hp0
      have hzx := HZ.out d hm _ (List.getElem_mem hp0)
      generalize d.row[0] = x at hx0 hzx
      obtain ⟨e0, e1, e2⟩ := hcc 0 x hx0
      simp only [Nat.zero_mul, Nat.add_zero] at e0 e1 e2
      have e0 := (HB1.out.cell (p := ⟨b2, o2, none⟩) hlt2).trans e0
      have e1 := (HB1.out.cell (p := ⟨b2, o2 + 1, none⟩) hlt2).trans e1
      have e2 := (HB1.out.cell (p := ⟨b2, o2 + 2, none⟩) hlt2).trans e2
      have HE := Lib.hid he
      have hp1 : (0 : Int) < (d.row.length : Int) := by omega
      go_upto_region 6 with (fail)
      have X1 := fun d os => cell_regrown x1 d os
      have E0 := fun d os => cell_regrown e0 d os
      have E1 := fun d os => cell_regrown e1 d os
      have E2 := fun d os => cell_regrown e2 d os
      clear x1
      cases k with
      | zero =>
        have HF := Lib.hid (Bk.step_first HX.out he)
        clear hcc e0 e1 e2 hm hzx hp0 he
        refine wp_region_quiet_below (by kernel_rfl) (by kernel_rfl) ?_
        repeat (go_big_quiet_step (fail))
        refine wpQuiet_nil ?_
        intro _ hw'
        have HG2 := Lib.hid (HG1.out.trans ((Bk.below_reg hw').mono HG1.out.size))
        go_wp2
        go_roundw
        case rel => exact ⟨1, HK.out, by simp, (fun j hj => by obtain rfl : j = 0 := (by omega); exact HF.out), HG2.out⟩
        case measure => (have := HK.out; simp [intOf]; omega)
      | succ j =>
        have hjl : j < L.length := by have := HK.out; omega
        have hy := List.getElem?_eq_getElem hjl
        have hmy := List.getElem_mem hjl
        generalize L[j] = p at hy hmy
        obtain ⟨u2, d0, d1, hu2⟩ := HC.out j p hy
        have hu2 := hu2.later HG1.out
        have d1 := (HG1.out.cell (p := ⟨b, o + j * 2 + 1, none⟩) hlt).trans d1
        have hpe := Bk.step_row hy (HS.out j (by omega))
        obtain ⟨ua2, uc2, rfl, huc2⟩ := hu2
        rcases huc2 with h0 | ⟨b3, o3, rfl, hlt3, hm3, hcc3⟩
        ·exact absurd h0 hpe
        ·have hq0 : 0 < p.row.length := List.length_pos_iff.2 hpe
         have hy0 := List.getElem?_eq_getElem hq0
         have hzy := HZ.out p hmy _ (List.getElem_mem hq0)
         generalize p.row[0] = y at hy0 hzy
         obtain ⟨g0, g1, g2⟩ := hcc3 0 y hy0
         simp only [Nat.zero_mul, Nat.add_zero] at g0 g1 g2
         have G0 := fun d os => cell_regrown g0 d os
         have G1 := fun d os => cell_regrown g1 d os
         have G2 := fun d os => cell_regrown g2 d os
         have D1 := fun d os => cell_regrown d1 d os
         have HF := Lib.hid (Bk.step_next HX.out hy hx0 hy0)
         have cA := Kn.compare_c y x
         generalize Kn.cmp y x = z at HF cA
         unfold Kn.V.val at cA
         have CA : Hid (∀ p : Regrown, _) := Lib.hid fun p : Regrown => Calls.regrown_of (d := p.d) (os := p.os) (w := w1) (cA _)
         have hq1 : (0 : Int) < (p.row.length : Int) := by omega
         have hwr : IntKind.i64.wrap ((j : Int) + 1 - 1) = (j : Int) := by rw [IntKind.wrap_i64]; omega
         have hwr2 : IntKind.i64.wrap (j : Int) = (j : Int) := by rw [IntKind.wrap_i64]; omega
         have dj : (j : Int) < (L.length : Int) := by omega
         have dj0 : (0 : Int) ≤ (j : Int) := by omega
         have dj1 : (0 : Int) < (j : Int) + 1 := by omega
         simp only [Int.natCast_add, Int.natCast_one] at dk dk0
         have HJ := Lib.hid hjl
         clear hcc hcc3 e0 e1 e2 g0 g1 g2 d0 d1 hm hmy hzx hzy hp0 hq0 he hpe hy hx0 hy0 cA hjl
         by_cases hz9 : (0 : Int) ≤ z
         ·have hzf : decide (z < 0) = false := decide_eq_false (by omega)
          have hzb : decide ((0 : Int) ≤ z) = true := decide_eq_true hz9
          obtain rfl : B = false := HB.out.symm.trans (Bk.sorted_no HK.out (HF.out.trans hzf))
          clear hzf
          refine wp_region_quiet_below (by kernel_rfl) (by kernel_rfl) ?_
          repeat (go_big_quiet_step (first | with_reducible exact CA.out _))
          refine wpQuiet_nil ?_
          intro _ hw'
          have HG2 := Lib.hid (HG1.out.trans ((Bk.below_reg hw').mono HG1.out.size))
          go_wp2
          go_ret
          exact ⟨rfl, HG2.out⟩
         ·have hzt := Lib.hid (HF.out.trans (decide_eq_true (show z < 0 by omega)))
          have hzb : decide ((0 : Int) ≤ z) = false := decide_eq_false hz9
          refine wp_region_quiet_below (by kernel_rfl) (by kernel_rfl) ?_
          repeat (go_big_quiet_step (first | with_reducible exact CA.out _))
          refine wpQuiet_nil ?_
          intro _ hw'
          have HG2 := Lib.hid (HG1.out.trans ((Bk.below_reg hw').mono HG1.out.size))
          go_wp2
          go_roundw
          case rel => exact ⟨j + 2, HK.out, by simp; omega, (fun i hi => by
           rcases Nat.lt_or_ge i (j + 1) with h | h
           ·exact HS.out i h
           ·obtain rfl : i = j + 1 := by omega
            exact hzt.out), HG2.out⟩
          case measure => (have := HK.out; simp [intOf]; omega)
  ·obtain rfl : k = L.length := by omega
   have dk : ¬ (L.length : Int) < (L.length : Int) := by omega
   have HY := Lib.hid (Bk.sorted_yes HS.out)
   obtain rfl : B = true := HB.out.symm.trans HY.out
   clear hkl hk
   go_wp2
   go_ret
   exact ⟨rfl, HG.out⟩
end Go.Proofs.YtbelkhkllneifaaGreatDoor

namespace Go.Proofs.YtbelkhkllneifaaGreatDoor
open Go.RowKit
open Ty (num txt)
theorem Bk.stG_le (s : Dd.St) : (Bk.stG s).1 ≤ 8 := by
 unfold Bk.stG
 split
 ·exact Nat.zero_le _
 ·rename_i h
  split
  ·simp only; omega
  ·exact Nat.zero_le _
theorem Bk.stD_all {w : Nat} : ∀ (cs : List Kn.C) (i : Nat) (A : List Dd.D) (s : Dd.St), Bk.Wide w A → Bk.Zs A → (Bk.stD i cs A s).1.length = A.length ∧ Bk.Wide w (Bk.stD i cs A s).1 ∧ Bk.Zs (Bk.stD i cs A s).1
 | [], _, _, _, h1, h2 => ⟨rfl, h1, h2⟩
 | c :: cs, i, A, s, h1, h2 => by
   obtain ⟨a1, a2, a3⟩ := Bk.stD_all cs (i + 1) (Bk.stC c i A s).1 (Bk.stC c i A s).2 (Bk.stC_wide h1) (Bk.stC_zs h2)
   exact ⟨a1.trans (Bk.stC_len ..), a2, a3⟩
theorem Bk.stR_all (s : List Kn.C) (l : List UInt8) : (Bk.stR s l).1.length ≤ 8 ∧ Bk.Wide s.length (Bk.stR s l).1 ∧ Bk.Zs (Bk.stR s l).1 := by
 obtain ⟨a1, a2, a3⟩ := Bk.stD_all s 0 (Bk.zero s.length (Bk.stG ⟨l, 0, false⟩).1 (Bk.stG ⟨l, 0, false⟩).2.1) (Bk.stG ⟨l, 0, false⟩).2.2 (w := s.length) (Bk.zero_wide s.length (Bk.stG ⟨l, 0, false⟩).1 (Bk.stG ⟨l, 0, false⟩).2.1) (Bk.zero_zs s.length (Bk.stG ⟨l, 0, false⟩).1 (Bk.stG ⟨l, 0, false⟩).2.1)
 refine ⟨?_, a2, a3⟩
 unfold Bk.stR
 rw [a1, Bk.zero_len]
 exact Bk.stG_le _
theorem Bk.rdr_new {w : World} {b : Nat} {l : List UInt8} (hc : Ty.Cur b w l 0) (hT : Ty.Tabs w) (hb : Ty.G ≤ b) (hl : l.length ≤ 140737488351232) : Bk.Rdr w.heap.size b (w.alloc (.cells #[.pointer (some ⟨b, 0, none⟩), .bool false] 167)) ⟨l, 0, false⟩ :=
 ⟨(((Below.refl w.heap.size w).alloc (Nat.le_refl _) _).block b hc.lt).trans hc, heap_alloc_new w _, by have := hc.lt; omega, hT.alloc _, hb, hT.two, hl⟩
def Bk.GotN (w : World) (r : Nat × List Dd.D) (e : Ending) (w' : World) : Prop :=
 ∃ v, e = .returned (.tuple #[v, .int .i64 ((r.1 : Nat) : Int)]) ∧ ((r.2 = [] ∧ v = .slice none 0 0) ∨ ∃ q R, v = .slice (some ⟨q, 0, none⟩) r.2.length r.2.length ∧ Bk.Mx q w' R r.2 ∧ w.heap.size ≤ q ∧ r.2.length ≤ 8 ∧ ∀ d ∈ r.2, d.row.length ≤ 6) ∧ Below w.heap.size w w'
theorem Bk.GotN.bad {w w' : World} {r : Nat × List Dd.D} {z : Int} {q : Nat} (hr : r = (q, [])) (hz : z = (q : Int)) (g : Below w.heap.size w w') : Bk.GotN w r (.returned (.tuple #[.slice none 0 0, .int .i64 z])) w' :=
 ⟨_, by rw [hr, hz], .inl ⟨by rw [hr], rfl⟩, g⟩
theorem Bk.GotN.good {w w' : World} {r : Nat × List Dd.D} {q : Nat} {R : Nat → Option Addr × Nat × Nat} {A : List Dd.D} (hr : r = (0, A)) (h : Bk.Mx q w' R A ∧ w.heap.size ≤ q) (h8 : A.length ≤ 8) (h6 : ∀ d ∈ A, d.row.length ≤ 6) (g : Below w.heap.size w w') : Bk.GotN w r (.returned (.tuple #[.slice (some ⟨q, 0, none⟩) A.length A.length, .int .i64 0])) w' := by
 subst hr
 exact ⟨_, rfl, .inr ⟨q, R, rfl, h.1, h.2, h8, h6⟩, g⟩
set_option maxHeartbeats 8000000 in
set_option maxRecDepth 100000 in
theorem Bk.pread_c (vs : Value) (s : List Kn.C) (t : ByteArray) (w : World) (hT : Ty.Tabs w) (hs : Kn.Cols w vs s) (ht : t.size ≤ 140737488351232) :
 Calls Tryz.prog 87 #[vs, .string t] w (Bk.GotN w (Bk.rd s t.data.toList)) := by
 obtain ⟨V, hV⟩ : ∃ V, V = Bk.rd s t.data.toList := ⟨_, rfl⟩
 rw [← hV]
 have HV := Lib.hid hV
 have HT := Lib.hid hT
 have HS := Lib.hid hs
 have cR := Kn.right_c vs s w hs
 have HLN : Hid (t.data.toList.length ≤ 140737488351232) := Lib.hid (by rw [Ty.length_data]; exact ht)
 have CFR := Lib.hid fun (wz : World) (h : Ty.Tabs wz) => Ty.from_f t.data.toList wz h
 rw [Ty.S_data] at CFR
 obtain ⟨sa, sc, rfl, -⟩ := hs
 clear hV hT ht
 cases hr : Kn.right s
 ·rw [hr] at cR
  have HE := Lib.hid (HV.out.trans (Bk.rd_k (l := t.data.toList) hr))
  clear hr
  go_enter Tryz.func87, Tryz.ntmps87
  go_wp2_with fail
  with_reducible refine cR.mono ?_
  rintro e w1 ⟨rfl, g1⟩
  have HG := Lib.hid g1
  clear g1
  go_wp2
  go_ret2
  exact Bk.GotN.bad HE.out rfl HG.out
 rw [hr] at cR
 obtain ⟨hx1, hx2⟩ := Bk.rd_st hr t.data.toList
 have HLN6 := Lib.hid (Kn.right_len hr)
 obtain ⟨ha1, ha2, ha3⟩ := Bk.stR_all s t.data.toList
 have HX1 := Lib.hid fun h => HV.out.trans (hx1 h)
 have HX2 := Lib.hid fun h1 h2 h3 => HV.out.trans (hx2 h1 h2 h3)
 have HA := Lib.hid (And.intro ha1 (And.intro ha2 ha3))
 have CD := Lib.hid fun (r b : Nat) (wz : World) (h1 : Bk.Rdr r b wz ⟨t.data.toList, 0, false⟩) (h2 : Below w.heap.size w wz) (h3 : w.heap.size ≤ r) (h4 : w.heap.size ≤ b) => Bk.deeds_c r b ⟨t.data.toList, 0, false⟩ (.slice sa s.length sc) s w wz h1 HS.out h2 h3 h4 HLN6.out (Bk.stG_le _)
 have HSTR : Hid (Bk.stD 0 s (Bk.zero s.length (Bk.stG ⟨t.data.toList, 0, false⟩).1 (Bk.stG ⟨t.data.toList, 0, false⟩).2.1) (Bk.stG ⟨t.data.toList, 0, false⟩).2.2 = Bk.stR s t.data.toList) := Lib.hid rfl
 simp only [HSTR.out] at CD
 have HRN := Lib.hid fun (wz : World) (b : Nat) (h1 : Ty.Cur b wz t.data.toList 0) (h2 : Ty.Tabs wz) (h3 : Ty.G ≤ b) => Bk.rdr_new h1 h2 h3 HLN.out
 generalize Bk.stR s t.data.toList = X at HX1 HX2 HA CD
 generalize t.data.toList = l at CFR CD HRN
 obtain ⟨A, u⟩ := X
 unfold Bk.Dsd at CD
 simp only at HX1 HX2 HA CD
 clear hx1 hx2 ha1 ha2 ha3 hr HSTR
 go_enter Tryz.func87, Tryz.ntmps87
 go_wp2_with fail
 with_reducible refine cR.mono ?_
 rintro e w1 ⟨rfl, g1⟩
 have HG1 := Lib.hid g1
 have cfr := CFR.out w1 (HT.out.below g1 HT.out.two)
 clear cR g1
 go_wp2_with fail
 with_reducible refine cfr.mono ?_
 rintro e w2 ⟨rfl, hc2, hT2, g2⟩
 have HB2 := Lib.hid (HG1.out.trans (Ty.below_none g2 HG1.out.size))
 have hbl : w.heap.size ≤ w1.heap.size := HG1.out.size
 have hb2 := hc2.lt
 have hrn := HRN.out w2 w1.heap.size hc2 hT2 (Nat.le_trans HT.out.two hbl)
 clear cfr hc2 hT2 g2
 go_upto_region 4 with (fail)
 obtain ⟨b, hb⟩ : ∃ b, b = w1.heap.size := ⟨_, rfl⟩
 rw [← hb] at hbl hb2 hrn ⊢
 have HB3 : Hid (Below w2.heap.size w2 (w2.alloc (.cells #[.pointer (some ⟨b, 0, none⟩), .bool false] 167))) := Lib.hid ((Below.refl _ _).alloc (Nat.le_refl _) _)
 obtain ⟨r, hr⟩ : ∃ r, r = w2.heap.size := ⟨_, rfl⟩
 rw [← hr] at hrn hb2 ⊢
 generalize w2.alloc _ = w3 at HB3 hrn ⊢
 have HRR := Lib.hid hrn
 have cd := CD.out r b w3 hrn (HB2.out.trans (HB3.out.mono HB2.out.size)) (by rw [hr]; exact HB2.out.size) hbl
 clear hrn hb hr hbl hb2 CD HRN CFR
 go_wp2_with fail
 with_reducible refine cd.mono ?_
 rintro e w4 ⟨q, R, rfl, hR4, hM4, hB4, hq4⟩
 have HMX := Lib.hid (And.intro hM4 hq4)
 have HR4 := Lib.hid hR4
 have HB4 := Lib.hid hB4
 have HW6 : Hid (∀ d ∈ A, d.row.length ≤ 6) := Lib.hid fun d hd => by
  have h1 := HA.out.2.1 d hd
  have h2 := HLN6.out.2
  have h3 := HLN6.out.1
  rw [h1]
  unfold Bk.wdt
  split <;> omega
 have HDS := Lib.hid (hM4.ds HA.out.1 HW6.out)
 have CS := Lib.hid (Bk.psorted_c _ A w4 HDS.out HA.out.2.2)
 have CDN := Lib.hid (Ty.done_c b u.l u.e w4 HR4.out.cur)
 obtain ⟨c0, c1, f0, f1⟩ := Dd.two HR4.out.box
 clear cd hR4 hM4 hB4 hq4
 obtain ⟨l4, e4, wr4⟩ := u
 simp only at HX1 HX2 CDN c0 c1
 cases wr4
 rotate_left
 ·have HE := Lib.hid (HX1.out (.inl rfl))
  go_wp2
  go_ret2
  exact Bk.GotN.bad HE.out rfl HB4.out
 generalize Ty.fin l4 e4 = F at HX1 HX2 CDN
 have HX3 := Lib.hid (HX2.out rfl)
 clear HX2
 by_cases hF : F = 0
 rotate_left
 ·have hFb : ((F : Int) != 0) = true := by rw [bne_iff_ne]; omega
  have HE := Lib.hid (HX1.out (.inr (.inl hF)))
  clear hF
  go_wp2_with fail
  with_reducible refine CDN.out.mono ?_
  rintro e w5 ⟨rfl, rfl⟩
  go_wp2
  go_ret2
  exact Bk.GotN.bad HE.out rfl HB4.out
 have HX4 := Lib.hid (HX3.out hF)
 clear HX3
 subst hF
 simp only [Int.natCast_zero] at CDN
 cases hso : Bk.sorted A
 ·rw [hso] at CS
  have HE := Lib.hid (HX1.out (.inr (.inr hso)))
  clear hso
  go_wp2_with fail
  with_reducible refine CDN.out.mono ?_
  rintro e w5 ⟨rfl, rfl⟩
  go_wp2_with fail
  with_reducible refine CS.out.mono ?_
  rintro e w6 ⟨rfl, g6⟩
  have HB6 := Lib.hid (HB4.out.trans (g6.mono HB4.out.size))
  clear g6
  go_wp2
  go_ret2
  exact Bk.GotN.bad HE.out rfl HB6.out
 ·rw [hso] at CS
  have HE := Lib.hid (HX4.out hso)
  clear hso
  go_wp2_with fail
  with_reducible refine CDN.out.mono ?_
  rintro e w5 ⟨rfl, rfl⟩
  go_wp2_with fail
  with_reducible refine CS.out.mono ?_
  rintro e w6 ⟨rfl, g6⟩
  have HB6 := Lib.hid (HB4.out.trans (g6.mono HB4.out.size))
  have HM6 := Lib.hid (HMX.out.1.kept g6)
  clear g6
  go_wp2
  go_ret2
  exact Bk.GotN.good HE.out ⟨HM6.out, HMX.out.2⟩ HA.out.1 HW6.out HB6.out
end Go.Proofs.YtbelkhkllneifaaGreatDoor

namespace Go.Proofs.YtbelkhkllneifaaGreatDoor
open Go Go.RowKit
def Rn.Rowed (W : World) (m : Bool × (Option Addr × Nat × Nat)) (d : Dd.D) : Prop := ∃ g, m = (d.gone, (some ⟨g, 0, none⟩, d.row.length, d.row.length)) ∧ Cl.Row W g d.row.length (fun k => d.row.getD k Cl.nul)
def Rn.Zoned (W : World) (n : Nat) (F : Nat → Zn.Zo) (m : Option Addr × Nat × Nat) : Prop := ∃ g, m = (some ⟨g, 0, none⟩, n, n) ∧ Rn.ZR W g n F
structure Rn.Ld (B p n : Nat) (A : List Dd.D) (Zf : Nat → Nat → Zn.Zo) (k : Nat) (W : World) (d z : Value) (M : List (Bool × (Option Addr × Nat × Nat))) (Z : List (Option Addr × Nat × Nat)) : Prop where
 blk : W.heap[p]? = some (.cells #[d, z] 92 (0, 0))
 deeds : Dk.Own 41 2 Rn.e2 B W d M
 zones : Dk.Own 108 1 Bk.e1 B W z Z
 len : M.length = A.length
 cnt : Z.length = k
 rows : ∀ (i : Nat) (x : Dd.D), A[i]? = some x → ∃ m, M[i]? = some m ∧ Rn.Rowed W m x
 zrow : ∀ i : Nat, i < k → ∃ m, Z[i]? = some m ∧ Rn.Zoned W n (Zf i) m
theorem Rn.Rowed.same {W W' : World} {m : Bool × (Option Addr × Nat × Nat)} {d : Dd.D} (h : Rn.Rowed W m d) (g : ∀ (b : Nat) (cs : Array Value), W.heap[b]? = some (.cells cs 33 (0, 0)) → W'.heap[b]? = W.heap[b]?) : Rn.Rowed W' m d := by
 obtain ⟨b, h1, h2⟩ := h
 obtain ⟨cs, h3, h4⟩ := id h2
 exact ⟨b, h1, World.rowIs.of_block h2 (g b cs h3)⟩
theorem Rn.Zoned.same {W W' : World} {n : Nat} {F : Nat → Zn.Zo} {m : Option Addr × Nat × Nat} (h : Rn.Zoned W n F m) (g : ∀ (b : Nat) (cs : Array Value), W.heap[b]? = some (.cells cs 68 (0, 0)) → W'.heap[b]? = W.heap[b]?) : Rn.Zoned W' n F m := by
 obtain ⟨b, h1, h2⟩ := h
 obtain ⟨cs, h3, h4⟩ := id h2
 exact ⟨b, h1, h2.kept (g b cs h3)⟩
theorem Rn.blk_lt {W : World} {b : Nat} {o : Obj} (h : W.heap[b]? = some o) : b < W.heap.size := (Array.getElem?_eq_some_iff.1 h).1
theorem Rn.Ld.kept {B p n k : Nat} {A : List Dd.D} {Zf : Nat → Nat → Zn.Zo} {W W' : World} {d z : Value} {M : List (Bool × (Option Addr × Nat × Nat))} {Z : List (Option Addr × Nat × Nat)} (h : Rn.Ld B p n A Zf k W d z M Z) (g : Below W.heap.size W W') : Rn.Ld B p n A Zf k W' d z M Z :=
 ⟨(g.block p (Rn.blk_lt h.blk)).trans h.blk, h.deeds.kept g, h.zones.kept g, h.len, h.cnt, fun i x hx => by
   obtain ⟨m, h1, h2⟩ := h.rows i x hx
   exact ⟨m, h1, h2.same fun b cs hb => g.block b (Rn.blk_lt hb)⟩, fun i hi => by
   obtain ⟨m, h1, h2⟩ := h.zrow i hi
   exact ⟨m, h1, h2.same fun b cs hb => g.block b (Rn.blk_lt hb)⟩⟩
theorem Rn.Ld.cells {B p n k : Nat} {A : List Dd.D} {Zf : Nat → Nat → Zn.Zo} {W : World} {d z : Value} {M : List (Bool × (Option Addr × Nat × Nat))} {Z : List (Option Addr × Nat × Nat)} (h : Rn.Ld B p n A Zf k W d z M Z) :
 W.cell? ⟨p, 0, none⟩ = some d ∧ W.cell? ⟨p, 1, none⟩ = some z ∧ W.frozen? ⟨p, 0, none⟩ = false ∧ W.frozen? ⟨p, 1, none⟩ = false :=
 ⟨by rw [cell_of_row _ _ _ _ _ _ h.blk]; rfl, by rw [cell_of_row _ _ _ _ _ _ h.blk]; rfl, frozen_of_row _ _ 0 _ _ h.blk, frozen_of_row _ _ 1 _ _ h.blk⟩
theorem Rn.off {α : Type} {e T : TypeId} {k : Nat} {enc : α → List Value} {B b : Nat} {W W5 : World} {v v' : Value} {M : List α} {cs : Array Value} (hO : Dk.Own e k enc B W v M) (g : Ty.Grew W W5 v v') (hb : W.heap[b]? = some (.cells cs T (0, 0))) (hT : T ≠ e) : W5.heap[b]? = W.heap[b]? :=
 g.by_.block b (Rn.blk_lt hb) fun h => by
  obtain ⟨cs', hc⟩ := hO.typed b (by first | exact h | exact h.symm)
  rw [hb] at hc
  simp only [Option.some.injEq, Obj.cells.injEq] at hc
  exact hT hc.2.1
theorem Rn.set_other {W : World} {p i b : Nat} (v : Value) (hb : b ≠ p) : (W.setCell ⟨p, i, none⟩ v).heap[b]? = W.heap[b]? := heap_setCell_other W ⟨p, i, none⟩ b v hb
theorem Rn.Ld.stepD {B p n k : Nat} {A K : List Dd.D} {Zf : Nat → Nat → Zn.Zo} {W W5 : World} {d d' z : Value} {M K' : List (Bool × (Option Addr × Nat × Nat))} {Z : List (Option Addr × Nat × Nat)} (h : Rn.Ld B p n A Zf k W d z M Z)
 (ho : Dk.Own 41 2 Rn.e2 B W5 d' (M ++ K')) (hg : Ty.Grew W W5 d d') (hl : K'.length = K.length) (hK : ∀ (i : Nat) (x : Dd.D), K[i]? = some x → ∃ m, K'[i]? = some m ∧ Rn.Rowed W m x) : Rn.Ld B p n (A ++ K) Zf k (W5.setCell ⟨p, 0, none⟩ d') d' z (M ++ K') Z := by
 have tp : ∀ (b : Nat) (cs : Array Value) (T : TypeId), T ≠ 92 → W.heap[b]? = some (.cells cs T (0, 0)) → b ≠ p := fun b cs T hT hb e => by
  subst e
  rw [h.blk] at hb
  simp only [Option.some.injEq, Obj.cells.injEq] at hb
  exact hT hb.2.1.symm
 have keep : ∀ (b : Nat) (cs : Array Value) (T : TypeId), T ≠ 92 → T ≠ 41 → W.heap[b]? = some (.cells cs T (0, 0)) → (W5.setCell ⟨p, 0, none⟩ d').heap[b]? = W.heap[b]? := fun b cs T h1 h2 hb =>
  (Rn.set_other d' (tp b cs T h1 hb)).trans (Rn.off h.deeds hg hb h2)
 have hp5 : W5.heap[p]? = some (.cells #[d, z] 92 (0, 0)) := (Rn.off h.deeds hg h.blk (by decide)).trans h.blk
 refine ⟨?_, ?_, ?_, ?_, h.cnt, fun i x hx => ?_, fun i hi => ?_⟩
 ·exact heap_setCell_same W5 p 0 _ _ _ hp5
 ·refine ho.same fun b hb => Rn.set_other d' fun e => ?_
  obtain ⟨cs, hc⟩ := ho.typed b hb
  rw [e, hp5] at hc
  simp only [Option.some.injEq, Obj.cells.injEq] at hc
  exact absurd hc.2.1 (by decide)
 ·refine h.zones.same fun b hb => ?_
  obtain ⟨cs, hc⟩ := h.zones.typed b hb
  exact keep b cs _ (by decide) (by decide) hc
 ·rw [List.length_append, List.length_append, h.len, hl]
 ·rw [List.getElem?_append] at hx
  rw [List.getElem?_append, h.len]
  split at hx
  ·rename_i hlt
   rw [if_pos hlt]
   obtain ⟨m, h1, h2⟩ := h.rows i x hx
   exact ⟨m, h1, h2.same fun b cs hb => keep b cs _ (by decide) (by decide) hb⟩
  ·rename_i hlt
   rw [if_neg hlt]
   obtain ⟨m, h1, h2⟩ := hK _ x hx
   exact ⟨m, h1, h2.same fun b cs hb => keep b cs _ (by decide) (by decide) hb⟩
 ·obtain ⟨m, h1, h2⟩ := h.zrow i hi
  exact ⟨m, h1, h2.same fun b cs hb => keep b cs _ (by decide) (by decide) hb⟩
theorem Rn.Ld.stepZ {B p n k : Nat} {A : List Dd.D} {Zf : Nat → Nat → Zn.Zo} {W W5 : World} {d z z' : Value} {M : List (Bool × (Option Addr × Nat × Nat))} {Z : List (Option Addr × Nat × Nat)} {m : Option Addr × Nat × Nat} (h : Rn.Ld B p n A Zf k W d z M Z)
 (ho : Dk.Own 108 1 Bk.e1 B W5 z' (Z ++ [m])) (hg : Ty.Grew W W5 z z') (hm : Rn.Zoned W n (Zf k) m) : Rn.Ld B p n A Zf (k + 1) (W5.setCell ⟨p, 1, none⟩ z') d z' M (Z ++ [m]) := by
 have tp : ∀ (b : Nat) (cs : Array Value) (T : TypeId), T ≠ 92 → W.heap[b]? = some (.cells cs T (0, 0)) → b ≠ p := fun b cs T hT hb e => by
  subst e
  rw [h.blk] at hb
  simp only [Option.some.injEq, Obj.cells.injEq] at hb
  exact hT hb.2.1.symm
 have keep : ∀ (b : Nat) (cs : Array Value) (T : TypeId), T ≠ 92 → T ≠ 108 → W.heap[b]? = some (.cells cs T (0, 0)) → (W5.setCell ⟨p, 1, none⟩ z').heap[b]? = W.heap[b]? := fun b cs T h1 h2 hb =>
  (Rn.set_other z' (tp b cs T h1 hb)).trans (Rn.off h.zones hg hb h2)
 have hp5 : W5.heap[p]? = some (.cells #[d, z] 92 (0, 0)) := (Rn.off h.zones hg h.blk (by decide)).trans h.blk
 refine ⟨?_, ?_, ?_, h.len, ?_, fun i x hx => ?_, fun i hi => ?_⟩
 ·exact heap_setCell_same W5 p 1 _ _ _ hp5
 ·refine h.deeds.same fun b hb => ?_
  obtain ⟨cs, hc⟩ := h.deeds.typed b hb
  exact keep b cs _ (by decide) (by decide) hc
 ·refine ho.same fun b hb => Rn.set_other z' fun e => ?_
  obtain ⟨cs, hc⟩ := ho.typed b hb
  rw [e, hp5] at hc
  simp only [Option.some.injEq, Obj.cells.injEq] at hc
  exact absurd hc.2.1 (by decide)
 ·rw [List.length_append, h.cnt]; rfl
 ·obtain ⟨y, h1, h2⟩ := h.rows i x hx
  exact ⟨y, h1, h2.same fun b cs hb => keep b cs _ (by decide) (by decide) hb⟩
 ·rcases Nat.lt_or_ge i k with h1 | h1
  ·obtain ⟨y, h2, h3⟩ := h.zrow i h1
   exact ⟨y, by rw [List.getElem?_append_left (by rw [h.cnt]; exact h1)]; exact h2, h3.same fun b cs hb => keep b cs _ (by decide) (by decide) hb⟩
  ·obtain rfl : i = k := by omega
   exact ⟨m, by rw [List.getElem?_append_right (by rw [h.cnt]; exact Nat.le_refl _), h.cnt, Nat.sub_self]; rfl, hm.same fun b cs hb => keep b cs _ (by decide) (by decide) hb⟩
theorem Rn.Ld.done {B p : Nat} {s : List Kn.C} {L : List Dd.D} {Zf : Nat → Nat → Zn.Zo} {W : World} {d z : Value} {M : List (Bool × (Option Addr × Nat × Nat))} {Z : List (Option Addr × Nat × Nat)} (h : Rn.Ld B p s.length L Zf (Rn.nb L.length) W d z M Z)
 (hl : L ≠ []) (h6 : ∀ x ∈ L, x.row.length ≤ 6) (hz : ∀ i j, i < Rn.nb L.length → j < s.length → Zf i j = Rn.zone s L i j) : Rn.P W p s L := by
 obtain ⟨c0, c1, _⟩ := h.cells
 refine ⟨Rn.blk_lt h.blk, d, z, c0, c1, ?_, ?_⟩
 ·rcases h.deeds.form with ⟨_, h0⟩ | ⟨g, c, rfl, h1, h2, _, h4⟩
  ·have := h.len
   rw [h0] at this
   exact absurd (List.eq_nil_of_length_eq_zero this.symm) hl
  ·refine ⟨_, c, by rw [h.len], by rw [← h.len]; exact h1, by unfold maxLen at h2; omega, .inr ⟨g, 0, rfl, h4, fun i x hx => ?_⟩⟩
   obtain ⟨m, hm, b, rfl, hr⟩ := h.rows i x hx
   have e0 := h.deeds.cell Rn.e2_len rfl hm (j := 0) (by decide)
   have e1 := h.deeds.cell Rn.e2_len rfl hm (j := 1) (by decide)
   rw [Nat.zero_add]
   exact ⟨_, e0, e1, hr.vals rfl (fun k v hk => by rw [List.getD_eq_getElem?_getD, hk]; rfl) (by have := h6 x (List.mem_of_getElem? hx); omega)⟩
 ·rcases h.zones.form with ⟨_, h0⟩ | ⟨g, c, rfl, h1, h2, _, h4⟩
  ·have := h.cnt
   rw [h0] at this
   have := List.length_pos_iff.2 hl
   unfold Rn.nb at *
   simp at *
   omega
  ·refine ⟨g, c, by rw [h.cnt], h4, fun i hi => ?_⟩
   obtain ⟨m, hm, b, rfl, hr⟩ := h.zrow i hi
   have e0 := h.zones.cell Bk.e1_len rfl hm (j := 0) (by decide)
   rw [Nat.mul_one, Nat.add_zero] at e0
   exact ⟨b, e0, hr.congr fun j hj => hz i j hi hj⟩
theorem Rn.Ld.start (w : World) (n : Nat) (Zf : Nat → Nat → Zn.Zo) (B : Nat) : Rn.Ld B w.heap.size n [] Zf 0 (w.alloc (.cells #[.slice none 0 0, .slice none 0 0] 92)) (.slice none 0 0) (.slice none 0 0) [] [] :=
 ⟨heap_alloc_new w _, Dk.Own.nil _ _, Dk.Own.nil _ _, rfl, rfl, fun i x hx => by simp at hx, fun i hi => by omega⟩
end Go.Proofs.YtbelkhkllneifaaGreatDoor

namespace Go.Proofs.YtbelkhkllneifaaGreatDoor
open Go Go.RowKit
theorem Rn.infoZ : (Tryz.prog.info? 108).map (fun i => (i.zero, i.size, i.bytes)) = some (some (.slice none 0 0), 1, 24) := by kernel_rfl
theorem Rn.own_form {α : Type} {e : TypeId} {k : Nat} {enc : α → List Value} {B : Nat} {W : World} {v : Value} {M : List α} (h : Dk.Own e k enc B W v M) : ∃ a c, v = .slice a M.length c := by
 rcases h.form with ⟨e, e0⟩ | ⟨g, c, e, _⟩
 ·exact ⟨none, 0, by rw [e, e0]; rfl⟩
 ·exact ⟨_, c, e⟩
theorem Rn.own_form3 {α : Type} {e : TypeId} {k : Nat} {enc : α → List Value} {B : Nat} {W : World} {v : Value} {M : List α} (h : Dk.Own e k enc B W v M) : ∃ a n c, v = .slice a n c := by
 obtain ⟨a, c, e⟩ := Rn.own_form h
 exact ⟨a, _, c, e⟩
def Rn.mk (K : List Dd.D) (R : Nat → Option Addr × Nat × Nat) : List (Bool × (Option Addr × Nat × Nat)) := (List.range K.length).map fun j => ((K.getD j Bk.nod).gone, R j)
theorem Rn.mk_len (K : List Dd.D) (R : Nat → Option Addr × Nat × Nat) : (Rn.mk K R).length = K.length := by unfold Rn.mk; simp
theorem Rn.mk_at {K : List Dd.D} {R : Nat → Option Addr × Nat × Nat} {j : Nat} {d : Dd.D} (h : K[j]? = some d) : (Rn.mk K R)[j]? = some (d.gone, R j) := by
 unfold Rn.mk
 rw [List.getElem?_map, List.getElem?_range (List.getElem?_eq_some_iff.1 h).1]
 simp only [Option.map_some, List.getD_eq_getElem?_getD, h, Option.getD_some]
theorem Rn.mk_src {q : Nat} {W : World} {R : Nat → Option Addr × Nat × Nat} {K : List Dd.D} (h : Bk.Mx q W R K) : Dk.Src Rn.e2 W (.slice (some ⟨q, 0, none⟩) K.length K.length) (Rn.mk K R) := by
 refine .inr ⟨_, K.length, by rw [Rn.mk_len], Dk.src_cells Rn.e2_len (by decide) fun i j x hx hj => ?_⟩
 have hi : i < K.length := by
  have := (List.getElem?_eq_some_iff.1 hx).1
  rwa [Rn.mk_len] at this
 have hk := List.getElem?_eq_getElem hi
 rw [Rn.mk_at hk] at hx
 obtain rfl := Option.some.inj hx
 obtain ⟨c0, c1⟩ := h.cells hk
 rw [Nat.zero_add]
 rcases (by omega : j = 0 ∨ j = 1) with rfl | rfl
 ·exact c0
 ·exact c1
theorem Rn.mk_rows {q : Nat} {W : World} {R : Nat → Option Addr × Nat × Nat} {K : List Dd.D} (h : Bk.Mx q W R K) : ∀ (i : Nat) (x : Dd.D), K[i]? = some x → ∃ m, (Rn.mk K R)[i]? = some m ∧ Rn.Rowed W m x := fun i x hx => by
 obtain ⟨g, h1, _, h2⟩ := h.rows i x hx
 exact ⟨_, Rn.mk_at hx, g, by rw [h1], h2⟩
def Rn.Added (B p n : Nat) (A : List Dd.D) (Zf : Nat → Nat → Zn.Zo) (k : Nat) (w : World) (e : Ending) (w' : World) : Prop :=
 e = .returned (.bool true) ∧ (∃ d z M Z, Rn.Ld B p n A Zf k w' d z M Z) ∧ Below B w w'
set_option maxHeartbeats 8000000 in
set_option maxRecDepth 100000 in
theorem Rn.add_c (vs : Value) (s : List Kn.C) (t : ByteArray) {w : World} {B p k : Nat} {A K : List Dd.D} {Zf : Nat → Nat → Zn.Zo} {d z : Value} {M : List (Bool × (Option Addr × Nat × Nat))} {Z : List (Option Addr × Nat × Nat)} (hT : Ty.Tabs w) (hs : Kn.Cols w vs s) (ht : t.size ≤ 140737488351232)
 (h : Rn.Ld B p s.length A Zf k w d z M Z) (hB : B ≤ p) (hrd : Bk.rd s t.data.toList = (0, K)) (hK : K ≠ []) (hmod : A.length % 8 = 0) (hr : Kn.right s = true) (hf : ∀ x ∈ K, Dd.fitE s x = 0) (hz : Bk.Zs K) (hZ : ∀ j, Zf k j = Zn.of (Bk.col K j)) (hA : A.length ≤ 1048576) (hk : k ≤ 1048576) :
 Calls Tryz.prog 60 #[.pointer (some ⟨p, 0, none⟩), vs, .string t] w (Rn.Added B p s.length (A ++ K) Zf (k + 1) w) := by
 have cr := Bk.pread_c vs s t w hT hs ht
 rw [hrd] at cr
 unfold Bk.GotN at cr
 simp only [Int.natCast_zero] at cr
 have H := Lib.hid h
 have HP : Hid (p < w.heap.size ∧ B ≤ p ∧ ∀ b, d.ownBlock = some b → b < w.heap.size) := Lib.hid ⟨Rn.blk_lt h.blk, hB, h.deeds.lt⟩
 have H6 := Lib.hid (Kn.right_len hr)
 have CZ := Lib.hid fun (v : Value) (wz : World) (h8 : K.length ≤ 8) (hv : Bk.Ds wz v K) => Rn.zonesOf_c v K s.length h8 H6.out.2 (fun x hx i hi => Rn.has_len H6.out.1 (hf x hx) hi) hz wz hv
 have HZ : Hid (∀ j, Zf k j = Zn.of (Bk.col K j)) := Lib.hid hZ
 have HA := Lib.hid (And.intro hA hk)
 have HK := Lib.hid hK
 obtain ⟨sa, sc, rfl, -⟩ := hs
 obtain ⟨da, dc, rfl⟩ := Rn.own_form h.deeds
 obtain ⟨za, zc, rfl⟩ := Rn.own_form h.zones
 have hlen := h.len
 have hcnt := h.cnt
 have hmI : (M.length : Int) % 8 = 0 := by omega
 have HL := Lib.hid (And.intro hlen hcnt)
 clear h hB hrd hK hmod hr hf hz hZ hA hk hT ht hlen hcnt
 go_enter Tryz.func60, Tryz.ntmps60
 go_wp2_with fail
 with_reducible refine cr.mono ?_
 rintro e w1 ⟨v, rfl, hv, g1⟩
 rcases hv with ⟨h0, _⟩ | ⟨q, R, rfl, hM, hq, h8, h6⟩
 ·exact absurd h0 HK.out
 have H1 := Lib.hid (H.out.kept g1)
 have HG1 := Lib.hid g1
 have HMX := Lib.hid (And.intro hM (And.intro hq (And.intro h8 h6)))
 have HS := Lib.hid (Rn.mk_src hM)
 have HRW := Lib.hid (Rn.mk_rows hM)
 have HKL : Hid ((Rn.mk K R).length = K.length) := Lib.hid (Rn.mk_len K R)
 generalize Rn.mk K R = K' at HS HRW HKL
 obtain ⟨c0, c1, f0, f1⟩ := H1.out.cells
 clear cr hM hq h8 h6 g1
 go_wp2_with (at_builtin; refine Dk.wpList_append 23 _ 32 Tryz.underlying23 Rn.infoD rfl (by decide) Rn.e2_len Rn.e2_one K' H1.out.deeds (by have := HG1.out.size; have := HP.out; omega) (by have := HL.out; have := HA.out; have := HKL.out; have := HMX.out; omega) (by have := HL.out; have := HA.out; have := HKL.out; have := HMX.out; omega) HS.out (.tmp 30) (.tmp 31) rfl rfl rfl rfl ?_; intro v5 w5 h5 g5; obtain ⟨d5a, d5n, d5c, hv5⟩ := Rn.own_form3 h5; have hp5 := (Rn.off H1.out.deeds g5 H1.out.blk (by decide)).trans H1.out.blk; have d0 := cell_of_row _ _ 0 _ _ _ hp5; have k0 := frozen_of_row _ _ 0 _ _ hp5; simp only [List.getElem?_toArray, List.getElem?_cons_zero] at d0; have H5 := Lib.hid (And.intro h5 g5); clear h5 g5 hp5; subst hv5)
 obtain ⟨w6, hw6⟩ : ∃ w6, w6 = w5.setCell ⟨p, 0, none⟩ (.slice d5a d5n d5c) := ⟨_, rfl⟩
 rw [← hw6]
 have hL6 := H1.out.stepD H5.out.1 H5.out.2 HKL.out HRW.out
 rw [← hw6] at hL6
 have HM6 : Hid (Bk.Mx q w6 R K) := Lib.hid (HMX.out.1.same fun b hqb hb => by
  have hwq := HMX.out.2.1
  have hpw := HP.out
  rw [hw6]
  refine (Rn.set_other _ (by omega)).trans (H5.out.2.by_.block b hb fun e => ?_)
  have := hpw.2.2 b (by first | exact e | exact e.symm)
  omega)
 have HB6 : Hid (Below B w w6) := Lib.hid (by
  rw [hw6]
  have hpw := HP.out
  exact ((HG1.out.mono (by omega)).trans (H5.out.2.below (by have := HG1.out.size; omega) H1.out.deeds.base_le)).setCell (p := ⟨p, 0, none⟩) hpw.2.1 _)
 have HL6 := Lib.hid hL6
 have cz := CZ.out _ w6.drew HMX.out.2.2.1 ((HM6.out.ds HMX.out.2.2.1 HMX.out.2.2.2).later (Below.refl _ w6).drew)
 obtain ⟨_, x1, _, y1⟩ := hL6.cells
 have z1 : w6.drew.cell? ⟨p, 1, none⟩ = some (.slice za Z.length zc) := x1
 have HB6s : Hid (B ≤ w6.heap.size) := Lib.hid (by have := HB6.out.size; have := HP.out; omega)
 have HZL : Hid (Z.length + 1 ≤ 1048577) := Lib.hid (by have := HL.out; have := HA.out; omega)
 clear hL6 hw6 c0 c1 f0 f1 d0 k0 x1 y1 CZ
 go_region_law (first
  | (go_simp; go_at_call 88; (with_reducible refine cz.mono ?_); rintro e w7 ⟨g, rfl, hg, hzr, g7⟩
     have HZR := Lib.hid hzr
     have HG7 : Hid (Below w6.heap.size w6 w7) := Lib.hid ((Below.refl _ w6).drew.trans g7)
     have HL7 := Lib.hid (HL6.out.kept HG7.out)
     have HAL : Hid (Below w7.heap.size w7 (w7.alloc (.cells #[.slice (some ⟨g, 0, none⟩) s.length s.length] 108))) := Lib.hid ((Below.refl _ w7).alloc (Nat.le_refl _) _)
     have HL8 := Lib.hid (HL7.out.kept HAL.out)
     have z1 := HL7.out.cells.2.1
     have z2 := HL8.out.cells.2.1
     clear hg hzr g7)
  | (refine Dk.step_appendB (enc := Bk.e1) 90 _ 24 Tryz.underlying90 Rn.infoZ rfl (by decide) Bk.e1_len Bk.e1_one [((some ⟨g, 0, none⟩ : Option Addr), s.length, s.length)] (base := B) (Nat.le_trans HB6s.out (Nat.le_trans HG7.out.size HAL.out.size)) HL8.out.zones (by have := HZL.out; simp only [List.length_singleton]; omega) (by have := HZL.out; simp only [List.length_singleton]; omega) _ _ _ (by rfl) (by rfl) (by rfl) (by rfl) (Dk.src_cell (Dk.cell_new rfl)) ?_; intro v9 w9 o9 g9
     obtain ⟨z9a, z9n, z9c, hv9⟩ := Rn.own_form3 o9
     have hp9 := (Rn.off HL8.out.zones g9 HL8.out.blk (by decide)).trans HL8.out.blk
     have d9 := cell_of_row _ _ 1 _ _ _ hp9
     have k9 := frozen_of_row _ _ 1 _ _ hp9
     simp only [List.getElem?_toArray, List.getElem?_cons_zero, List.getElem?_cons_succ] at d9
     have H9 := Lib.hid (And.intro o9 g9)
     clear o9 g9 hp9
     subst hv9))
 all_goals
  have HE : Hid (∃ d z M Z, Rn.Ld B p s.length (A ++ K) Zf (k + 1) (w9.setCell ⟨p, 1, none⟩ (.slice z9a z9n z9c)) d z M Z) := Lib.hid ⟨_, _, _, _, HL8.out.stepZ H9.out.1 H9.out.2 ⟨g, rfl, (HZR.out.kept (HAL.out.block g HZR.out.lt)).congr fun j _ => (HZ.out j).symm⟩⟩
  have HEB : Hid (Below B w (w9.setCell ⟨p, 1, none⟩ (.slice z9a z9n z9c))) := Lib.hid (by
   have h1 := HB6.out
   have h2 := HG7.out
   have h3 := HAL.out
   have h4 := HB6s.out
   have hpw := HP.out
   exact (((h1.trans (h2.mono h4)).trans (h3.mono (Nat.le_trans h4 h2.size))).trans (H9.out.2.below (Nat.le_trans h4 (Nat.le_trans h2.size h3.size)) HL8.out.zones.base_le)).setCell (p := ⟨p, 1, none⟩) hpw.2.1 _)
  go_wp2
  go_ret
  exact ⟨rfl, HE.out, HEB.out⟩
end Go.Proofs.YtbelkhkllneifaaGreatDoor
