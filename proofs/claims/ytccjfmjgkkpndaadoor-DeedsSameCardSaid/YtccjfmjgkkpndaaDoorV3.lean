/-
  The document's answers for package deeds: a truth that is read, a value that is read.
-/
import Derived.Test.YtccjfmjgkkpndaaDoorV2
import Derived.Laws.ResultCell
import Derived.Deep.RegionWith
namespace Go.Proofs.YtccjfmjgkkpndaaDoor
open Go.RowKit
open Ty (num txt)
open Ig (rest sg)
open Tx (restT)
set_option maxHeartbeats 2000000 in
set_option maxRecDepth 100000 in
theorem Dd.rtruth_c (r : Nat) (s : ByteArray) (hs : s.size ≤ 140737488351232) (l : List UInt8) (w : World) (h : Ty.RS r s w l 0) :
    Calls Tryd.prog 30 #[.pointer (some ⟨r, 0, none⟩)] w fun e w' => e = .returned (.tuple #[.bool (Dd.rdF l).2.1, .int .i64 (((Dd.rdF l).1 : Nat) : Int)]) ∧ ((Dd.rdF l).1 = 0 → Ty.RS r s w' (Dd.rdF l).2.2 0) ∧ w.grownBy w' (some r) := by
  have cb := Ty.rbyte_m r s hs l 0 w h
  cases l with
  | nil =>
    have e1 : Ty.rdB [] 0 = (0, [], 2) := rfl
    rw [e1] at cb
    clear e1 h
    go_enter Tryd.func30, Tryd.ntmps30
    go_wp2_with fail
    with_reducible refine cb.mono ?_
    rintro e w1 ⟨rfl, hR1, g1⟩
    have he := Tx.RS_err hR1
    have HG1 := Lib.hid g1
    clear cb hR1 g1
    go_wp2_with fail
    go_quiet (fail)
    go_wp2
    go_ret2
    exact ⟨rfl, (fun e => by cases e), Ty.by_then HG1.out _⟩
  | cons x t =>
    have e1 : Ty.rdB (x :: t) 0 = (x.toNat, t, 0) := by unfold Ty.rdB; rw [if_neg (by omega)]
    rw [e1] at cb
    clear e1 h
    by_cases h1 : 1 < x.toNat
    · have HR : Hid (Dd.rdF (x :: t) = (4, false, t)) := Lib.hid (by simp only [Dd.rdF]; rw [if_pos h1])
      have h1i : (1 : Int) < (x.toNat : Int) := by omega
      rw [HR.out]
      generalize x.toNat = X at cb h1i
      clear h1
      go_enter Tryd.func30, Tryd.ntmps30
      go_wp2_with fail
      with_reducible refine cb.mono ?_
      rintro e w1 ⟨rfl, hR1, g1⟩
      have he := Tx.RS_err hR1
      have HG1 := Lib.hid g1
      clear cb hR1 g1
      go_wp2
      go_ret2
      exact ⟨rfl, (fun e => by cases e), HG1.out⟩
    · have HR : Hid (Dd.rdF (x :: t) = (0, x == 1, t)) := Lib.hid (by simp only [Dd.rdF]; rw [if_neg h1])
      have h1i : ¬ (1 : Int) < (x.toNat : Int) := by omega
      have hB : ((x.toNat : Int) == 1) = (x == 1) := by
        by_cases e : x = 1
        · subst e; rfl
        · have e0 : x = 0 := by
            apply UInt8.toNat_inj.1
            have : x.toNat ≠ 1 := fun h => e (UInt8.toNat_inj.1 h)
            show x.toNat = 0
            omega
          subst e0; rfl
      rw [HR.out]
      generalize (x == 1) = B at hB ⊢
      generalize x.toNat = X at cb h1i hB
      clear h1
      go_enter Tryd.func30, Tryd.ntmps30
      go_wp2_with fail
      with_reducible refine cb.mono ?_
      rintro e w1 ⟨rfl, hR1, g1⟩
      have he := Tx.RS_err hR1
      have HR1 := Lib.hid hR1
      have HG1 := Lib.hid g1
      clear cb hR1 g1
      go_wp2
      go_ret2
      exact ⟨rfl, fun _ => HR1.out, HG1.out⟩
theorem Dd.rdV_true {c : Kn.C} {l : List UInt8} (hc : c.null = true) (h : (Dd.rdF l).1 ≠ 0) : Dd.rdV c l = ((Dd.rdF l).1, Cl.ofN 0, (Dd.rdF l).2.2) := by unfold Dd.rdV; rw [if_pos hc, if_pos h]
theorem Dd.rdV_nul {c : Kn.C} {l : List UInt8} (hc : c.null = true) (h : (Dd.rdF l).1 = 0) (hb : (Dd.rdF l).2.1 = true) : Dd.rdV c l = (0, Cl.nul, (Dd.rdF l).2.2) := by unfold Dd.rdV; rw [if_pos hc, if_neg (by rw [h]; simp), if_pos hb]
theorem Dd.rdV_there {c : Kn.C} {l : List UInt8} (hc : c.null = true) (h : (Dd.rdF l).1 = 0) (hb : (Dd.rdF l).2.1 = false) : Dd.rdV c l = Dd.rdP c (Dd.rdF l).2.2 := by unfold Dd.rdV; rw [if_pos hc, if_neg (by rw [h]; simp), if_neg (by rw [hb]; decide)]
theorem Dd.rdV_plain {c : Kn.C} {l : List UInt8} (hc : c.null = false) : Dd.rdV c l = Dd.rdP c l := by unfold Dd.rdV; rw [if_neg (by rw [hc]; decide)]
theorem Dd.rdP_num {c : Kn.C} {l : List UInt8} (hk : c.k = 1) : Dd.rdP c l = ((num l).2.2, Cl.ofN (sg l), rest l) := by unfold Dd.rdP; rw [if_pos hk]
theorem Dd.rdP_str {c : Kn.C} {l : List UInt8} (hk : c.k ≠ 1) : Dd.rdP c l = ((txt l 64).2.2, Cl.ofS (txt l 64).1, restT l) := by unfold Dd.rdP; rw [if_neg hk]
/-- A value, as a reader hands it back; what a reader leaves. -/
def Dd.RdV (r : Nat) (s : ByteArray) (w : World) (t : Nat × Kn.V × List UInt8) (e : Ending) (w' : World) : Prop :=
  e = .returned (.tuple #[.agg #[.bool t.2.1.null, .int .i64 t.2.1.n, .string t.2.1.s], .int .i64 ((t.1 : Nat) : Int)]) ∧ (t.1 = 0 → Ty.RS r s w' t.2.2 0) ∧ w.grownBy w' (some r)
/-- A block of three cells, none frozen. -/
theorem Dd.three {w : World} {q : Nat} {x y z : Value} {t : TypeId} (h : w.heap[q]? = some (.cells #[x, y, z] t (0, 0))) : w.cell? ⟨q, 0, none⟩ = some x ∧ w.cell? ⟨q, 1, none⟩ = some y ∧ w.cell? ⟨q, 2, none⟩ = some z ∧ w.frozen? ⟨q, 0, none⟩ = false ∧ w.frozen? ⟨q, 1, none⟩ = false ∧ w.frozen? ⟨q, 2, none⟩ = false := by
  refine ⟨?_, ?_, ?_, ?_, ?_, ?_⟩ <;> simp [World.cell?, World.frozen?, h]
/-- A whole value stored in a block that is new since w. -/
theorem Dd.put3 {w w1 : World} {r q : Nat} (hq : w.heap.size ≤ q) (g : w.grownBy w1 (some r)) (x y z : Value) : w.grownBy (((w1.setCell ⟨q, 0, none⟩ x).setCell ⟨q, 1, none⟩ y).setCell ⟨q, 2, none⟩ z) (some r) ∧
    (r < w.heap.size → ∀ s l e, Ty.RS r s w1 l e → Ty.RS r s (((w1.setCell ⟨q, 0, none⟩ x).setCell ⟨q, 1, none⟩ y).setCell ⟨q, 2, none⟩ z) l e) := by
  have hb : ∀ k, k ≠ q → (((w1.setCell ⟨q, 0, none⟩ x).setCell ⟨q, 1, none⟩ y).setCell ⟨q, 2, none⟩ z).heap[k]? = w1.heap[k]? := fun k hk =>
    ((Below.heap_setCell _ _ _ _ hk).trans (Below.heap_setCell _ _ _ _ hk)).trans (Below.heap_setCell _ _ _ _ hk)
  refine ⟨⟨g.os, g.tape, g.output, by have := g.size; simpa [World.setCell] using this, fun k hk hn => (hb k (by omega)).trans (g.block k hk hn)⟩, fun hr s l e h => ?_⟩
  obtain ⟨a, h1, h2, h3⟩ := h
  exact ⟨a, h1, h2, (hb r (by omega)).trans h3⟩
theorem Dd.by_drew {w w1 : World} {r : Option Nat} (h : w.grownBy w1 r) : w.grownBy w1.drew r := ⟨h.os, h.tape, h.output, h.size, h.block⟩
theorem Dd.RS_drew {r : Nat} {s : ByteArray} {w : World} {l : List UInt8} {e : Nat} (h : Ty.RS r s w l e) : Ty.RS r s w.drew l e := h
set_option maxHeartbeats 2000000 in
set_option maxRecDepth 100000 in
theorem Dd.rvalue_c (r : Nat) (s : ByteArray) (hs : s.size ≤ 140737488351232) (c : Kn.C) (l : List UInt8) (w : World) (h : Ty.RS r s w l 0) :
    Calls Tryd.prog 31 #[.pointer (some ⟨r, 0, none⟩), c.val] w (Dd.RdV r s w (Dd.rdV c l)) := by
  have hG : w.grownBy ((w.alloc (.cells #[.int .i64 c.k, .bool c.null] 39)).alloc (.cells #[.bool false, .int .i64 0, .string ⟨#[]⟩] 43)) (some r) := Ty.by_some (Ty.by_below (((Below.refl _ w).alloc (Nat.le_refl _) _).alloc (by simp) _)) r
  have hb := (Below.refl _ (w.alloc (.cells #[.int .i64 c.k, .bool c.null] 39))).alloc (Nat.le_refl _) (.cells #[.bool false, .int .i64 0, .string ⟨#[]⟩] 43)
  have x0 := (hb.cell (p := ⟨w.heap.size, 0, none⟩) (by simp)).trans (Kn.cell_new w #[.int .i64 c.k, .bool c.null] 39 0 _ rfl)
  have x1 := (hb.cell (p := ⟨w.heap.size, 1, none⟩) (by simp)).trans (Kn.cell_new w #[.int .i64 c.k, .bool c.null] 39 1 _ rfl)
  simp only [List.getElem_toArray, List.getElem_cons_zero, List.getElem_cons_succ] at x0 x1
  have y := heap_alloc_new (w.alloc (.cells #[.int .i64 c.k, .bool c.null] 39)) (.cells #[.bool false, .int .i64 0, .string ⟨#[]⟩] 43)
  rw [World.size_alloc] at y
  have hh : Ty.RS r s ((w.alloc (.cells #[.int .i64 c.k, .bool c.null] 39)).alloc (.cells #[.bool false, .int .i64 0, .string ⟨#[]⟩] 43)) l 0 := Tx.RS_below h (((Below.refl _ w).alloc (Nat.le_refl _) _).alloc (by simp) _) (Tx.RS_lt h)
  have hrl : r < w.heap.size := Tx.RS_lt h
  have hk : (((c.k == 1) = true) ∧ c.k = 1) ∨ ((c.k == 1) = false ∧ c.k ≠ 1) := by
    by_cases h : c.k = 1
    · left; exact ⟨by rw [h]; rfl, h⟩
    · right; exact ⟨by rw [beq_eq_false_iff_ne]; exact h, h⟩
  have HG := Lib.hid hG
  have HY := Lib.hid y
  have HH := Lib.hid hh
  clear hG y hh h hb
  unfold Kn.C.val
  cases hc : c.null
  · rw [Dd.rdV_plain hc]
    rw [hc] at HG HY HH x0 x1
    rcases hk with ⟨hk, hk1⟩ | ⟨hk, hk1⟩
    · rw [Dd.rdP_num hk1]
      clear hk1 hc
      go_enter Tryd.func31, Tryd.ntmps31
      go_wp2_with fail
      generalize World.alloc _ _ = wo at HG HY HH x0 x1 ⊢
      have cu := Tx.rint_x r s hs l wo HH.out
      with_reducible refine cu.mono ?_
      rintro e w9 ⟨rfl, hR9, g9⟩
      have hy9 : w9.heap[w.heap.size + 1]? = some (.cells #[.bool false, .int .i64 0, .string ⟨#[]⟩] 43 (0, 0)) := by rw [g9.block _ (lt_of_block HY.out) (fun e => by have := Option.some.inj e; omega)]; exact HY.out
      obtain ⟨y0, y1, y2, z0, z1, z2⟩ := Dd.three hy9
      have he := Tx.RS_err hR9
      have HR9 := Lib.hid hR9
      have HG9 := Lib.hid (Ty.by_trans HG.out g9)
      clear cu hR9 g9 hy9
      go_wp2_with fail
      go_region
      go_wp2
      have HP := Lib.hid (Dd.put3 (w := w) (q := w.heap.size + 1) (by omega) HG9.out (.bool false) (.int .i64 (sg l)) (.string ⟨#[]⟩))
      (try simp only [Exit.inBlock, Exit.then])
      refine bodyPost_ret (v := .tuple #[.agg #[.bool false, .int .i64 (sg l), .string ⟨#[]⟩], .int .i64 (((num l).2.2 : Nat) : Int)]) ?_ rfl ⟨rfl, fun h0 => ?_, Dd.by_drew HP.out.1⟩
      · rw [results_cell_tmp rfl]
        go_simp
      · have hR := HR9.out
        simp only at h0
        rw [h0] at hR
        exact Dd.RS_drew (HP.out.2 hrl _ _ _ hR)
    · rw [Dd.rdP_str hk1]
      clear hk1 hc
      go_enter Tryd.func31, Tryd.ntmps31
      go_wp2_with fail
      generalize World.alloc _ _ = wo at HG HY HH x0 x1 ⊢
      have cu := Tx.rtext_r r s hs l wo HH.out
      with_reducible refine cu.mono ?_
      rintro e w9 ⟨rfl, hR9, g9⟩
      have hy9 : w9.heap[w.heap.size + 1]? = some (.cells #[.bool false, .int .i64 0, .string ⟨#[]⟩] 43 (0, 0)) := by rw [g9.block _ (lt_of_block HY.out) (fun e => by have := Option.some.inj e; omega)]; exact HY.out
      obtain ⟨y0, y1, y2, z0, z1, z2⟩ := Dd.three hy9
      have he := Tx.RS_err hR9
      have HR9 := Lib.hid hR9
      have HG9 := Lib.hid (Ty.by_trans HG.out g9)
      clear cu hR9 g9 hy9
      go_wp2_with fail
      go_region
      go_wp2
      have HP := Lib.hid (Dd.put3 (w := w) (q := w.heap.size + 1) (by omega) HG9.out (.bool false) (.int .i64 0) (.string (Ty.S (txt l 64).1)))
      (try simp only [Exit.inBlock, Exit.then])
      refine bodyPost_ret (v := .tuple #[.agg #[.bool false, .int .i64 0, .string (Ty.S (txt l 64).1)], .int .i64 (((txt l 64).2.2 : Nat) : Int)]) ?_ rfl ⟨rfl, fun h0 => ?_, Dd.by_drew HP.out.1⟩
      · rw [results_cell_tmp rfl]
        go_simp
      · have hR := HR9.out
        simp only at h0
        rw [h0] at hR
        exact Dd.RS_drew (HP.out.2 hrl _ _ _ hR)
  · rw [hc] at HG HY HH x0 x1
    have FT := Lib.hid fun h => Dd.rdV_true (l := l) hc h
    have FN := Lib.hid fun h hb => Dd.rdV_nul (l := l) hc h hb
    have FP := Lib.hid fun h hb => Dd.rdV_there (l := l) hc h hb
    have FU := Lib.hid fun (l2 : List UInt8) (h : c.k = 1) => Dd.rdP_num (l := l2) h
    have FS := Lib.hid fun (l2 : List UInt8) (h : c.k ≠ 1) => Dd.rdP_str (l := l2) h
    have CT := Lib.hid fun wz h => Dd.rtruth_c r s hs l wz h
    have HBAD : Hid ((Dd.rdF l).1 ≠ 0 → (Dd.rdF l).2.1 = false) := Lib.hid fun h => by
      cases l with
      | nil => rfl
      | cons b t =>
        simp only [Dd.rdF] at h ⊢
        by_cases h1 : 1 < b.toNat
        · rw [if_pos h1]
        · rw [if_neg h1] at h; exact absurd rfl h
    generalize Dd.rdV c l = RV at FT FN FP ⊢
    generalize Dd.rdF l = F at FT FN FP CT HBAD
    obtain ⟨E, B, l2⟩ := F
    simp only at FT FN FP CT HBAD
    clear hc
    by_cases hE : E = 0
    · subst hE
      cases B
      · have HR := Lib.hid (FP.out rfl rfl)
        rw [HR.out]
        rcases hk with ⟨hk, hk1⟩ | ⟨hk, hk1⟩
        · rw [FU.out _ hk1]
          clear hk1
          go_enter Tryd.func31, Tryd.ntmps31
          go_wp2_with fail
          generalize World.alloc _ _ = wo at HG HY HH x0 x1 ⊢
          with_reducible refine (CT.out _ HH.out).mono ?_
          rintro e w1 ⟨rfl, hR1, g1⟩
          have HR1 := Lib.hid (hR1 (by trivial))
          have hne : some w.heap.size ≠ some r := fun e => by have := Option.some.inj e; omega
          have k0 := g1.cell x0 hne
          have HY1 : Hid (w1.heap[w.heap.size + 1]? = some (.cells #[.bool false, .int .i64 0, .string ⟨#[]⟩] 43 (0, 0))) := Lib.hid (by rw [g1.block _ (lt_of_block HY.out) (fun e => by have := Option.some.inj e; omega)]; exact HY.out)
          have HG1 := Lib.hid (Ty.by_trans HG.out g1)
          simp only [Int.natCast_zero]
          clear hR1 g1 hne x0 x1
          go_wp2_with fail
          have cu := Tx.rint_x r s hs l2 w1 HR1.out
          with_reducible refine cu.mono ?_
          rintro e w9 ⟨rfl, hR9, g9⟩
          have hy9 : w9.heap[w.heap.size + 1]? = some (.cells #[.bool false, .int .i64 0, .string ⟨#[]⟩] 43 (0, 0)) := by rw [g9.block _ (lt_of_block HY1.out) (fun e => by have := Option.some.inj e; omega)]; exact HY1.out
          obtain ⟨y0, y1, y2, z0, z1, z2⟩ := Dd.three hy9
          have he := Tx.RS_err hR9
          have HR9 := Lib.hid hR9
          have HG9 := Lib.hid (Ty.by_trans HG1.out g9)
          clear cu hR9 g9 hy9
          go_wp2_with fail
          go_region
          go_wp2
          have HP := Lib.hid (Dd.put3 (w := w) (q := w.heap.size + 1) (by omega) HG9.out (.bool false) (.int .i64 (sg l2)) (.string ⟨#[]⟩))
          (try simp only [Exit.inBlock, Exit.then])
          refine bodyPost_ret (v := .tuple #[.agg #[.bool false, .int .i64 (sg l2), .string ⟨#[]⟩], .int .i64 (((num l2).2.2 : Nat) : Int)]) ?_ rfl ⟨rfl, fun h0 => ?_, Dd.by_drew HP.out.1⟩
          · rw [results_cell_tmp rfl]
            go_simp
          · have hR := HR9.out
            simp only at h0
            rw [h0] at hR
            exact Dd.RS_drew (HP.out.2 hrl _ _ _ hR)
        · rw [FS.out _ hk1]
          clear hk1
          go_enter Tryd.func31, Tryd.ntmps31
          go_wp2_with fail
          generalize World.alloc _ _ = wo at HG HY HH x0 x1 ⊢
          with_reducible refine (CT.out _ HH.out).mono ?_
          rintro e w1 ⟨rfl, hR1, g1⟩
          have HR1 := Lib.hid (hR1 (by trivial))
          have hne : some w.heap.size ≠ some r := fun e => by have := Option.some.inj e; omega
          have k0 := g1.cell x0 hne
          have HY1 : Hid (w1.heap[w.heap.size + 1]? = some (.cells #[.bool false, .int .i64 0, .string ⟨#[]⟩] 43 (0, 0))) := Lib.hid (by rw [g1.block _ (lt_of_block HY.out) (fun e => by have := Option.some.inj e; omega)]; exact HY.out)
          have HG1 := Lib.hid (Ty.by_trans HG.out g1)
          simp only [Int.natCast_zero]
          clear hR1 g1 hne x0 x1
          go_wp2_with fail
          have cu := Tx.rtext_r r s hs l2 w1 HR1.out
          with_reducible refine cu.mono ?_
          rintro e w9 ⟨rfl, hR9, g9⟩
          have hy9 : w9.heap[w.heap.size + 1]? = some (.cells #[.bool false, .int .i64 0, .string ⟨#[]⟩] 43 (0, 0)) := by rw [g9.block _ (lt_of_block HY1.out) (fun e => by have := Option.some.inj e; omega)]; exact HY1.out
          obtain ⟨y0, y1, y2, z0, z1, z2⟩ := Dd.three hy9
          have he := Tx.RS_err hR9
          have HR9 := Lib.hid hR9
          have HG9 := Lib.hid (Ty.by_trans HG1.out g9)
          clear cu hR9 g9 hy9
          go_wp2_with fail
          go_region
          go_wp2
          have HP := Lib.hid (Dd.put3 (w := w) (q := w.heap.size + 1) (by omega) HG9.out (.bool false) (.int .i64 0) (.string (Ty.S (txt l2 64).1)))
          (try simp only [Exit.inBlock, Exit.then])
          refine bodyPost_ret (v := .tuple #[.agg #[.bool false, .int .i64 0, .string (Ty.S (txt l2 64).1)], .int .i64 (((txt l2 64).2.2 : Nat) : Int)]) ?_ rfl ⟨rfl, fun h0 => ?_, Dd.by_drew HP.out.1⟩
          · rw [results_cell_tmp rfl]
            go_simp
          · have hR := HR9.out
            simp only at h0
            rw [h0] at hR
            exact Dd.RS_drew (HP.out.2 hrl _ _ _ hR)
      · have HR := Lib.hid (FN.out rfl rfl)
        go_enter Tryd.func31, Tryd.ntmps31
        go_wp2_with fail
        generalize World.alloc _ _ = wo at HG HY HH x0 x1 ⊢
        with_reducible refine (CT.out _ HH.out).mono ?_
        rintro e w1 ⟨rfl, hR1, g1⟩
        have hy9 : w1.heap[w.heap.size + 1]? = some (.cells #[.bool false, .int .i64 0, .string ⟨#[]⟩] 43 (0, 0)) := by rw [g1.block _ (lt_of_block HY.out) (fun e => by have := Option.some.inj e; omega)]; exact HY.out
        obtain ⟨y0, y1, y2, z0, z1, z2⟩ := Dd.three hy9
        have HG9 := Lib.hid (Ty.by_trans HG.out g1)
        have HR1 := Lib.hid hR1
        simp only [Int.natCast_zero]
        clear hR1 g1 x0 x1 hy9
        go_wp2
        have HP := Lib.hid (Dd.put3 (w := w) (q := w.heap.size + 1) (by omega) HG9.out (.bool true) (.int .i64 0) (.string ⟨#[]⟩))
        (try simp only [Exit.inBlock, Exit.then])
        refine bodyPost_ret (v := .tuple #[.agg #[.bool true, .int .i64 0, .string ⟨#[]⟩], .int .i64 0]) ?_ rfl ⟨by rw [HR.out]; rfl, fun h0 => ?_, HP.out.1⟩
        · rw [results_cell_tmp rfl]
          go_simp
        · rw [HR.out]; exact HP.out.2 hrl _ _ _ (HR1.out (by trivial))
    · have HR := Lib.hid (FT.out hE)
      have hEb : ((E : Int) != 0) = true := by rw [bne_iff_ne]; omega
      obtain rfl := HBAD.out hE
      have HEN := Lib.hid hE
      clear hE
      go_enter Tryd.func31, Tryd.ntmps31
      go_wp2_with fail
      generalize World.alloc _ _ = wo at HG HY HH x0 x1 ⊢
      with_reducible refine (CT.out _ HH.out).mono ?_
      rintro e w1 ⟨rfl, hR1, g1⟩
      have hy9 : w1.heap[w.heap.size + 1]? = some (.cells #[.bool false, .int .i64 0, .string ⟨#[]⟩] 43 (0, 0)) := by rw [g1.block _ (lt_of_block HY.out) (fun e => by have := Option.some.inj e; omega)]; exact HY.out
      obtain ⟨y0, y1, y2, z0, z1, z2⟩ := Dd.three hy9
      have HG9 := Lib.hid (Ty.by_trans HG.out g1)
      have HR1 := Lib.hid hR1
      clear hR1 g1 x0 x1 hy9
      go_wp2
      have HP := Lib.hid (Dd.put3 (w := w) (q := w.heap.size + 1) (by omega) HG9.out (.bool false) (.int .i64 0) (.string ⟨#[]⟩))
      (try simp only [Exit.inBlock, Exit.then])
      refine bodyPost_ret (v := .tuple #[.agg #[.bool false, .int .i64 0, .string ⟨#[]⟩], .int .i64 (E : Int)]) ?_ rfl ⟨by rw [HR.out]; rfl, fun h0 => ?_, HP.out.1⟩
      · rw [results_cell_tmp rfl]
        go_simp
      · rw [HR.out] at h0; exact absurd h0 HEN.out
end Go.Proofs.YtccjfmjgkkpndaaDoor
