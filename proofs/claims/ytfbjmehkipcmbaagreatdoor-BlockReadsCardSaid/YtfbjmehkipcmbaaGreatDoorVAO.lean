/-
  The document's answers for package ints: Read.
  The mathematics of the walk of pick: one lemma for each way out; the marks of the strings that are used.
  The document's answers for package texts: pick, where it fails ahead of the indices.
  The document's answers for package texts: pick, where the bytes are there.
-/
import Derived.Test.YtfbjmehkipcmbaaGreatDoorVAN
import Derived.Test.YtfbjmehkipcmbaaGreatDoorVAM
import Derived.Deep.RegionHeld3
import Derived.Deep.OwnRows
namespace Go.Proofs.YtfbjmehkipcmbaaGreatDoor
open Go.RowKit
open Ig (nth sg rest rd rdBody rdInts acc)
open Ty (num)
theorem Ig.add_wrap {x y : Int} : wrap64 (IntKind.u64.wrap (IntKind.u64.wrap y + IntKind.u64.wrap x)) = wrap64 (y + x) := by
  simp only [IntKind.wrap_u64]
  unfold wrap64
  omega
theorem Ig.grew_by3 {w w' : World} {v v' : Value} (h : Ty.Grew w w' v v') {w0 : World} {b : Nat} (g : w0.grownBy w (some b)) (hv : ∀ k, v.ownBlock = some k → w0.heap.size ≤ k) : w0.grownBy w' (some b) := Ig.grew_by h g hv
theorem Ig.acc_snoc : ∀ (M : List Int) (p x : Int), acc p (M ++ [x]) = acc p M ++ [wrap64 ((acc p M).getLastD p + x)]
  | [], p, x => rfl
  | a :: M, p, x => by
    simp only [List.cons_append, acc]
    rw [Ig.acc_snoc M (wrap64 (p + a)) x, List.getLastD_cons]
theorem Ig.lastD_nth {L : List Int} {q : Nat} (h : L.length = q + 1) (p : Int) : L.getLastD p = nth L q := by
  rw [List.getLastD_eq_getLast?, Ig.last_nth h]
  rfl
def Ig.ofK (K : Nat) (M : List Int) : List Int := if K = 0 then M else acc 0 M
def Ig.LoopR (K n : Nat) (l : List UInt8) (j : Nat) (M2 : List Int) (l2 : List UInt8) (er : Nat) : Prop :=
  (er = 0 ∧ ∃ M, Ig.Mid n l j M l2 ∧ M2 = Ig.ofK K M) ∨ (er ≠ 0 ∧ (rdInts n l).1 = er ∧ j ≤ n)
theorem Ig.LoopR.start (K n : Nat) (l : List UInt8) : Ig.LoopR K n l 0 [] l 0 := .inl ⟨rfl, [], ⟨rfl, by omega, Nat.le_refl _, by simp⟩, by unfold Ig.ofK; split <;> rfl⟩
theorem Ig.LoopR.step {K n : Nat} {l : List UInt8} {j : Nat} {M : List Int} {l2 : List UInt8} (hM : Ig.Mid n l j M l2) (hj : j < n) {M3 : List Int} (h3 : M3 = Ig.ofK K (M ++ [sg l2])) : Ig.LoopR K n l (j + 1) M3 (rest l2) (num l2).2.2 := by
  by_cases h : (num l2).2.2 = 0
  · exact .inl ⟨h, _, hM.next hj h, h3⟩
  · exact .inr ⟨h, hM.fail hj h, by omega⟩
theorem Ig.LoopR.next0 {n : Nat} {l : List UInt8} {j : Nat} {M M2 : List Int} {l2 : List UInt8} (hM : Ig.Mid n l j M l2) (h2 : M2 = Ig.ofK 0 M) (hj : j < n) : Ig.LoopR 0 n l (j + 1) (M2 ++ [sg l2]) (rest l2) (num l2).2.2 :=
  Ig.LoopR.step hM hj (by rw [h2]; rfl)
theorem Ig.LoopR.next1a {n : Nat} {l : List UInt8} {j : Nat} {M M2 : List Int} {l2 : List UInt8} (hM : Ig.Mid n l j M l2) (h2 : M2 = Ig.ofK 1 M) (hj : j < n) (h0 : j = 0) : Ig.LoopR 1 n l (j + 1) (M2 ++ [sg l2]) (rest l2) (num l2).2.2 := by
  have hm : M = [] := List.eq_nil_of_length_eq_zero (by rw [hM.1]; exact h0)
  refine Ig.LoopR.step hM hj ?_
  rw [h2, hm]
  have hx := Ig.sg_i64 l2
  have e : wrap64 (0 + sg l2) = sg l2 := by
    unfold Ty.I64 at hx
    unfold wrap64
    omega
  show [] ++ [sg l2] = [wrap64 (0 + sg l2)]
  rw [e]; rfl
theorem Ig.LoopR.next1b {n : Nat} {l : List UInt8} {p : Nat} {M M2 : List Int} {l2 : List UInt8} (hM : Ig.Mid n l (p + 1) M l2) (h2 : M2 = Ig.ofK 1 M) (hj : p + 1 < n) (hl : M2.length = p + 1) : Ig.LoopR 1 n l (p + 1 + 1) (M2 ++ [wrap64 (nth M2 p + sg l2)]) (rest l2) (num l2).2.2 := by
  refine Ig.LoopR.step hM hj ?_
  have h3 : M2 = acc 0 M := h2
  show _ = acc 0 (M ++ [sg l2])
  rw [Ig.acc_snoc, ← h3, Ig.lastD_nth hl]
theorem Ig.body0 {n : Nat} {l l2 : List UInt8} {M : List Int} (h : Ig.Mid n l n M l2) : rdBody 0 n l = (0, Ig.ofK 0 M, l2) := by
  show rdInts n l = _
  rw [h.done]; rfl
theorem Ig.body1 {n : Nat} {l l2 : List UInt8} {M : List Int} (h : Ig.Mid n l n M l2) : rdBody 1 n l = (0, Ig.ofK 1 M, l2) := by
  show ((rdInts n l).1, acc 0 (rdInts n l).2.1, (rdInts n l).2.2) = _
  rw [h.done]; rfl
theorem Ig.RS_new (s : ByteArray) (w : World) : Ty.RS w.heap.size s (w.alloc (.cells #[.string s, .int .i64 0, .int .i64 0] 68)) s.data.toList 0 :=
  ⟨0, Nat.zero_le _, by simp, heap_alloc_new w _⟩
set_option maxHeartbeats 4000000 in
set_option maxRecDepth 100000 in
theorem Ig.rread_c (s : ByteArray) (w : World) (hs : s.size ≤ 140737488351232) :
    Calls Tryz.prog 92 #[.string s] w (Ig.Got w (rd s.data.toList)) := by
  have HRS0 := Lib.hid (Ig.RS_new s w)
  have HB1 : Hid (Below w.heap.size w (w.alloc (.cells #[.string s, .int .i64 0, .int .i64 0] 68))) := Lib.hid ((Below.refl _ _).alloc (Nat.le_refl _) _)
  generalize s.data.toList = l at HRS0 ⊢
  cases l with
  | nil =>
    have HR : Hid (rd [] = (2, [])) := Lib.hid rfl
    have e1 : Ty.rdB [] 0 = (0, [], 2) := rfl
    have e2 : Ty.rdU [] 2 = (0, [], 2) := rfl
    have cb := fun wz (hc : Ty.RS w.heap.size s wz [] 0) => Ty.rbyte_m w.heap.size s hs [] 0 wz hc
    have cu := fun wz (hc : Ty.RS w.heap.size s wz [] 2) => Ty.ruint_m w.heap.size s hs [] 2 wz hc
    rw [e1] at cb
    rw [e2] at cu
    simp only [Int.natCast_zero] at cb cu
    clear e1 e2
    go_enter Tryz.func92, Tryz.ntmps92
    go_wp2_with fail
    have cb0 := cb _ HRS0.out
    clear cb
    refine cb0.mono ?_
    rintro e w2 ⟨rfl, hc2, hg2⟩
    have he2 := Ig.RS_err hc2
    simp only [Int.cast_ofNat_Int] at he2
    have HB2 := Lib.hid (HB1.out.trans (Ty.below_at (B := w.heap.size) hg2 HB1.out.size (Nat.le_refl _)))
    have hs2 := HB2.out.size
    have cu2 := cu _ hc2
    clear cb0 hc2 hg2 cu
    go_wp2_with fail
    refine cu2.mono ?_
    rintro e w3 ⟨rfl, hc3, hg3⟩
    have he3 := Ig.RS_err hc3
    simp only [Int.cast_ofNat_Int] at he3
    have HB3 := Lib.hid (HB2.out.trans (Ty.below_at (B := w.heap.size) hg3 hs2 (Nat.le_refl _)))
    have hs3 := HB3.out.size
    have HC3 := Lib.hid hc3
    clear cu2 hg3 he2 hc3
    go_wp2_with fail
    go_quiet (fail)
    go_wp2
    go_ret2
    exact Ig.Got.bad HR.out rfl (HB3.out.trans ((Bt.drewN_below _ _).mono HB3.out.size))
  | cons x r =>
    have cb := fun wz (hc : Ty.RS w.heap.size s wz (x :: r) 0) => Ig.rbyte_x w.heap.size s hs x r wz hc
    by_cases h3 : 3 < x.toNat
    · have HR := Lib.hid (Ig.rd1 (r := r) h3)
      have h3i : (3 : Int) < (x.toNat : Int) := by omega
      clear h3
      go_enter Tryz.func92, Tryz.ntmps92
      go_wp2_with fail
      have cb0 := cb _ HRS0.out
      clear cb
      refine cb0.mono ?_
      rintro e w2 ⟨rfl, hc2, hg2⟩
      have he2 := Ig.RS_err hc2
      simp only [Int.natCast_zero] at he2
      have HB2 := Lib.hid (HB1.out.trans (Ty.below_at (B := w.heap.size) hg2 HB1.out.size (Nat.le_refl _)))
      have hs2 := HB2.out.size
      go_wp2
      go_ret2
      exact Ig.Got.bad HR.out rfl HB2.out
    · have h3i : (x.toNat : Int) ≤ 3 := by omega
      have cu := fun wz (hc : Ty.RS w.heap.size s wz r 0) => Ig.ruint_x w.heap.size s hs r wz hc
      by_cases he : (num r).2.2 = 0
      · rw [he] at cu
        by_cases hnl : 65536 < (num r).1
        · have HR := Lib.hid (Ig.rd3 (r := r) h3 he hnl)
          generalize (num r).1 = n at cu hnl
          generalize rest r = l3 at cu
          have hni : (65536 : Int) < (n : Int) := by omega
          clear he h3 hnl
          go_enter Tryz.func92, Tryz.ntmps92
          go_wp2_with fail
          have cb0 := cb _ HRS0.out
          clear cb
          refine cb0.mono ?_
          rintro e w2 ⟨rfl, hc2, hg2⟩
          have he2 := Ig.RS_err hc2
          simp only [Int.natCast_zero] at he2
          have HB2 := Lib.hid (HB1.out.trans (Ty.below_at (B := w.heap.size) hg2 HB1.out.size (Nat.le_refl _)))
          have hs2 := HB2.out.size
          have cu2 := cu _ hc2
          clear cb0 hc2 hg2 cu
          go_wp2_with fail
          refine cu2.mono ?_
          rintro e w3 ⟨rfl, hc3, hg3⟩
          have he3 := Ig.RS_err hc3
          simp only [Int.natCast_zero] at he3
          have HB3 := Lib.hid (HB2.out.trans (Ty.below_at (B := w.heap.size) hg3 hs2 (Nat.le_refl _)))
          have hs3 := HB3.out.size
          have HC3 := Lib.hid hc3
          clear cu2 hg3 he2 hc3
          go_wp2
          go_ret2
          exact Ig.Got.bad HR.out rfl HB3.out
        · have hnl2 : (num r).1 ≤ 65536 := by omega
          obtain ⟨K, hK⟩ : ∃ K, K = x.toNat := ⟨_, rfl⟩
          have G4 := Lib.hid (fun h4 => Ig.rd4 (r := r) h3 he hnl h4)
          have G5 := Lib.hid (fun h4 h5 => Ig.rd5 (r := r) h3 he hnl h4 h5)
          have G6 := Lib.hid (fun h4 h5 => Ig.rd6 (r := r) h3 he hnl h4 h5)
          rw [← hK] at cb G4 G5 G6 h3i h3
          generalize (num r).1 = n at cu hnl2 hnl G4 G5 G6
          generalize rest r = l3 at cu G4 G5 G6
          have hni : ¬ (65536 : Int) < (n : Int) := by omega
          have hni2 : (n : Int) ≤ 65536 := by omega
          have hK0 : (0 : Int) ≤ (K : Int) := by omega
          have HK := Lib.hid hK
          clear he hK hnl
          rcases (by omega : K = 2 ∨ K = 3 ∨ K = 0 ∨ K = 1) with hKK | hKK | hKK | hKK
          · have k2 : ((K : Int) == 2) = true := by rw [beq_iff_eq]; omega
            have cr := fun wz h1 => Ig.rreadRuns_c w.heap.size s hs l3 n wz h1 hnl2
            have ht : rdBody K n l3 = Ig.rdR n l3 := by rw [hKK]; rfl
            rw [ht] at G4 G5 G6
            generalize Ig.rdR n l3 = t at cr G4 G5 G6
            clear ht hKK h3
            go_enter Tryz.func92, Tryz.ntmps92
            go_wp2_with fail
            have cb0 := cb _ HRS0.out
            clear cb
            refine cb0.mono ?_
            rintro e w2 ⟨rfl, hc2, hg2⟩
            have he2 := Ig.RS_err hc2
            simp only [Int.natCast_zero] at he2
            have HB2 := Lib.hid (HB1.out.trans (Ty.below_at (B := w.heap.size) hg2 HB1.out.size (Nat.le_refl _)))
            have hs2 := HB2.out.size
            have cu2 := cu _ hc2
            clear cb0 hc2 hg2 cu
            go_wp2_with fail
            refine cu2.mono ?_
            rintro e w3 ⟨rfl, hc3, hg3⟩
            have he3 := Ig.RS_err hc3
            simp only [Int.natCast_zero] at he3
            have HB3 := Lib.hid (HB2.out.trans (Ty.below_at (B := w.heap.size) hg3 hs2 (Nat.le_refl _)))
            have hs3 := HB3.out.size
            have HC3 := Lib.hid hc3
            clear cu2 hg3 he2 hc3
            go_wp2_with fail
            refine (cr _ HC3.out).mono ?_
            rintro e w7 ⟨v7, rfl, hO7, hc7, hg7⟩
            have hbase : w.heap.size < w3.heap.size := Ig.RS_lt HC3.out
            have HO7 := Lib.hid hO7
            have HC7 := Lib.hid hc7
            have HB7 := Lib.hid (HB3.out.trans (Ty.below_at (B := w.heap.size) hg7 hs3 (Nat.le_refl _)))
            clear cr hO7 hc7 hg7 he3
            obtain ⟨a7, c7, rfl⟩ := Ig.own_len HO7.out
            obtain ⟨C, L, l4⟩ := t
            simp only at HO7 HC7 G4 G5 G6 ⊢
            by_cases hC : C = 0
            · subst hC
              have hc7 := HC7.out rfl
              have HO8 := HO7
              simp only [if_true] at HO8
              have hil : (if (0 : Nat) = 0 then L else []).length = L.length := by rw [if_pos rfl]
              rw [hil]
              simp only [Int.natCast_zero]
              clear hil
              have hd := Ty.rdone_m w.heap.size s hs l4 0 _ hc7
              clear hc7
              by_cases hl4 : l4 = []
              · have HR := Lib.hid (G6.out (by trivial) hl4)
                have hf : Ty.fin l4 0 = 0 := by rw [hl4]; rfl
                rw [hf] at hd
                simp only [Int.natCast_zero] at hd
                clear hl4 hf
                go_wp2_with fail
                refine hd.mono ?_
                rintro e w8 ⟨rfl, _, hg8⟩
                have HB8 := Lib.hid (HB7.out.trans (Ty.below_at (B := w.heap.size) hg8 HB7.out.size (Nat.le_refl _)))
                have HA9 := Lib.hid (Ig.Own.at (Ig.Own.by HO8.out hg8 hbase))
                clear hd hg8
                go_wp2
                go_ret2
                exact Ig.Got.good HR.out HA9.out HB8.out
              · have HR := Lib.hid (G5.out (by trivial) hl4)
                have hf : Ty.fin l4 0 = 5 := by unfold Ty.fin; rw [if_pos ⟨rfl, hl4⟩]
                rw [hf] at hd
                simp only [Int.cast_ofNat_Int] at hd
                clear hl4 hf
                go_wp2_with fail
                refine hd.mono ?_
                rintro e w8 ⟨rfl, _, hg8⟩
                have HB8 := Lib.hid (HB7.out.trans (Ty.below_at (B := w.heap.size) hg8 HB7.out.size (Nat.le_refl _)))
                clear hd hg8
                go_wp2
                go_ret2
                exact Ig.Got.bad HR.out rfl HB8.out
            · have HR := Lib.hid (G4.out hC)
              have hne : ((C : Int) != 0) = true := by rw [bne_iff_ne]; omega
              have hne2 : ((C : Int) == 0) = false := by rw [beq_eq_false_iff_ne]; omega
              simp only [if_neg hC, List.length_nil]
              clear hC
              go_wp2
              go_ret2
              exact Ig.Got.bad HR.out rfl HB7.out
          · have k2 : ((K : Int) == 2) = false := by rw [beq_eq_false_iff_ne]; omega
            have k3 : ((K : Int) == 3) = true := by rw [beq_iff_eq]; omega
            have k4 : ¬ (K : Int) < 2 := by omega
            by_cases hn0 : n = 0
            · have ht : rdBody K n l3 = (0, [], l3) := by rw [hKK, hn0]; rfl
              rw [ht] at G4 G5 G6
              simp only at G4 G5 G6
              have hnz : ¬ (0 : Int) < (n : Int) := by omega
              clear ht hKK h3 hn0
              go_enter Tryz.func92, Tryz.ntmps92
              go_wp2_with fail
              have cb0 := cb _ HRS0.out
              clear cb
              refine cb0.mono ?_
              rintro e w2 ⟨rfl, hc2, hg2⟩
              have he2 := Ig.RS_err hc2
              simp only [Int.natCast_zero] at he2
              have HB2 := Lib.hid (HB1.out.trans (Ty.below_at (B := w.heap.size) hg2 HB1.out.size (Nat.le_refl _)))
              have hs2 := HB2.out.size
              have cu2 := cu _ hc2
              clear cb0 hc2 hg2 cu
              go_wp2_with fail
              refine cu2.mono ?_
              rintro e w3 ⟨rfl, hc3, hg3⟩
              have he3 := Ig.RS_err hc3
              simp only [Int.natCast_zero] at he3
              have HB3 := Lib.hid (HB2.out.trans (Ty.below_at (B := w.heap.size) hg3 hs2 (Nat.le_refl _)))
              have hs3 := HB3.out.size
              have HC3 := Lib.hid hc3
              clear cu2 hg3 he2 hc3
              have hbase : w.heap.size < w3.heap.size := Ig.RS_lt HC3.out
              have hc7 := HC3.out
              have HB7 := HB3
              have HO8 : Hid (Ig.Own w3.heap.size w3 (.slice none 0 0) []) := Lib.hid (Ig.Own.nil _ _)
              generalize l3 = l4 at G5 G6 hc7
              have hd := Ty.rdone_m w.heap.size s hs l4 0 _ hc7
              clear hc7
              by_cases hl4 : l4 = []
              · have HR := Lib.hid (G6.out (by trivial) hl4)
                have hf : Ty.fin l4 0 = 0 := by rw [hl4]; rfl
                rw [hf] at hd
                simp only [Int.natCast_zero] at hd
                clear hl4 hf
                go_wp2_with fail
                refine hd.mono ?_
                rintro e w8 ⟨rfl, _, hg8⟩
                have HB8 := Lib.hid (HB7.out.trans (Ty.below_at (B := w.heap.size) hg8 HB7.out.size (Nat.le_refl _)))
                have HA9 := Lib.hid (Ig.Own.at (Ig.Own.by HO8.out hg8 hbase))
                clear hd hg8
                go_wp2
                go_ret2
                exact Ig.Got.good HR.out HA9.out HB8.out
              · have HR := Lib.hid (G5.out (by trivial) hl4)
                have hf : Ty.fin l4 0 = 5 := by unfold Ty.fin; rw [if_pos ⟨rfl, hl4⟩]
                rw [hf] at hd
                simp only [Int.cast_ofNat_Int] at hd
                clear hl4 hf
                go_wp2_with fail
                refine hd.mono ?_
                rintro e w8 ⟨rfl, _, hg8⟩
                have HB8 := Lib.hid (HB7.out.trans (Ty.below_at (B := w.heap.size) hg8 HB7.out.size (Nat.le_refl _)))
                clear hd hg8
                go_wp2
                go_ret2
                exact Ig.Got.bad HR.out rfl HB8.out
            · have cr := fun wz h1 => Ig.rreadPacked_c w.heap.size s hs l3 n wz h1 (by omega) hnl2
              have ht : rdBody K n l3 = Ig.rdPacked n l3 := by
                rw [hKK]
                show (if n = 0 then (0, [], l3) else Ig.rdPacked n l3) = _
                rw [if_neg hn0]
              have hnz : (0 : Int) < (n : Int) := by omega
              rw [ht] at G4 G5 G6
              generalize Ig.rdPacked n l3 = t at cr G4 G5 G6
              clear ht hKK h3 hn0
              go_enter Tryz.func92, Tryz.ntmps92
              go_wp2_with fail
              have cb0 := cb _ HRS0.out
              clear cb
              refine cb0.mono ?_
              rintro e w2 ⟨rfl, hc2, hg2⟩
              have he2 := Ig.RS_err hc2
              simp only [Int.natCast_zero] at he2
              have HB2 := Lib.hid (HB1.out.trans (Ty.below_at (B := w.heap.size) hg2 HB1.out.size (Nat.le_refl _)))
              have hs2 := HB2.out.size
              have cu2 := cu _ hc2
              clear cb0 hc2 hg2 cu
              go_wp2_with fail
              refine cu2.mono ?_
              rintro e w3 ⟨rfl, hc3, hg3⟩
              have he3 := Ig.RS_err hc3
              simp only [Int.natCast_zero] at he3
              have HB3 := Lib.hid (HB2.out.trans (Ty.below_at (B := w.heap.size) hg3 hs2 (Nat.le_refl _)))
              have hs3 := HB3.out.size
              have HC3 := Lib.hid hc3
              clear cu2 hg3 he2 hc3
              go_wp2_with fail
              refine (cr _ HC3.out).mono ?_
              rintro e w7 ⟨v7, rfl, hO7, hc7, hg7⟩
              have hbase : w.heap.size < w3.heap.size := Ig.RS_lt HC3.out
              have HO7 := Lib.hid hO7
              have HC7 := Lib.hid hc7
              have HB7 := Lib.hid (HB3.out.trans (Ty.below_at (B := w.heap.size) hg7 hs3 (Nat.le_refl _)))
              clear cr hO7 hc7 hg7 he3
              obtain ⟨a7, c7, rfl⟩ := Ig.own_len HO7.out
              obtain ⟨C, L, l4⟩ := t
              simp only at HO7 HC7 G4 G5 G6 ⊢
              by_cases hC : C = 0
              · subst hC
                have hc7 := HC7.out rfl
                have HO8 := HO7
                simp only [if_true] at HO8
                have hil : (if (0 : Nat) = 0 then L else []).length = L.length := by rw [if_pos rfl]
                rw [hil]
                simp only [Int.natCast_zero]
                clear hil
                have hd := Ty.rdone_m w.heap.size s hs l4 0 _ hc7
                clear hc7
                by_cases hl4 : l4 = []
                · have HR := Lib.hid (G6.out (by trivial) hl4)
                  have hf : Ty.fin l4 0 = 0 := by rw [hl4]; rfl
                  rw [hf] at hd
                  simp only [Int.natCast_zero] at hd
                  clear hl4 hf
                  go_wp2_with fail
                  refine hd.mono ?_
                  rintro e w8 ⟨rfl, _, hg8⟩
                  have HB8 := Lib.hid (HB7.out.trans (Ty.below_at (B := w.heap.size) hg8 HB7.out.size (Nat.le_refl _)))
                  have HA9 := Lib.hid (Ig.Own.at (Ig.Own.by HO8.out hg8 hbase))
                  clear hd hg8
                  go_wp2
                  go_ret2
                  exact Ig.Got.good HR.out HA9.out HB8.out
                · have HR := Lib.hid (G5.out (by trivial) hl4)
                  have hf : Ty.fin l4 0 = 5 := by unfold Ty.fin; rw [if_pos ⟨rfl, hl4⟩]
                  rw [hf] at hd
                  simp only [Int.cast_ofNat_Int] at hd
                  clear hl4 hf
                  go_wp2_with fail
                  refine hd.mono ?_
                  rintro e w8 ⟨rfl, _, hg8⟩
                  have HB8 := Lib.hid (HB7.out.trans (Ty.below_at (B := w.heap.size) hg8 HB7.out.size (Nat.le_refl _)))
                  clear hd hg8
                  go_wp2
                  go_ret2
                  exact Ig.Got.bad HR.out rfl HB8.out
              · have HR := Lib.hid (G4.out hC)
                have hne : ((C : Int) != 0) = true := by rw [bne_iff_ne]; omega
                have hne2 : ((C : Int) == 0) = false := by rw [beq_eq_false_iff_ne]; omega
                simp only [if_neg hC, List.length_nil]
                clear hC
                go_wp2
                go_ret2
                exact Ig.Got.bad HR.out rfl HB7.out
          · have k1 : ((K : Int) == 1) = false := by rw [beq_eq_false_iff_ne]; omega
            have k2 : ((K : Int) == 2) = false := by rw [beq_eq_false_iff_ne]; omega
            have k3 : ((K : Int) == 3) = false := by rw [beq_eq_false_iff_ne]; omega
            have k4 : (K : Int) < 2 := by omega
            rw [hKK] at G4 G5 G6
            clear hKK h3
            go_enter Tryz.func92, Tryz.ntmps92
            go_wp2_with fail
            have cb0 := cb _ HRS0.out
            clear cb
            refine cb0.mono ?_
            rintro e w2 ⟨rfl, hc2, hg2⟩
            have he2 := Ig.RS_err hc2
            simp only [Int.natCast_zero] at he2
            have HB2 := Lib.hid (HB1.out.trans (Ty.below_at (B := w.heap.size) hg2 HB1.out.size (Nat.le_refl _)))
            have hs2 := HB2.out.size
            have cu2 := cu _ hc2
            clear cb0 hc2 hg2 cu
            go_wp2_with fail
            refine cu2.mono ?_
            rintro e w3 ⟨rfl, hc3, hg3⟩
            have he3 := Ig.RS_err hc3
            simp only [Int.natCast_zero] at he3
            have HB3 := Lib.hid (HB2.out.trans (Ty.below_at (B := w.heap.size) hg3 hs2 (Nat.le_refl _)))
            have hs3 := HB3.out.size
            have HC3 := Lib.hid hc3
            clear cu2 hg3 he2 hc3
            go_wp2_with fail
            have hbase : w.heap.size < w3.heap.size := Ig.RS_lt HC3.out
            go_loopw [7, 9] (fun v i wr => ∃ (j : Nat) (M2 : List Int) (l2 : List UInt8) (er : Nat), i = .int .u64 ((j : Nat) : Int) ∧ M2.length = j ∧ Ig.Own w3.heap.size wr v M2 ∧ Ty.RS w.heap.size s wr l2 er ∧ w3.grownBy wr (some w.heap.size) ∧ Ig.LoopR 0 n l3 j M2 l2 er) (fun _ i _ => n - (intOf i).toNat)
            case atStart => exact ⟨0, [], l3, 0, rfl, rfl, Ig.Own.nil _ _, HC3.out, Ty.by_refl _ _, Ig.LoopR.start 0 n l3⟩
            case round =>
              obtain ⟨j, M2, l2, er, rfl, hml, hO, hR, hg, hLR⟩ := hrel
              have he := Ig.RS_err hR
              have HO := Lib.hid hO
              have HG := Lib.hid hg
              have HML := Lib.hid hml
              have HRR := Lib.hid hR
              have hgs := hg.size
              obtain ⟨a2, c2, rfl⟩ := Ig.own_len hO
              clear hO hg hR he3
              have hj0 : (0 : Int) ≤ (j : Int) := by omega
              rcases hLR with ⟨rfl, M, hM, hMM⟩ | ⟨he0, hE, hjn⟩
              · simp only [Int.natCast_zero] at he
                have hjn := hM.2.1
                by_cases hjl : j < n
                · have hji : (j : Int) < (n : Int) := by omega
                  have ci := Ig.rint_x w.heap.size s hs l2 _ HRR.out
                  have HLN := Lib.hid (Ig.LoopR.next0 hM hMM hjl)
                  generalize (num l2).2.2 = q at ci HLN
                  generalize sg l2 = x at ci HLN
                  generalize rest l2 = l5 at ci HLN
                  clear hM hMM hml
                  have hlen2 : M2.length + 1 ≤ 65537 := by have := HML.out; omega
                  go_wp2_with fail
                  refine ci.mono ?_
                  rintro e w5 ⟨rfl, hc5, hg5⟩
                  have HC5 := Lib.hid hc5
                  have HO5 := Lib.hid (HO.out.by hg5 hbase)
                  have HG5 := Lib.hid (Ty.by_trans HG.out hg5)
                  have hs5 := hg5.size
                  clear ci hc5 hg5
                  go_wp2_with (at_builtin; refine Bt.wpList_append_one 2 115 (.int .i64 0) 8 Tryz.underlying115 Ig.infoI rfl (HO5.out.pre (x)) (by omega) (by omega) (by omega) (.tmp 95) (.tmp 97) _ rfl rfl rfl rfl rfl ?_; intro v6 w6 h6 g6)
                  have H6 := Lib.hid (Ig.Own.post (h6 (Ig.iv_snoc M2 x)))
                  have HC6 := Lib.hid (Ig.RS_by HC5.out g6 (Ig.buf_ne HO5.out hbase))
                  have HG6 := Lib.hid (Ig.grew_by3 g6 HG5.out (Bt.Buf.base_le HO5.out))
                  clear h6 g6
                  go_roundw
                  case rel => exact ⟨j + 1, _, _, _, by simp, by rw [List.length_append, HML.out]; rfl, H6.out, HC6.out, HG6.out, HLN.out⟩
                  case measure => simp [intOf]; omega
                · obtain rfl : j = n := by omega
                  have hji : ¬ (j : Int) < (j : Int) := by omega
                  have HT := Lib.hid (Ig.body0 hM)
                  have hc7 := HRR.out
                  have HB7 := Lib.hid (HB3.out.trans (Ty.below_at (B := w.heap.size) HG.out hs3 (Nat.le_refl _)))
                  have HO8 := HO
                  rw [HT.out] at G4 G5 G6
                  simp only at G4 G5 G6
                  rw [hMM] at HO8
                  have hlM : M2.length = (Ig.ofK 0 M).length := by rw [hMM]
                  obtain ⟨L, hL⟩ : ∃ L, L = Ig.ofK 0 M := ⟨_, rfl⟩
                  rw [← hL] at G6 HO8 hlM
                  have HO9 := HO8.out
                  have hlL : (.slice a2 M2.length c2 : Value) = .slice a2 L.length c2 := by rw [hlM]
                  clear HO8
                  have HO8 : Hid (Ig.Own w3.heap.size _ (.slice a2 M2.length c2) L) := Lib.hid (by rw [hlM]; exact HO9)
                  generalize l2 = l4 at G5 G6 hc7
                  clear HO9 hlL hL hM hMM hlM hml
                  have hd := Ty.rdone_m w.heap.size s hs l4 0 _ hc7
                  clear hc7
                  by_cases hl4 : l4 = []
                  · have HR := Lib.hid (G6.out (by trivial) hl4)
                    have hf : Ty.fin l4 0 = 0 := by rw [hl4]; rfl
                    rw [hf] at hd
                    simp only [Int.natCast_zero] at hd
                    clear hl4 hf
                    go_wp2_with fail
                    refine hd.mono ?_
                    rintro e w8 ⟨rfl, _, hg8⟩
                    have HB8 := Lib.hid (HB7.out.trans (Ty.below_at (B := w.heap.size) hg8 HB7.out.size (Nat.le_refl _)))
                    have HA9 := Lib.hid (Ig.Own.at (Ig.Own.by HO8.out hg8 hbase))
                    clear hd hg8
                    go_wp2
                    go_ret2
                    exact Ig.Got.good HR.out HA9.out HB8.out
                  · have HR := Lib.hid (G5.out (by trivial) hl4)
                    have hf : Ty.fin l4 0 = 5 := by unfold Ty.fin; rw [if_pos ⟨rfl, hl4⟩]
                    rw [hf] at hd
                    simp only [Int.cast_ofNat_Int] at hd
                    clear hl4 hf
                    go_wp2_with fail
                    refine hd.mono ?_
                    rintro e w8 ⟨rfl, _, hg8⟩
                    have HB8 := Lib.hid (HB7.out.trans (Ty.below_at (B := w.heap.size) hg8 HB7.out.size (Nat.le_refl _)))
                    clear hd hg8
                    go_wp2
                    go_ret2
                    exact Ig.Got.bad HR.out rfl HB8.out
              · have hne : ((er : Int) != 0) = true := by rw [bne_iff_ne]; omega
                have hne2 : ((er : Int) == 0) = false := by rw [beq_eq_false_iff_ne]; omega
                have HB7 := Lib.hid (HB3.out.trans (Ty.below_at (B := w.heap.size) HG.out hs3 (Nat.le_refl _)))
                have HT : Hid ((rdBody 0 n l3).1 = er) := Lib.hid hE
                have HR := Lib.hid (G4.out (by rw [HT.out]; exact he0))
                rw [HT.out] at HR
                clear he0 hE hml
                by_cases hjl : j < n
                · have hji : (j : Int) < (n : Int) := by omega
                  go_wp2
                  go_ret2
                  exact Ig.Got.bad HR.out rfl HB7.out
                · have hji : ¬ (j : Int) < (n : Int) := by omega
                  go_wp2
                  go_ret2
                  exact Ig.Got.bad HR.out rfl HB7.out
          · have k1 : ((K : Int) == 1) = true := by rw [beq_iff_eq]; omega
            have k2 : ((K : Int) == 2) = false := by rw [beq_eq_false_iff_ne]; omega
            have k3 : ((K : Int) == 3) = false := by rw [beq_eq_false_iff_ne]; omega
            have k4 : (K : Int) < 2 := by omega
            rw [hKK] at G4 G5 G6
            clear hKK h3
            go_enter Tryz.func92, Tryz.ntmps92
            go_wp2_with fail
            have cb0 := cb _ HRS0.out
            clear cb
            refine cb0.mono ?_
            rintro e w2 ⟨rfl, hc2, hg2⟩
            have he2 := Ig.RS_err hc2
            simp only [Int.natCast_zero] at he2
            have HB2 := Lib.hid (HB1.out.trans (Ty.below_at (B := w.heap.size) hg2 HB1.out.size (Nat.le_refl _)))
            have hs2 := HB2.out.size
            have cu2 := cu _ hc2
            clear cb0 hc2 hg2 cu
            go_wp2_with fail
            refine cu2.mono ?_
            rintro e w3 ⟨rfl, hc3, hg3⟩
            have he3 := Ig.RS_err hc3
            simp only [Int.natCast_zero] at he3
            have HB3 := Lib.hid (HB2.out.trans (Ty.below_at (B := w.heap.size) hg3 hs2 (Nat.le_refl _)))
            have hs3 := HB3.out.size
            have HC3 := Lib.hid hc3
            clear cu2 hg3 he2 hc3
            go_wp2_with fail
            have hbase : w.heap.size < w3.heap.size := Ig.RS_lt HC3.out
            go_loopw [7, 9] (fun v i wr => ∃ (j : Nat) (M2 : List Int) (l2 : List UInt8) (er : Nat), i = .int .u64 ((j : Nat) : Int) ∧ M2.length = j ∧ Ig.Own w3.heap.size wr v M2 ∧ Ty.RS w.heap.size s wr l2 er ∧ w3.grownBy wr (some w.heap.size) ∧ Ig.LoopR 1 n l3 j M2 l2 er) (fun _ i _ => n - (intOf i).toNat)
            case atStart => exact ⟨0, [], l3, 0, rfl, rfl, Ig.Own.nil _ _, HC3.out, Ty.by_refl _ _, Ig.LoopR.start 1 n l3⟩
            case round =>
              obtain ⟨j, M2, l2, er, rfl, hml, hO, hR, hg, hLR⟩ := hrel
              have he := Ig.RS_err hR
              have HO := Lib.hid hO
              have HG := Lib.hid hg
              have HML := Lib.hid hml
              have HRR := Lib.hid hR
              have hgs := hg.size
              obtain ⟨a2, c2, rfl⟩ := Ig.own_len hO
              clear hO hg hR he3
              have hj0 : (0 : Int) ≤ (j : Int) := by omega
              rcases hLR with ⟨rfl, M, hM, hMM⟩ | ⟨he0, hE, hjn⟩
              · simp only [Int.natCast_zero] at he
                have hjn := hM.2.1
                by_cases hjl : j < n
                · have hji : (j : Int) < (n : Int) := by omega
                  have ci := Ig.rint_x w.heap.size s hs l2 _ HRR.out
                  rcases Nat.eq_zero_or_pos j with hjz | hjz
                  · have HLN := Lib.hid (Ig.LoopR.next1a hM hMM hjl hjz)
                    have hjz2 : ¬ (0 : Int) < (j : Int) := by omega
                    generalize (num l2).2.2 = q at ci HLN
                    generalize sg l2 = x at ci HLN
                    generalize rest l2 = l5 at ci HLN
                    clear hM hMM hml hjz
                    have hlen2 : M2.length + 1 ≤ 65537 := by have := HML.out; omega
                    go_wp2_with fail
                    refine ci.mono ?_
                    rintro e w5 ⟨rfl, hc5, hg5⟩
                    have HC5 := Lib.hid hc5
                    have HO5 := Lib.hid (HO.out.by hg5 hbase)
                    have HG5 := Lib.hid (Ty.by_trans HG.out hg5)
                    have hs5 := hg5.size
                    clear ci hc5 hg5
                    go_wp2_with (at_builtin; refine Bt.wpList_append_one 2 115 (.int .i64 0) 8 Tryz.underlying115 Ig.infoI rfl (HO5.out.pre (x)) (by omega) (by omega) (by omega) (.tmp 95) (.tmp 97) _ rfl rfl rfl rfl rfl ?_; intro v6 w6 h6 g6)
                    have H6 := Lib.hid (Ig.Own.post (h6 (Ig.iv_snoc M2 x)))
                    have HC6 := Lib.hid (Ig.RS_by HC5.out g6 (Ig.buf_ne HO5.out hbase))
                    have HG6 := Lib.hid (Ig.grew_by3 g6 HG5.out (Bt.Buf.base_le HO5.out))
                    clear h6 g6
                    go_roundw
                    case rel => exact ⟨j + 1, _, _, _, by simp, by rw [List.length_append, HML.out]; rfl, H6.out, HC6.out, HG6.out, HLN.out⟩
                    case measure => simp [intOf]; omega
                  · obtain ⟨p, rfl⟩ : ∃ p, j = p + 1 := ⟨j - 1, by omega⟩
                    have HLN := Lib.hid (Ig.LoopR.next1b hM hMM hjl hml)
                    obtain ⟨g, c', hv, _⟩ := Ig.own_some HO.out hml
                    simp only [Value.slice.injEq] at hv
                    obtain ⟨rfl, _, rfl⟩ := hv
                    have hq2 : p < M2.length := by omega
                    obtain ⟨y, ey⟩ : ∃ y, y = nth M2 p := ⟨_, rfl⟩
                    rw [← ey] at HLN
                    have HY := Lib.hid ey
                    have HQ := Lib.hid hq2
                    generalize (num l2).2.2 = q at ci HLN
                    generalize sg l2 = x at ci HLN
                    generalize rest l2 = l5 at ci HLN
                    have HADD := Lib.hid (Ig.add_wrap (x := x) (y := y))
                    clear hM hMM hjz ey hq2
                    have hlen2 : M2.length + 1 ≤ 65537 := by have := HML.out; omega
                    go_wp2_with fail
                    refine ci.mono ?_
                    rintro e w5 ⟨rfl, hc5, hg5⟩
                    have HC5 := Lib.hid hc5
                    have HO5 := Lib.hid (HO.out.by hg5 hbase)
                    have HG5 := Lib.hid (Ty.by_trans HG.out hg5)
                    have hs5 := hg5.size
                    have hcl : _ = some (Value.int .i64 _) := (Ig.buf_cell HO5.out HQ.out).1
                    rw [← HY.out] at hcl
                    have hO5b := HO5.out
                    rw [HML.out] at hO5b
                    have HO5 := Lib.hid hO5b
                    clear hO5b
                    clear ci hc5 hg5
                    go_wp2_with (at_builtin; refine Bt.wpList_append_one 2 115 (.int .i64 0) 8 Tryz.underlying115 Ig.infoI rfl (HO5.out.pre (wrap64 (y + x))) (by omega) (by omega) (by omega) (.tmp 95) (.tmp 97) _ rfl rfl rfl rfl rfl ?_; intro v6 w6 h6 g6)
                    have H6 := Lib.hid (Ig.Own.post (h6 (by rw [HADD.out]; exact Ig.iv_snoc M2 (wrap64 (y + x)))))
                    have HC6 := Lib.hid (Ig.RS_by HC5.out g6 (Ig.buf_ne HO5.out hbase))
                    have HG6 := Lib.hid (Ig.grew_by3 g6 HG5.out (Bt.Buf.base_le HO5.out))
                    clear h6 g6
                    go_roundw
                    case rel => exact ⟨p + 1 + 1, _, _, _, by simp, by rw [List.length_append, HML.out]; rfl, H6.out, HC6.out, HG6.out, HLN.out⟩
                    case measure => simp [intOf]; omega
                · obtain rfl : j = n := by omega
                  have hji : ¬ (j : Int) < (j : Int) := by omega
                  have HT := Lib.hid (Ig.body1 hM)
                  have hc7 := HRR.out
                  have HB7 := Lib.hid (HB3.out.trans (Ty.below_at (B := w.heap.size) HG.out hs3 (Nat.le_refl _)))
                  have HO8 := HO
                  rw [HT.out] at G4 G5 G6
                  simp only at G4 G5 G6
                  rw [hMM] at HO8
                  have hlM : M2.length = (Ig.ofK 1 M).length := by rw [hMM]
                  obtain ⟨L, hL⟩ : ∃ L, L = Ig.ofK 1 M := ⟨_, rfl⟩
                  rw [← hL] at G6 HO8 hlM
                  have HO9 := HO8.out
                  have hlL : (.slice a2 M2.length c2 : Value) = .slice a2 L.length c2 := by rw [hlM]
                  clear HO8
                  have HO8 : Hid (Ig.Own w3.heap.size _ (.slice a2 M2.length c2) L) := Lib.hid (by rw [hlM]; exact HO9)
                  generalize l2 = l4 at G5 G6 hc7
                  clear HO9 hlL hL hM hMM hlM hml
                  have hd := Ty.rdone_m w.heap.size s hs l4 0 _ hc7
                  clear hc7
                  by_cases hl4 : l4 = []
                  · have HR := Lib.hid (G6.out (by trivial) hl4)
                    have hf : Ty.fin l4 0 = 0 := by rw [hl4]; rfl
                    rw [hf] at hd
                    simp only [Int.natCast_zero] at hd
                    clear hl4 hf
                    go_wp2_with fail
                    refine hd.mono ?_
                    rintro e w8 ⟨rfl, _, hg8⟩
                    have HB8 := Lib.hid (HB7.out.trans (Ty.below_at (B := w.heap.size) hg8 HB7.out.size (Nat.le_refl _)))
                    have HA9 := Lib.hid (Ig.Own.at (Ig.Own.by HO8.out hg8 hbase))
                    clear hd hg8
                    go_wp2
                    go_ret2
                    exact Ig.Got.good HR.out HA9.out HB8.out
                  · have HR := Lib.hid (G5.out (by trivial) hl4)
                    have hf : Ty.fin l4 0 = 5 := by unfold Ty.fin; rw [if_pos ⟨rfl, hl4⟩]
                    rw [hf] at hd
                    simp only [Int.cast_ofNat_Int] at hd
                    clear hl4 hf
                    go_wp2_with fail
                    refine hd.mono ?_
                    rintro e w8 ⟨rfl, _, hg8⟩
                    have HB8 := Lib.hid (HB7.out.trans (Ty.below_at (B := w.heap.size) hg8 HB7.out.size (Nat.le_refl _)))
                    clear hd hg8
                    go_wp2
                    go_ret2
                    exact Ig.Got.bad HR.out rfl HB8.out
              · have hne : ((er : Int) != 0) = true := by rw [bne_iff_ne]; omega
                have hne2 : ((er : Int) == 0) = false := by rw [beq_eq_false_iff_ne]; omega
                have HB7 := Lib.hid (HB3.out.trans (Ty.below_at (B := w.heap.size) HG.out hs3 (Nat.le_refl _)))
                have HT : Hid ((rdBody 1 n l3).1 = er) := Lib.hid hE
                have HR := Lib.hid (G4.out (by rw [HT.out]; exact he0))
                rw [HT.out] at HR
                clear he0 hE hml
                by_cases hjl : j < n
                · have hji : (j : Int) < (n : Int) := by omega
                  go_wp2
                  go_ret2
                  exact Ig.Got.bad HR.out rfl HB7.out
                · have hji : ¬ (j : Int) < (n : Int) := by omega
                  go_wp2
                  go_ret2
                  exact Ig.Got.bad HR.out rfl HB7.out
      · have HR := Lib.hid (Ig.rd2 (r := r) h3 he)
        generalize (num r).2.2 = q at cu he HR
        have hne : ((q : Int) != 0) = true := by rw [bne_iff_ne]; omega
        clear he h3
        go_enter Tryz.func92, Tryz.ntmps92
        go_wp2_with fail
        have cb0 := cb _ HRS0.out
        clear cb
        refine cb0.mono ?_
        rintro e w2 ⟨rfl, hc2, hg2⟩
        have he2 := Ig.RS_err hc2
        simp only [Int.natCast_zero] at he2
        have HB2 := Lib.hid (HB1.out.trans (Ty.below_at (B := w.heap.size) hg2 HB1.out.size (Nat.le_refl _)))
        have hs2 := HB2.out.size
        have cu2 := cu _ hc2
        clear cb0 hc2 hg2 cu
        go_wp2_with fail
        refine cu2.mono ?_
        rintro e w3 ⟨rfl, hc3, hg3⟩
        have he3 := Ig.RS_err hc3
        have HB3 := Lib.hid (HB2.out.trans (Ty.below_at (B := w.heap.size) hg3 hs2 (Nat.le_refl _)))
        have hs3 := HB3.out.size
        have HC3 := Lib.hid hc3
        clear cu2 hg3 he2 hc3
        go_wp2_with fail
        go_quiet (fail)
        go_wp2
        go_ret2
        exact Ig.Got.bad HR.out rfl (HB3.out.trans ((Bt.drewN_below _ _).mono HB3.out.size))
end Go.Proofs.YtfbjmehkipcmbaaGreatDoor

namespace Go.Proofs.YtfbjmehkipcmbaaGreatDoor
open Go.RowKit
open Ty (encU num txt)
open Tx (restT rdWords rdPick outs)
open Ig (un)
theorem Tx.rdPk1 {n : Nat} {d : List Tx.Str} : rdPick n d [] = (2, [], []) := rfl
theorem Tx.rdPk2 {n : Nat} {d : List Tx.Str} {b : UInt8} {r : List UInt8} (h : 64 < b.toNat) : (rdPick n d (b :: r)).1 = 4 := by
  unfold rdPick
  simp only
  rw [if_pos h]
theorem Tx.rdPk3 {n : Nat} {d : List Tx.Str} {b : UInt8} {r : List UInt8} (h : ¬ 64 < b.toNat) (h2 : r.length < Bt.need (n * b.toNat)) : (rdPick n d (b :: r)).1 = 2 := by
  unfold rdPick
  simp only
  rw [if_neg h, if_pos h2]
theorem Tx.rdPk4 {n : Nat} {d : List Tx.Str} {b : UInt8} {r : List UInt8} (h : ¬ 64 < b.toNat) (h2 : ¬ r.length < Bt.need (n * b.toNat)) (h3 : Bt.chk (Ty.S (r.take (Bt.need (n * b.toNat)))) (n * b.toNat) ≠ 0) : (rdPick n d (b :: r)).1 = Bt.chk (Ty.S (r.take (Bt.need (n * b.toNat)))) (n * b.toNat) := by
  have h3' : Bt.chk ⟨(r.take (Bt.need (n * b.toNat))).toArray⟩ (n * b.toNat) ≠ 0 := h3
  unfold rdPick
  simp only
  rw [if_neg h, if_neg h2, if_pos h3']
  rfl
theorem Tx.rdPk5 {n : Nat} {d : List Tx.Str} {b : UInt8} {r : List UInt8} (h : ¬ 64 < b.toNat) (h2 : ¬ r.length < Bt.need (n * b.toNat)) (h3 : Bt.chk (Ty.S (r.take (Bt.need (n * b.toNat)))) (n * b.toNat) = 0) (h4 : ¬ Tx.right n b.toNat d (un (Ty.S (r.take (Bt.need (n * b.toNat)))) b.toNat) = true) : (rdPick n d (b :: r)).1 = 4 := by
  have h3' : ¬ Bt.chk ⟨(r.take (Bt.need (n * b.toNat))).toArray⟩ (n * b.toNat) ≠ 0 := fun e => e h3
  have h4' : ¬ Tx.right n b.toNat d (un ⟨(r.take (Bt.need (n * b.toNat))).toArray⟩ b.toNat) = true := h4
  unfold rdPick
  simp only
  rw [if_neg h, if_neg h2, if_neg h3', if_neg h4']
theorem Tx.rdPk6 {n : Nat} {d : List Tx.Str} {b : UInt8} {r : List UInt8} (h : ¬ 64 < b.toNat) (h2 : ¬ r.length < Bt.need (n * b.toNat)) (h3 : Bt.chk (Ty.S (r.take (Bt.need (n * b.toNat)))) (n * b.toNat) = 0) (h4 : Tx.right n b.toNat d (un (Ty.S (r.take (Bt.need (n * b.toNat)))) b.toNat) = true) : rdPick n d (b :: r) = (0, outs n d (un (Ty.S (r.take (Bt.need (n * b.toNat)))) b.toNat), r.drop (Bt.need (n * b.toNat))) := by
  have h3' : ¬ Bt.chk ⟨(r.take (Bt.need (n * b.toNat))).toArray⟩ (n * b.toNat) ≠ 0 := fun e => e h3
  have h4' : Tx.right n b.toNat d (un ⟨(r.take (Bt.need (n * b.toNat))).toArray⟩ b.toNat) = true := h4
  unfold rdPick
  simp only
  rw [if_neg h, if_neg h2, if_neg h3', if_pos h4']
  rfl
def Tx.mark (X : Nat → Nat) (k j : Nat) : Bool := (List.range k).any fun i => X i == j
theorem Tx.mark_zero (X : Nat → Nat) (j : Nat) : Tx.mark X 0 j = false := rfl
theorem Tx.mark_next (X : Nat → Nat) (k j : Nat) : Tx.mark X (k + 1) j = (Tx.mark X k j || X k == j) := by
  unfold Tx.mark
  rw [List.range_succ, List.any_append]
  simp
theorem Tx.mark_self (X : Nat → Nat) (k : Nat) : Tx.mark X (k + 1) (X k) = true := by rw [Tx.mark_next]; simp
theorem Tx.mark_other (X : Nat → Nat) (k j : Nat) (h : X k ≠ j) : Tx.mark X (k + 1) j = Tx.mark X k j := by
  rw [Tx.mark_next]
  simp [h]
theorem Tx.right_iff {n w : Nat} {d : List Tx.Str} {X : Nat → Nat} : Tx.right n w d X = true ↔ (∀ i, i < n → X i < d.length) ∧ (∀ j, j < d.length → Tx.mark X n j = true) ∧ Bt.wid n X = w := by
  unfold Tx.right Tx.mark
  simp only [Bool.and_eq_true, List.all_eq_true, List.mem_range, decide_eq_true_iff, beq_iff_eq]
theorem Tx.outs_next (n : Nat) (d : List Tx.Str) (X : Nat → Nat) : outs (n + 1) d X = outs n d X ++ [d.getD (X n) []] := by
  unfold outs
  rw [List.range_succ, List.map_append]
  rfl
theorem Tx.outs_len (n : Nat) (d : List Tx.Str) (X : Nat → Nat) : (outs n d X).length = n := by simp [outs]
end Go.Proofs.YtfbjmehkipcmbaaGreatDoor

namespace Go.Proofs.YtfbjmehkipcmbaaGreatDoor
open Go.RowKit
open Ty (encU num txt)
open Tx (rdPick)
theorem Tx.by_then {w0 w : World} {b : Nat} (g : w0.grownBy w (some b)) (n : Nat) : w0.grownBy (w.drewN n) (some b) := Tx.below_by (Bt.drewN_below w n) g
theorem Tx.rbyte_x (r : Nat) (s : ByteArray) (hs : s.size ≤ 140737488351232) (x : UInt8) (t : List UInt8) (w : World) (h : Ty.RS r s w (x :: t) 0) :
    Calls Tryz.prog 37 #[.pointer (some ⟨r, 0, none⟩)] w (Ty.RLeft r s w (.int .i64 ((x.toNat : Nat) : Int)) t 0) := Ty.rbyte_m r s hs (x :: t) 0 w h
theorem Tx.need_is {n q m : Nat} (h : n * q = m) : ((m : Int) + 7) / 8 = ((Bt.need (n * q) : Nat) : Int) := by
  rw [h]
  unfold Bt.need
  omega
set_option maxRecDepth 100000 in
set_option maxHeartbeats 1000000 in
theorem Tx.rpick_nil (r : Nat) (s : ByteArray) (hs : s.size ≤ 140737488351232) (n : Nat) (vd : Value) (d : List Tx.Str) (w : World) (h : Ty.RS r s w [] 0) :
    Calls Tryz.prog 116 #[.pointer (some ⟨r, 0, none⟩), .int .i64 n, vd] w (Tx.RRd r s w (rdPick n d [])) := by
  have cb := Ty.rbyte_m r s hs [] 0 w h
  have e1 : Ty.rdB [] 0 = (0, [], 2) := rfl
  rw [e1] at cb
  clear e1 h
  go_enter Tryz.func116, Tryz.ntmps116
  go_wp2_with fail
  refine cb.mono ?_
  rintro e w4 ⟨rfl, hc4, hg4⟩
  have he4 := Tx.RS_err hc4
  simp only [Int.cast_ofNat_Int] at he4
  have HG4 := Lib.hid hg4
  clear cb hc4 hg4
  go_wp2_with fail
  go_quiet (fail)
  go_wp2
  go_ret2
  exact Tx.RRd.bad rfl (by rw [Tx.rdPk1]; decide) (Tx.by_then HG4.out _)
set_option maxRecDepth 100000 in
set_option maxHeartbeats 1000000 in
theorem Tx.rpick_wide (r : Nat) (s : ByteArray) (hs : s.size ≤ 140737488351232) (n : Nat) (vd : Value) (d : List Tx.Str) (x : UInt8) (t : List UInt8) (w : World) (h : Ty.RS r s w (x :: t) 0) (h64 : 64 < x.toNat) :
    Calls Tryz.prog 116 #[.pointer (some ⟨r, 0, none⟩), .int .i64 n, vd] w (Tx.RRd r s w (rdPick n d (x :: t))) := by
  have cb := Tx.rbyte_x r s hs x t w h
  have HB := Lib.hid (Tx.rdPk2 (n := n) (d := d) (r := t) h64)
  have h64i : (64 : Int) < (x.toNat : Int) := by omega
  clear h h64
  go_enter Tryz.func116, Tryz.ntmps116
  go_wp2_with fail
  refine cb.mono ?_
  rintro e w4 ⟨rfl, hc4, hg4⟩
  have he4 := Tx.RS_err hc4
  simp only [Int.natCast_zero] at he4
  have HG4 := Lib.hid hg4
  clear cb hc4 hg4
  go_wp2
  go_ret2
  exact Tx.RRd.bad (by rw [HB.out]; rfl) (by rw [HB.out]; decide) HG4.out
set_option maxRecDepth 100000 in
set_option maxHeartbeats 1000000 in
theorem Tx.rpick_short (r : Nat) (s : ByteArray) (hs : s.size ≤ 140737488351232) (n : Nat) (hn : n ≤ 65536) (vd : Value) (d : List Tx.Str) (x : UInt8) (t : List UInt8) (w : World) (h : Ty.RS r s w (x :: t) 0) (h64 : ¬ 64 < x.toNat) (hss : t.length < Bt.need (n * x.toNat)) :
    Calls Tryz.prog 116 #[.pointer (some ⟨r, 0, none⟩), .int .i64 n, vd] w (Tx.RRd r s w (rdPick n d (x :: t))) := by
  have cb := Tx.rbyte_x r s hs x t w h
  have HB := Lib.hid (Tx.rdPk3 (d := d) h64 hss)
  obtain ⟨q, hq⟩ : ∃ q, q = x.toNat := ⟨_, rfl⟩
  rw [← hq] at cb h64 hss
  have hmul := Bt.mul_le n q (by omega)
  obtain ⟨m, hm⟩ : ∃ m, n * q = m := ⟨_, rfl⟩
  have hmi : (n : Int) * (q : Int) = (m : Int) := by rw [← hm]; simp
  have hmm : m ≤ 4194304 := by omega
  have hd := Tx.need_is hm
  obtain ⟨sz, hsz⟩ : ∃ sz, sz = Bt.need (n * q) := ⟨_, rfl⟩
  rw [← hsz] at hd hss
  have hsz2 : sz ≤ 524289 := by rw [hsz, hm]; unfold Bt.need; omega
  have hq64i : ¬ (64 : Int) < (q : Int) := by omega
  have hlt : (t.length : Int) < (sz : Int) := by omega
  have cl := fun wz (hc : Ty.RS r s wz t 0) => Ty.rleft_m r s hs t 0 wz hc
  clear h h64 hss hsz hm hq hmul
  go_enter Tryz.func116, Tryz.ntmps116
  go_wp2_with fail
  refine cb.mono ?_
  rintro e w4 ⟨rfl, hc4, hg4⟩
  have he4 := Tx.RS_err hc4
  simp only [Int.natCast_zero] at he4
  have HG4 := Lib.hid hg4
  have cl4 := cl _ hc4
  clear cb hc4 hg4 cl
  go_wp2_with fail
  refine cl4.mono ?_
  rintro e w5 ⟨rfl, hc5, hg5⟩
  have HG5 := Lib.hid (Ty.by_trans HG4.out hg5)
  clear cl4 hc5 hg5
  go_wp2
  go_ret2
  exact Tx.RRd.bad (by rw [HB.out]; rfl) (by rw [HB.out]; decide) HG5.out
end Go.Proofs.YtfbjmehkipcmbaaGreatDoor

namespace Go.Proofs.YtfbjmehkipcmbaaGreatDoor
open Go.RowKit
open Ty (encU num txt)
open Tx (rdPick outs)
def Tx.mv (X : Nat → Nat) (k j : Nat) : Value := .bool (Tx.mark X k j)
theorem Tx.row_by {w w' : World} {g n : Nat} {t : TypeId} {f : Nat → Value} (h : w.rowIs g t n f) {r : Option Nat} (hg : w.grownBy w' r) (hne : some g ≠ r) : w'.rowIs g t n f :=
  h.of_block (hg.block g h.lt hne)
theorem Tx.row_mark {w : World} {g n k : Nat} {X : Nat → Nat} (h : w.rowIs g 4 n (Tx.mv X k)) : (w.setCell ⟨g, X k, none⟩ (.bool true)).rowIs g 4 n (Tx.mv X (k + 1)) :=
  (World.rowIs.set h (X k) (.bool true)).congr fun i _ => by
    unfold Tx.mv
    by_cases e : i = X k
    · rw [e, Tx.mark_self]; simp
    · rw [Tx.mark_other X k i (fun e2 => e e2.symm), if_neg e]
theorem Tx.rc_ne {r b o a e : Nat} {w : World} {s : ByteArray} {x : Int} (h : Ty.RC r w s a e) (hc : w.cell? ⟨b, o, none⟩ = some (.int .u64 x)) : b ≠ r := by
  intro e
  subst e
  unfold Ty.RC at h
  unfold World.cell? at hc
  simp only [h] at hc
  match o, hc with
  | 0, hc => simp at hc
  | 1, hc => simp at hc
  | 2, hc => simp at hc
  | o + 3, hc => simp at hc
theorem Tx.sl_rc {r a e n : Nat} {w w' : World} {s : ByteArray} {v : Value} {X : Nat → Nat} (h : Bt.Sl w v n (Bt.nv X)) (hr : Ty.RC r w s a e) (hg : w.grownBy w' (some r)) : Bt.Sl w' v n (Bt.nv X) := by
  obtain ⟨a', c', ev, h⟩ := h
  refine ⟨a', c', ev, ?_⟩
  rcases h with h | ⟨b, o, ea, hlt, h⟩
  · exact .inl h
  · by_cases hn : n = 0
    · exact .inl hn
    · have h0 := h 0 (by omega)
      have hne := Tx.rc_ne hr h0
      refine .inr ⟨b, o, ea, Nat.lt_of_lt_of_le hlt hg.size, fun i hi => ?_⟩
      rw [← h i hi]
      unfold World.cell?
      simp only [hg.block b hlt (fun e => hne (Option.some.inj e))]
theorem Tx.by_new {w0 w : World} {r g i : Nat} (h : w0.grownBy w (some r)) (hg : w0.heap.size ≤ g) (u : Value) : w0.grownBy (w.setCell ⟨g, i, none⟩ u) (some r) :=
  ⟨h.os, h.tape, h.output, by have := h.size; simpa [World.setCell] using this, fun j hj hn => (Below.heap_setCell _ _ _ _ (by show j ≠ g; omega)).trans (h.block j hj hn)⟩
theorem Tx.At.str {B n c : Nat} {w : World} {a : Option Addr} {L : List Tx.Str} (h : Tx.At B w (.slice a n c) L) {k : Nat} (hk : k < L.length) : ∃ b o, a = some ⟨b, o, none⟩ ∧ w.cell? ⟨b, o + k, none⟩ = some (.string (Ty.S (L.getD k []))) := by
  obtain ⟨a', c', e, _, _, h⟩ := h
  simp only [Value.slice.injEq] at e
  rcases h with ⟨h, _⟩ | ⟨b, o, ea, _, h⟩
  · rw [h] at hk; simp at hk
  · exact ⟨b, o, e.1.trans ea, h k hk⟩
theorem Tx.wpList_append_at (e t : TypeId) (z : Value) (by_ : Nat) (hu : Tryz.prog.underlying t = some (.slice e)) (hinfo : (Tryz.prog.info? e).map (fun i => (i.zero, i.size, i.bytes)) = some (some z, 1, by_)) (hz : z.cells.size = 1)
    {base : Nat} {w0 : World} {v : Value} {n B : Nat} {f : Nat → Value} (hown : Bt.Buf e base w0 v n f) (hb : base ≤ w0.heap.size) (hl : (n + 1) * by_ ≤ 140737488355328) (hl2 : n + 1 ≤ 140737488355328)
    {ops : Array Oper} {rest : List Oper} {o : Oper} {a : Act} {Q : Exit → Act → World → Prop} (s x : Operand) (u : Value) (hu1 : u.oneCell' = true) (hgd : o.guard = none)
    (ho : o.op = .call { callee := .builtin .append, args := #[s, x], argTypes := #[t, t] })
    (hs : a.eval s = v) (hx : a.eval x = .slice (some ⟨B, 0, none⟩) 1 1) (hB : B = w0.heap.size)
    (h : ∀ v' w', (u = f n → Bt.Buf e base w' v' (n + 1) f) → Ty.Grew w0 w' v v' → wpList Tryz.prog ops Q rest (a.put o.dst v') w') :
    wpList Tryz.prog ops Q (o :: rest) a (w0.alloc (.cells #[u] e)) :=
  Bt.wpList_append_one e t z by_ hu hinfo hz hown hb hl hl2 s x u hu1 hgd ho hs (hB ▸ hx) h
set_option maxHeartbeats 4000000 in
set_option maxRecDepth 100000 in
theorem Tx.rpick_main (r : Nat) (s : ByteArray) (hs : s.size ≤ 140737488351232) (n : Nat) (hn : n ≤ 65536) (vd : Value) (d : List Tx.Str) (hdl : d.length ≤ 65536) (x : UInt8) (t : List UInt8) (w : World) (hd : Tx.At w.heap.size w vd d) (hdr : ∀ w' : World, w.grownBy w' (some r) → Tx.At w'.heap.size w' vd d) (h : Ty.RS r s w (x :: t) 0) (h64 : ¬ 64 < x.toNat) (hss : ¬ t.length < Bt.need (n * x.toNat)) :
    Calls Tryz.prog 116 #[.pointer (some ⟨r, 0, none⟩), .int .i64 n, vd] w (Tx.RRd r s w (rdPick n d (x :: t))) := by
  have hrw := Tx.RS_lt h
  have cb := Tx.rbyte_x r s hs x t w h
  have F4 := Lib.hid (fun h3 => Tx.rdPk4 (d := d) h64 hss h3)
  have F5 := Lib.hid (fun h3 h4 => Tx.rdPk5 (d := d) h64 hss h3 h4)
  have F6 := Lib.hid (fun h3 h4 => Tx.rdPk6 (d := d) h64 hss h3 h4)
  obtain ⟨T, hT⟩ : ∃ T, T = rdPick n d (x :: t) := ⟨_, rfl⟩
  rw [← hT] at F4 F5 F6 ⊢
  obtain ⟨q, hq⟩ : ∃ q, q = x.toNat := ⟨_, rfl⟩
  rw [← hq] at cb h64 hss F4 F5 F6
  have hmul := Bt.mul_le n q (by omega)
  obtain ⟨m, hm⟩ : ∃ m, n * q = m := ⟨_, rfl⟩
  have hmi : (n : Int) * (q : Int) = (m : Int) := by rw [← hm]; simp
  have hmm : m ≤ 4194304 := by omega
  have hnd := Tx.need_is hm
  obtain ⟨sz, hsz⟩ : ∃ sz, sz = Bt.need (n * q) := ⟨_, rfl⟩
  rw [← hsz] at hnd hss F4 F5 F6
  have hsz2 : sz ≤ 524289 := by rw [hsz, hm]; unfold Bt.need; omega
  have hq64i : ¬ (64 : Int) < (q : Int) := by omega
  have hlt : ¬ (t.length : Int) < (sz : Int) := by omega
  have hts : (Ty.S (t.take sz)).size ≤ 140737488355328 := by rw [Ty.size_S, List.length_take]; omega
  have cun := fun wz => Bt.runpack_c (Ty.S (t.take sz)) (n : Int) (q : Int) wz hts
  have e3 : Bt.upE (Ty.S (t.take sz)) (n : Int) (q : Int) = Bt.chk (Ty.S (t.take sz)) (n * q) := by unfold Bt.upE; rw [if_pos ⟨by omega, by omega⟩]; rfl
  have e4 : Bt.upN (Ty.S (t.take sz)) (n : Int) (q : Int) = if Bt.chk (Ty.S (t.take sz)) (n * q) = 0 then n else 0 := by unfold Bt.upN; rw [e3]; rfl
  rw [e3, e4, Int.toNat_natCast] at cun
  have HEX : Hid (∀ a, s.data.toList.drop a = t → s.extract a (a + sz) = Ty.S (t.take sz)) := Lib.hid fun a h => by rw [Ty.extract_S, h, Nat.add_sub_cancel_left]
  have HDR : Hid (∀ a, s.data.toList.drop a = t → s.data.toList.drop (a + sz) = t.drop sz) := Lib.hid fun a h => by rw [Ty.drop_at, h]
  have HTL : Hid (∀ a, a ≤ s.size → s.data.toList.drop a = t → a + sz ≤ s.size) := Lib.hid fun a ha h => by
    have := congrArg List.length h
    rw [Ty.len_drop] at this
    omega
  have hX : ∀ i, Bt.nums (Ty.S (t.take sz)) q i < 2 ^ 64 := fun i => Nat.lt_of_lt_of_le (Bt.num_lt q _) (Nat.pow_le_pow_right (by decide) (by omega))
  have HUN : Hid (Ig.un (Ty.S (t.take sz)) q = Bt.nums (Ty.S (t.take sz)) q) := Lib.hid rfl
  rw [HUN.out] at F5 F6
  generalize Bt.nums (Ty.S (t.take sz)) q = X at cun F5 F6 hX HUN
  generalize Ty.S (t.take sz) = b at cun F4 F5 F6 HEX HUN
  generalize t.drop sz = l9 at F6 HDR
  have HX := Lib.hid hX
  have HD := Lib.hid hdr
  have cl := fun wz (hc : Ty.RS r s wz t 0) => Ty.rleft_m r s hs t 0 wz hc
  generalize Bt.chk b (n * q) = C at cun F4 F5 F6
  clear h h64 hss hsz hm hq hmul hT e3 e4 hts HUN hX hdr
  obtain ⟨ad, cd, rfl, hcd, _, hd0⟩ := hd
  clear hd0
  go_enter Tryz.func116, Tryz.ntmps116
  go_wp2_with fail
  refine cb.mono ?_
  rintro e w4 ⟨rfl, hc4, hg4⟩
  have he4 := Tx.RS_err hc4
  simp only [Int.natCast_zero] at he4
  have HG4 := Lib.hid hg4
  have cl4 := cl _ hc4
  clear cb hc4 hg4 cl
  go_wp2_with fail
  refine cl4.mono ?_
  rintro e w5 ⟨rfl, hc5, hg5⟩
  have HG5 := Lib.hid (Ty.by_trans HG4.out hg5)
  obtain ⟨a, ha, hla, hR⟩ := hc5
  obtain ⟨c0, c1, c2, f1, _⟩ := hR.cells
  have HR := Lib.hid hR
  have hex := HEX.out a hla
  have HDA := Lib.hid (HDR.out a hla)
  have hta := HTL.out a ha hla
  have w1' : IntKind.i64.wrap ((a : Int) + (sz : Int)) = (a : Int) + (sz : Int) := IntWalk.i64_in _ (by omega)
  have z1 : 0 ≤ (a : Int) := by omega
  have z2 : (a : Int) ≤ (a : Int) + (sz : Int) := by omega
  have z3 : (a : Int) + (sz : Int) ≤ (s.size : Int) := by omega
  have t2 : ((a : Int) + (sz : Int)).toNat = a + sz := by omega
  have HLA := Lib.hid hla
  have HDW : Hid (Below w5.heap.size w5 w5.drew) := Lib.hid (Bt.drewN_below w5 1)
  have HSA : Hid (∀ W, Below w5.heap.size w5 W → W.cell? ⟨r, 0, none⟩ = some (.string s) ∧ W.cell? ⟨r, 1, none⟩ = some (.int .i64 (a : Int))) := Lib.hid fun W g => by
    obtain ⟨d0, d1, _⟩ := (hR.below g hR.lt).cells
    exact ⟨d0, d1⟩
  clear cl4 hg5 he4 hla hR HEX HDR HTL
  go_wp2_with fail
  go_region_held3 (fun wx => wx.cell? ⟨r, 0, none⟩ = some (.string s) ∧ wx.cell? ⟨r, 1, none⟩ = some (.int .i64 (a : Int)))
    (first
      | exact HSA.out _ HDW.out
      | exact HSA.out _ (HDW.out.trans (g8.mono HDW.out.size)))
    (first
      | (go_at_call 139; (with_reducible refine (cun _).mono ?_); rintro e w8 ⟨v8, rfl, hS8, g8⟩))
  have hb8 : Below w5.heap.size w5 w8 := (Bt.drewN_below w5 1).trans g8
  have HG8 := Lib.hid (Tx.below_by hb8 HG5.out)
  have hR8 := HR.out.below hb8 HR.out.lt
  clear cun g8 hb8 c0 c1 c2 f1 hex w1' z1 z2 z3 t2
  by_cases hck : C = 0
  · subst hck
    rw [if_pos rfl] at hS8
    simp only [Int.natCast_zero]
    have G5 := Lib.hid (F5.out (by trivial))
    have G6 := Lib.hid (F6.out (by trivial))
    have ec : (a : Int) + (sz : Int) = ((a + sz : Nat) : Int) := by omega
    have hSa := Tx.sl_rc hS8 hR8 (Ty.by_set w8 r 1 (.int .i64 ((a : Int) + (sz : Int))))
    have hRa : Ty.RS r s (w8.setCell ⟨r, 1, none⟩ (.int .i64 ((a : Int) + (sz : Int)))) l9 0 := ⟨a + sz, hta, HDA.out, by rw [ec]; exact Ty.rc_set1 hR8⟩
    have hba : w.grownBy (w8.setCell ⟨r, 1, none⟩ (.int .i64 ((a : Int) + (sz : Int)))) (some r) := Ty.by_trans HG8.out (Ty.by_set _ _ _ _)
    have hsa : (w8.setCell ⟨r, 1, none⟩ (.int .i64 ((a : Int) + (sz : Int)))).heap.size = w8.heap.size := by simp [World.setCell]
    obtain ⟨c0, c1, c2, f1, _⟩ := hR8.cells
    have w1' : IntKind.i64.wrap ((a : Int) + (sz : Int)) = (a : Int) + (sz : Int) := IntWalk.i64_in _ (by omega)
    have hmk := run_make_row' (P := Tryz.prog) 49 4 (.bool false) 1 Tryz.underlying49 Bt.infoB rfl .i64 .i64 d.length (by omega) (by omega)
    have HHS := Lib.hid hS8
    have HSA2 := Lib.hid hSa
    have HRA := Lib.hid hRa
    have HBA := Lib.hid hba
    have HSZ := Lib.hid hsa
    obtain ⟨a8, c8, rfl, h8⟩ := hS8
    clear F4 F5 F6 h8 hR8 hSa hRa hba hsa ec
    go_wp2_with fail
    have hs8 := HBA.out.size
    generalize w8.setCell ⟨r, 1, none⟩ (.int .i64 ((a : Int) + (sz : Int))) = wa at HSA2 HRA HBA HSZ hs8 ⊢
    have hRw : (wa.alloc (.cells (madeCells #[.bool false] d.length) 4)).rowIs wa.heap.size 4 d.length (Tx.mv X 0) := (World.rowIs_made wa (.bool false) d.length 4).congr fun i _ => by unfold Tx.mv; rw [Tx.mark_zero]
    have hB : Below wa.heap.size wa (wa.alloc (.cells (madeCells #[.bool false] d.length) 4)) := (Below.refl _ _).alloc (Nat.le_refl _) _
    generalize wa.alloc (.cells (madeCells #[.bool false] d.length) 4) = w9 at hRw hB ⊢
    have hsz9 := HSZ.out
    rw [hsz9] at hRw hB hs8
    generalize hg : w8.heap.size = g at hRw hB hs8 hsz9
    have HGE := Lib.hid hg
    have HGA := Lib.hid hsz9
    clear hmk hg hsz9 c0 c1 c2 f1 w1' HHS HSZ
    go_loopw [13, 14] (fun ov i wr => ∃ k : Nat, k ≤ n ∧ i = .int .i64 k ∧ (∀ j, j < k → X j < d.length) ∧ wr.rowIs g 4 d.length (Tx.mv X k) ∧ Tx.Own (g + 1) wr ov (outs k d X) ∧ Below g wa wr) (fun _ i _ => n - (intOf i).toNat)
    case atStart => exact ⟨0, by omega, rfl, (fun j hj => by omega), hRw, Tx.Own.nil _ _, hB⟩
    case round =>
      obtain ⟨k, hk, rfl, hxs, hRk, hO, hBk⟩ := hrel
      have HXS := Lib.hid hxs
      have HRK := Lib.hid hRk
      have HO := Lib.hid hO
      have HBK := Lib.hid hBk
      have hgw := hRk.lt
      have hba : Below wa.heap.size wa wr := by rw [HGA.out]; exact hBk
      have HBR := Lib.hid (Tx.below_by hba HBA.out)
      have HSR := Lib.hid (HSA2.out.later hba)
      have HRR := Lib.hid (Tx.RS_below HRA.out hba (Tx.RS_lt HRA.out))
      clear hRw hB hxs hRk hO hBk hba
      have hk0 : (0 : Int) ≤ (k : Int) := by omega
      by_cases hkn : k < n
      · have hki : (k : Int) < (n : Int) := by omega
        obtain ⟨b2, o2, rfl, hb2g, hcell⟩ : ∃ b2 o2, a8 = some ⟨b2, o2, none⟩ ∧ b2 < g ∧ wr.cell? ⟨b2, o2 + k, none⟩ = some (.int .u64 ((X k : Nat) : Int)) := by
          obtain ⟨a', c', ev, h⟩ := HSA2.out
          simp only [Value.slice.injEq] at ev
          rcases h with h | ⟨b2, o2, ea, hlt, h⟩
          · omega
          · have hlt2 : b2 < g := by have := HGA.out; omega
            exact ⟨b2, o2, ev.1.trans ea, hlt2, (HBK.out.cell (p := ⟨b2, o2 + k, none⟩) hlt2).trans (h k hkn)⟩
        by_cases hxd : X k < d.length
        · obtain ⟨b3, o3, rfl, hcd⟩ := (HD.out wr HBR.out).str hxd
          have hcd2 : ∀ u, (wr.setCell ⟨g, X k, none⟩ u).cell? ⟨b3, o3 + X k, none⟩ = some (.string (Ty.S (d.getD (X k) []))) := fun u => by
            obtain ⟨b4, o4, e4, h4⟩ := (HD.out _ (Tx.by_new (i := X k) HBR.out hs8 u)).str hxd
            simp only [Option.some.injEq, Addr.mk.injEq, and_true] at e4
            obtain ⟨rfl, rfl⟩ := e4
            exact h4
          have hcell2 : ∀ u, (wr.setCell ⟨g, X k, none⟩ u).cell? ⟨b2, o2 + k, none⟩ = some (.int .u64 ((X k : Nat) : Int)) := fun u => by
            have e : (wr.setCell ⟨g, X k, none⟩ u).heap[b2]? = wr.heap[b2]? := Below.heap_setCell _ _ _ _ (by show b2 ≠ g; omega)
            rw [← hcell]
            unfold World.cell?
            simp only [e]
          have hf := HRK.out.frozen (X k)
          have hcl := HRK.out.cell hxd
          have HRN := Lib.hid (Tx.row_mark (k := k) HRK.out)
          have hO2 : Tx.Own (g + 1) (wr.setCell ⟨g, X k, none⟩ (.bool true)) _ (outs k d X) := Tx.buf_by HO.out (Ty.by_set wr g (X k) (.bool true)) (Nat.lt_succ_self g)
          have hB2 : Below g wa (wr.setCell ⟨g, X k, none⟩ (.bool true)) := HBK.out.trans (Bt.below_set (Nat.le_refl _) _)
          have hs2 : g + 1 ≤ (wr.setCell ⟨g, X k, none⟩ (.bool true)).heap.size := by simp [World.setCell]; omega
          have HON := Lib.hid (Tx.outs_next k d X)
          have HOL := Lib.hid (Tx.outs_len k d X)
          have HXN : Hid (∀ j, j < k + 1 → X j < d.length) := Lib.hid fun j hj => by
            by_cases e : j = k
            · rw [e]; exact hxd
            · exact HXS.out j (by omega)
          obtain ⟨y, hy⟩ : ∃ y, y = d.getD (X k) [] := ⟨_, rfl⟩
          rw [← hy] at hcd hcd2 HON
          have HYS : Hid (Value.string (Ty.S y) = Tx.sv (outs k d X ++ [y]) (outs k d X).length) := Lib.hid (Tx.sv_snoc _ _)
          generalize Ty.S y = ys at hcd hcd2 HYS
          have HO2 := Lib.hid (hO2.pre y)
          have HB2 := Lib.hid hB2
          have hl16 : ((outs k d X).length + 1) * 16 ≤ 140737488355328 := by rw [HOL.out]; omega
          have hl17 : (outs k d X).length + 1 ≤ 140737488355328 := by rw [HOL.out]; omega
          obtain ⟨x', hx'⟩ : ∃ x', x' = X k := ⟨_, rfl⟩
          rw [← hx'] at hcell hcell2 hcd hcd2 hf hcl hxd hs2 HRN HO2 HB2
          have hxi : (x' : Int) < (d.length : Int) := by omega
          have hxi2 : ¬ (d.length : Int) ≤ (x' : Int) := by omega
          have hx0 : (0 : Int) ≤ (x' : Int) := by omega
          have hdl2 : (d.length : Int) ≤ 65536 := by omega
          clear hO2 hB2 hx' hy hxd
          go_wp2_with (at_builtin; refine Tx.wpList_append_at 9 113 (.string ⟨#[]⟩) 16 Tryz.underlying113 Tx.infoS rfl HO2.out hs2 hl16 hl17 (.tmp 92) (.tmp 100) _ rfl rfl rfl rfl rfl (by simp [World.setCell]) ?_; intro v6 w6 h6 g6)
          have H6 := Lib.hid (Tx.Own.post (h6 HYS.out))
          have HR6 := Lib.hid (Tx.row_by HRN.out g6.by_ (fun e => by have := Bt.Buf.base_le HO2.out g e.symm; omega))
          have HB6 := Lib.hid (HB2.out.trans (g6.below (by omega) (fun j hj => by have := Bt.Buf.base_le HO2.out j hj; omega)))
          clear h6 g6
          go_roundw
          case rel => exact ⟨k + 1, by omega, by simp, HXN.out, HR6.out, by rw [HON.out]; exact H6.out, HB6.out⟩
          case measure => simp [intOf]; omega
        · have HBD : Hid (T.1 = 4) := Lib.hid (G5.out fun hr => hxd ((Tx.right_iff.1 hr).1 k hkn))
          have hxi : (d.length : Int) ≤ ((X k : Nat) : Int) := by omega
          obtain ⟨x', hx'⟩ : ∃ x', x' = X k := ⟨_, rfl⟩
          rw [← hx'] at hcell hxi
          clear hx' hxd
          go_wp2_with fail
          go_ret2
          exact Tx.RRd.bad (by rw [HBD.out]; rfl) (by rw [HBD.out]; decide) HBR.out
      · obtain rfl : k = n := by omega
        have hki : ¬ (k : Int) < (k : Int) := by omega
        go_wp2_with fail
        go_loopw [15] (fun i wz => ∃ j : Nat, j ≤ d.length ∧ i = .int .i64 j ∧ (∀ p, p < j → Tx.mark X k p = true) ∧ wz = wr) (fun i _ => d.length - (intOf i).toNat)
        case atStart => exact ⟨0, by omega, rfl, (fun p hp => by omega), rfl⟩
        case round =>
          obtain ⟨j, hj, rfl, hms, rfl⟩ := hrel
          have HMS := Lib.hid hms
          clear hms
          have hj0 : (0 : Int) ≤ (j : Int) := by omega
          by_cases hjd : j < d.length
          · have hji : (j : Int) < (d.length : Int) := by omega
            have hcl := HRK.out.cell hjd
            unfold Tx.mv at hcl
            cases hmk2 : Tx.mark X k j
            · have HBD : Hid (T.1 = 4) := Lib.hid (G5.out fun hr => by
                have := (Tx.right_iff.1 hr).2.1 j hjd
                rw [hmk2] at this
                cases this)
              rw [hmk2] at hcl
              clear hmk2
              go_wp2_with fail
              go_ret2
              exact Tx.RRd.bad (by rw [HBD.out]; rfl) (by rw [HBD.out]; decide) HBR.out
            · have HMK := Lib.hid hmk2
              rw [hmk2] at hcl
              clear hmk2
              go_wp2_with fail
              go_roundw
              case rel => exact ⟨j + 1, by omega, by simp, (fun p hp => by
                by_cases e : p = j
                · rw [e]; exact HMK.out
                · exact HMS.out p (by omega)), by trivial⟩
              case measure => simp [intOf]; omega
          · have hji : ¬ (j : Int) < (d.length : Int) := by omega
            have cwd := Bt.rwidth_c _ k X _ HSR.out HX.out (by omega)
            by_cases hwq : Bt.wid k X = q
            · have HT := Lib.hid (G6.out (Tx.right_iff.2 ⟨HXS.out, (fun p hp => HMS.out p (by omega)), hwq⟩))
              rw [hwq] at cwd
              have hqq : ((q : Int) != (q : Int)) = false := by simp
              clear hwq
              go_wp2_with fail
              refine cwd.mono ?_
              rintro e w10 ⟨rfl, rfl⟩
              clear cwd
              go_wp2
              go_ret2
              refine Tx.RRd.good (by rw [HT.out]) ?_ (by rw [HT.out]; exact HRR.out) HBR.out
              rw [HT.out]
              exact Tx.Own.mono HO.out (by omega)
            · have HBD : Hid (T.1 = 4) := Lib.hid (G5.out fun hr => hwq (Tx.right_iff.1 hr).2.2)
              have hqq : (((Bt.wid k X : Nat) : Int) != (q : Int)) = true := by rw [bne_iff_ne]; omega
              generalize Bt.wid k X = z at cwd hqq
              clear hwq
              go_wp2_with fail
              refine cwd.mono ?_
              rintro e w10 ⟨rfl, rfl⟩
              clear cwd
              go_wp2
              go_ret2
              exact Tx.RRd.bad (by rw [HBD.out]; rfl) (by rw [HBD.out]; decide) HBR.out
  · rw [if_neg hck] at hS8
    have HB := Lib.hid (F4.out hck)
    have hCi : ((C : Int) != 0) = true := by rw [bne_iff_ne]; omega
    have HC := Lib.hid hck
    clear hck F4 F5 F6 hS8 hR8
    go_wp2
    go_ret2
    exact Tx.RRd.bad (by rw [HB.out]) (by rw [HB.out]; exact HC.out) HG8.out
end Go.Proofs.YtfbjmehkipcmbaaGreatDoor
