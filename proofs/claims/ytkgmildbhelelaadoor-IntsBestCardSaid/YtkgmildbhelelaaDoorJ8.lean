/-
  The document's answers for package ints: Read.
-/
import Derived.Test.YtkgmildbhelelaaDoorJB
namespace Go.Proofs.YtkgmildbhelelaaDoor
open Go.RowKit
open Ig (nth sg rest rd rdBody rdInts acc)
open Ty (num)
theorem Ig.add_wrap {x y : Int} : wrap64 (IntKind.u64.wrap (IntKind.u64.wrap y + IntKind.u64.wrap x)) = wrap64 (y + x) := by
  simp only [IntKind.wrap_u64]
  unfold wrap64
  omega
theorem Ig.grew_by3 {w w' : World} {v v' : Value} (h : Ty.Grew w w' v v') {w0 : World} {b : Nat} (g : w0.grownBy w (some b)) (hv : ∀ k, v.ownBlock = some k → w0.heap.size ≤ k) : w0.grownBy w' (some b) := Ig.grew_by h g hv
theorem Ig.acc_snoc : ∀ (M : List Int) (p x : Int), acc p (M ++ [x]) = acc p M ++ [wrap64 ((acc p M).getLastD p + x)]
  | [], p, x => rfl
  | a :: M, p, x => by
    simp only [List.cons_append, acc]
    rw [Ig.acc_snoc M (wrap64 (p + a)) x, List.getLastD_cons]
theorem Ig.lastD_nth {L : List Int} {q : Nat} (h : L.length = q + 1) (p : Int) : L.getLastD p = nth L q := by
  rw [List.getLastD_eq_getLast?, Ig.last_nth h]
  rfl
/-- What the loop of the plain reader has read. -/
def Ig.ofK (K : Nat) (M : List Int) : List Int := if K = 0 then M else acc 0 M
def Ig.LoopR (K n : Nat) (l : List UInt8) (j : Nat) (M2 : List Int) (l2 : List UInt8) (er : Nat) : Prop :=
  (er = 0 ∧ ∃ M, Ig.Mid n l j M l2 ∧ M2 = Ig.ofK K M) ∨ (er ≠ 0 ∧ (rdInts n l).1 = er ∧ j ≤ n)
theorem Ig.LoopR.start (K n : Nat) (l : List UInt8) : Ig.LoopR K n l 0 [] l 0 := .inl ⟨rfl, [], ⟨rfl, by omega, Nat.le_refl _, by simp⟩, by unfold Ig.ofK; split <;> rfl⟩
theorem Ig.LoopR.step {K n : Nat} {l : List UInt8} {j : Nat} {M : List Int} {l2 : List UInt8} (hM : Ig.Mid n l j M l2) (hj : j < n) {M3 : List Int} (h3 : M3 = Ig.ofK K (M ++ [sg l2])) : Ig.LoopR K n l (j + 1) M3 (rest l2) (num l2).2.2 := by
  by_cases h : (num l2).2.2 = 0
  · exact .inl ⟨h, _, hM.next hj h, h3⟩
  · exact .inr ⟨h, hM.fail hj h, by omega⟩
theorem Ig.LoopR.next0 {n : Nat} {l : List UInt8} {j : Nat} {M M2 : List Int} {l2 : List UInt8} (hM : Ig.Mid n l j M l2) (h2 : M2 = Ig.ofK 0 M) (hj : j < n) : Ig.LoopR 0 n l (j + 1) (M2 ++ [sg l2]) (rest l2) (num l2).2.2 :=
  Ig.LoopR.step hM hj (by rw [h2]; rfl)
theorem Ig.LoopR.next1a {n : Nat} {l : List UInt8} {j : Nat} {M M2 : List Int} {l2 : List UInt8} (hM : Ig.Mid n l j M l2) (h2 : M2 = Ig.ofK 1 M) (hj : j < n) (h0 : j = 0) : Ig.LoopR 1 n l (j + 1) (M2 ++ [sg l2]) (rest l2) (num l2).2.2 := by
  have hm : M = [] := List.eq_nil_of_length_eq_zero (by rw [hM.1]; exact h0)
  refine Ig.LoopR.step hM hj ?_
  rw [h2, hm]
  have hx := Ig.sg_i64 l2
  have e : wrap64 (0 + sg l2) = sg l2 := by
    unfold Ty.I64 at hx
    unfold wrap64
    omega
  show [] ++ [sg l2] = [wrap64 (0 + sg l2)]
  rw [e]; rfl
theorem Ig.LoopR.next1b {n : Nat} {l : List UInt8} {p : Nat} {M M2 : List Int} {l2 : List UInt8} (hM : Ig.Mid n l (p + 1) M l2) (h2 : M2 = Ig.ofK 1 M) (hj : p + 1 < n) (hl : M2.length = p + 1) : Ig.LoopR 1 n l (p + 1 + 1) (M2 ++ [wrap64 (nth M2 p + sg l2)]) (rest l2) (num l2).2.2 := by
  refine Ig.LoopR.step hM hj ?_
  have h3 : M2 = acc 0 M := h2
  show _ = acc 0 (M ++ [sg l2])
  rw [Ig.acc_snoc, ← h3, Ig.lastD_nth hl]
theorem Ig.body0 {n : Nat} {l l2 : List UInt8} {M : List Int} (h : Ig.Mid n l n M l2) : rdBody 0 n l = (0, Ig.ofK 0 M, l2) := by
  show rdInts n l = _
  rw [h.done]; rfl
theorem Ig.body1 {n : Nat} {l l2 : List UInt8} {M : List Int} (h : Ig.Mid n l n M l2) : rdBody 1 n l = (0, Ig.ofK 1 M, l2) := by
  show ((rdInts n l).1, acc 0 (rdInts n l).2.1, (rdInts n l).2.2) = _
  rw [h.done]; rfl
theorem Ig.RS_new (s : ByteArray) (w : World) : Ty.RS w.heap.size s (w.alloc (.cells #[.string s, .int .i64 0, .int .i64 0] 64)) s.data.toList 0 :=
  ⟨0, Nat.zero_le _, by simp, heap_alloc_new w _⟩
set_option maxHeartbeats 4000000 in
set_option maxRecDepth 100000 in
theorem Ig.rread_c (s : ByteArray) (w : World) (hs : s.size ≤ 140737488351232) :
    Calls Tryd.prog 21 #[.string s] w (Ig.Got w (rd s.data.toList)) := by
  have HRS0 := Lib.hid (Ig.RS_new s w)
  have HB1 : Hid (Below w.heap.size w (w.alloc (.cells #[.string s, .int .i64 0, .int .i64 0] 64))) := Lib.hid ((Below.refl _ _).alloc (Nat.le_refl _) _)
  generalize s.data.toList = l at HRS0 ⊢
  cases l with
  | nil =>
    have HR : Hid (rd [] = (2, [])) := Lib.hid rfl
    have e1 : Ty.rdB [] 0 = (0, [], 2) := rfl
    have e2 : Ty.rdU [] 2 = (0, [], 2) := rfl
    have cb := fun wz (hc : Ty.RS w.heap.size s wz [] 0) => Ty.rbyte_m w.heap.size s hs [] 0 wz hc
    have cu := fun wz (hc : Ty.RS w.heap.size s wz [] 2) => Ty.ruint_m w.heap.size s hs [] 2 wz hc
    rw [e1] at cb
    rw [e2] at cu
    simp only [Int.natCast_zero] at cb cu
    clear e1 e2
    go_enter Tryd.func21, Tryd.ntmps21
    go_wp2_with fail
    have cb0 := cb _ HRS0.out
    clear cb
    refine cb0.mono ?_
    rintro e w2 ⟨rfl, hc2, hg2⟩
    have he2 := Ig.RS_err hc2
    simp only [Int.cast_ofNat_Int] at he2
    have HB2 := Lib.hid (HB1.out.trans (Ty.below_at (B := w.heap.size) hg2 HB1.out.size (Nat.le_refl _)))
    have hs2 := HB2.out.size
    have cu2 := cu _ hc2
    clear cb0 hc2 hg2 cu
    go_wp2_with fail
    refine cu2.mono ?_
    rintro e w3 ⟨rfl, hc3, hg3⟩
    have he3 := Ig.RS_err hc3
    simp only [Int.cast_ofNat_Int] at he3
    have HB3 := Lib.hid (HB2.out.trans (Ty.below_at (B := w.heap.size) hg3 hs2 (Nat.le_refl _)))
    have hs3 := HB3.out.size
    have HC3 := Lib.hid hc3
    clear cu2 hg3 he2 hc3
    go_wp2_with fail
    go_quiet (fail)
    go_wp2
    go_ret2
    exact Ig.Got.bad HR.out rfl (HB3.out.trans ((Bt.drewN_below _ _).mono HB3.out.size))
  | cons x r =>
    have cb := fun wz (hc : Ty.RS w.heap.size s wz (x :: r) 0) => Ig.rbyte_x w.heap.size s hs x r wz hc
    by_cases h3 : 3 < x.toNat
    · have HR := Lib.hid (Ig.rd1 (r := r) h3)
      have h3i : (3 : Int) < (x.toNat : Int) := by omega
      clear h3
      go_enter Tryd.func21, Tryd.ntmps21
      go_wp2_with fail
      have cb0 := cb _ HRS0.out
      clear cb
      refine cb0.mono ?_
      rintro e w2 ⟨rfl, hc2, hg2⟩
      have he2 := Ig.RS_err hc2
      simp only [Int.natCast_zero] at he2
      have HB2 := Lib.hid (HB1.out.trans (Ty.below_at (B := w.heap.size) hg2 HB1.out.size (Nat.le_refl _)))
      have hs2 := HB2.out.size
      go_wp2
      go_ret2
      exact Ig.Got.bad HR.out rfl HB2.out
    · have h3i : (x.toNat : Int) ≤ 3 := by omega
      have cu := fun wz (hc : Ty.RS w.heap.size s wz r 0) => Ig.ruint_x w.heap.size s hs r wz hc
      by_cases he : (num r).2.2 = 0
      · rw [he] at cu
        by_cases hnl : 65536 < (num r).1
        · have HR := Lib.hid (Ig.rd3 (r := r) h3 he hnl)
          generalize (num r).1 = n at cu hnl
          generalize rest r = l3 at cu
          have hni : (65536 : Int) < (n : Int) := by omega
          clear he h3 hnl
          go_enter Tryd.func21, Tryd.ntmps21
          go_wp2_with fail
          have cb0 := cb _ HRS0.out
          clear cb
          refine cb0.mono ?_
          rintro e w2 ⟨rfl, hc2, hg2⟩
          have he2 := Ig.RS_err hc2
          simp only [Int.natCast_zero] at he2
          have HB2 := Lib.hid (HB1.out.trans (Ty.below_at (B := w.heap.size) hg2 HB1.out.size (Nat.le_refl _)))
          have hs2 := HB2.out.size
          have cu2 := cu _ hc2
          clear cb0 hc2 hg2 cu
          go_wp2_with fail
          refine cu2.mono ?_
          rintro e w3 ⟨rfl, hc3, hg3⟩
          have he3 := Ig.RS_err hc3
          simp only [Int.natCast_zero] at he3
          have HB3 := Lib.hid (HB2.out.trans (Ty.below_at (B := w.heap.size) hg3 hs2 (Nat.le_refl _)))
          have hs3 := HB3.out.size
          have HC3 := Lib.hid hc3
          clear cu2 hg3 he2 hc3
          go_wp2
          go_ret2
          exact Ig.Got.bad HR.out rfl HB3.out
        · have hnl2 : (num r).1 ≤ 65536 := by omega
          obtain ⟨K, hK⟩ : ∃ K, K = x.toNat := ⟨_, rfl⟩
          have G4 := Lib.hid (fun h4 => Ig.rd4 (r := r) h3 he hnl h4)
          have G5 := Lib.hid (fun h4 h5 => Ig.rd5 (r := r) h3 he hnl h4 h5)
          have G6 := Lib.hid (fun h4 h5 => Ig.rd6 (r := r) h3 he hnl h4 h5)
          rw [← hK] at cb G4 G5 G6 h3i h3
          generalize (num r).1 = n at cu hnl2 hnl G4 G5 G6
          generalize rest r = l3 at cu G4 G5 G6
          have hni : ¬ (65536 : Int) < (n : Int) := by omega
          have hni2 : (n : Int) ≤ 65536 := by omega
          have hK0 : (0 : Int) ≤ (K : Int) := by omega
          have HK := Lib.hid hK
          clear he hK hnl
          rcases (by omega : K = 2 ∨ K = 3 ∨ K = 0 ∨ K = 1) with hKK | hKK | hKK | hKK
          · have k2 : ((K : Int) == 2) = true := by rw [beq_iff_eq]; omega
            have cr := fun wz h1 => Ig.rreadRuns_c w.heap.size s hs l3 n wz h1 hnl2
            have ht : rdBody K n l3 = Ig.rdR n l3 := by rw [hKK]; rfl
            rw [ht] at G4 G5 G6
            generalize Ig.rdR n l3 = t at cr G4 G5 G6
            clear ht hKK h3
            go_enter Tryd.func21, Tryd.ntmps21
            go_wp2_with fail
            have cb0 := cb _ HRS0.out
            clear cb
            refine cb0.mono ?_
            rintro e w2 ⟨rfl, hc2, hg2⟩
            have he2 := Ig.RS_err hc2
            simp only [Int.natCast_zero] at he2
            have HB2 := Lib.hid (HB1.out.trans (Ty.below_at (B := w.heap.size) hg2 HB1.out.size (Nat.le_refl _)))
            have hs2 := HB2.out.size
            have cu2 := cu _ hc2
            clear cb0 hc2 hg2 cu
            go_wp2_with fail
            refine cu2.mono ?_
            rintro e w3 ⟨rfl, hc3, hg3⟩
            have he3 := Ig.RS_err hc3
            simp only [Int.natCast_zero] at he3
            have HB3 := Lib.hid (HB2.out.trans (Ty.below_at (B := w.heap.size) hg3 hs2 (Nat.le_refl _)))
            have hs3 := HB3.out.size
            have HC3 := Lib.hid hc3
            clear cu2 hg3 he2 hc3
            go_wp2_with fail
            refine (cr _ HC3.out).mono ?_
            rintro e w7 ⟨v7, rfl, hO7, hc7, hg7⟩
            have hbase : w.heap.size < w3.heap.size := Ig.RS_lt HC3.out
            have HO7 := Lib.hid hO7
            have HC7 := Lib.hid hc7
            have HB7 := Lib.hid (HB3.out.trans (Ty.below_at (B := w.heap.size) hg7 hs3 (Nat.le_refl _)))
            clear cr hO7 hc7 hg7 he3
            obtain ⟨a7, c7, rfl⟩ := Ig.own_len HO7.out
            obtain ⟨C, L, l4⟩ := t
            simp only at HO7 HC7 G4 G5 G6 ⊢
            by_cases hC : C = 0
            · subst hC
              have hc7 := HC7.out rfl
              have HO8 := HO7
              simp only [if_true] at HO8
              have hil : (if (0 : Nat) = 0 then L else []).length = L.length := by rw [if_pos rfl]
              rw [hil]
              simp only [Int.natCast_zero]
              clear hil
              have hd := Ty.rdone_m w.heap.size s hs l4 0 _ hc7
              clear hc7
              by_cases hl4 : l4 = []
              · have HR := Lib.hid (G6.out (by trivial) hl4)
                have hf : Ty.fin l4 0 = 0 := by rw [hl4]; rfl
                rw [hf] at hd
                simp only [Int.natCast_zero] at hd
                clear hl4 hf
                go_wp2_with fail
                refine hd.mono ?_
                rintro e w8 ⟨rfl, _, hg8⟩
                have HB8 := Lib.hid (HB7.out.trans (Ty.below_at (B := w.heap.size) hg8 HB7.out.size (Nat.le_refl _)))
                have HA9 := Lib.hid (Ig.Own.at (Ig.Own.by HO8.out hg8 hbase))
                clear hd hg8
                go_wp2
                go_ret2
                exact Ig.Got.good HR.out HA9.out HB8.out
              · have HR := Lib.hid (G5.out (by trivial) hl4)
                have hf : Ty.fin l4 0 = 5 := by unfold Ty.fin; rw [if_pos ⟨rfl, hl4⟩]
                rw [hf] at hd
                simp only [Int.cast_ofNat_Int] at hd
                clear hl4 hf
                go_wp2_with fail
                refine hd.mono ?_
                rintro e w8 ⟨rfl, _, hg8⟩
                have HB8 := Lib.hid (HB7.out.trans (Ty.below_at (B := w.heap.size) hg8 HB7.out.size (Nat.le_refl _)))
                clear hd hg8
                go_wp2
                go_ret2
                exact Ig.Got.bad HR.out rfl HB8.out
            · have HR := Lib.hid (G4.out hC)
              have hne : ((C : Int) != 0) = true := by rw [bne_iff_ne]; omega
              have hne2 : ((C : Int) == 0) = false := by rw [beq_eq_false_iff_ne]; omega
              simp only [if_neg hC, List.length_nil]
              clear hC
              go_wp2
              go_ret2
              exact Ig.Got.bad HR.out rfl HB7.out
          · have k2 : ((K : Int) == 2) = false := by rw [beq_eq_false_iff_ne]; omega
            have k3 : ((K : Int) == 3) = true := by rw [beq_iff_eq]; omega
            have k4 : ¬ (K : Int) < 2 := by omega
            by_cases hn0 : n = 0
            · have ht : rdBody K n l3 = (0, [], l3) := by rw [hKK, hn0]; rfl
              rw [ht] at G4 G5 G6
              simp only at G4 G5 G6
              have hnz : ¬ (0 : Int) < (n : Int) := by omega
              clear ht hKK h3 hn0
              go_enter Tryd.func21, Tryd.ntmps21
              go_wp2_with fail
              have cb0 := cb _ HRS0.out
              clear cb
              refine cb0.mono ?_
              rintro e w2 ⟨rfl, hc2, hg2⟩
              have he2 := Ig.RS_err hc2
              simp only [Int.natCast_zero] at he2
              have HB2 := Lib.hid (HB1.out.trans (Ty.below_at (B := w.heap.size) hg2 HB1.out.size (Nat.le_refl _)))
              have hs2 := HB2.out.size
              have cu2 := cu _ hc2
              clear cb0 hc2 hg2 cu
              go_wp2_with fail
              refine cu2.mono ?_
              rintro e w3 ⟨rfl, hc3, hg3⟩
              have he3 := Ig.RS_err hc3
              simp only [Int.natCast_zero] at he3
              have HB3 := Lib.hid (HB2.out.trans (Ty.below_at (B := w.heap.size) hg3 hs2 (Nat.le_refl _)))
              have hs3 := HB3.out.size
              have HC3 := Lib.hid hc3
              clear cu2 hg3 he2 hc3
              have hbase : w.heap.size < w3.heap.size := Ig.RS_lt HC3.out
              have hc7 := HC3.out
              have HB7 := HB3
              have HO8 : Hid (Ig.Own w3.heap.size w3 (.slice none 0 0) []) := Lib.hid (Ig.Own.nil _ _)
              generalize l3 = l4 at G5 G6 hc7
              have hd := Ty.rdone_m w.heap.size s hs l4 0 _ hc7
              clear hc7
              by_cases hl4 : l4 = []
              · have HR := Lib.hid (G6.out (by trivial) hl4)
                have hf : Ty.fin l4 0 = 0 := by rw [hl4]; rfl
                rw [hf] at hd
                simp only [Int.natCast_zero] at hd
                clear hl4 hf
                go_wp2_with fail
                refine hd.mono ?_
                rintro e w8 ⟨rfl, _, hg8⟩
                have HB8 := Lib.hid (HB7.out.trans (Ty.below_at (B := w.heap.size) hg8 HB7.out.size (Nat.le_refl _)))
                have HA9 := Lib.hid (Ig.Own.at (Ig.Own.by HO8.out hg8 hbase))
                clear hd hg8
                go_wp2
                go_ret2
                exact Ig.Got.good HR.out HA9.out HB8.out
              · have HR := Lib.hid (G5.out (by trivial) hl4)
                have hf : Ty.fin l4 0 = 5 := by unfold Ty.fin; rw [if_pos ⟨rfl, hl4⟩]
                rw [hf] at hd
                simp only [Int.cast_ofNat_Int] at hd
                clear hl4 hf
                go_wp2_with fail
                refine hd.mono ?_
                rintro e w8 ⟨rfl, _, hg8⟩
                have HB8 := Lib.hid (HB7.out.trans (Ty.below_at (B := w.heap.size) hg8 HB7.out.size (Nat.le_refl _)))
                clear hd hg8
                go_wp2
                go_ret2
                exact Ig.Got.bad HR.out rfl HB8.out
            · have cr := fun wz h1 => Ig.rreadPacked_c w.heap.size s hs l3 n wz h1 (by omega) hnl2
              have ht : rdBody K n l3 = Ig.rdPacked n l3 := by
                rw [hKK]
                show (if n = 0 then (0, [], l3) else Ig.rdPacked n l3) = _
                rw [if_neg hn0]
              have hnz : (0 : Int) < (n : Int) := by omega
              rw [ht] at G4 G5 G6
              generalize Ig.rdPacked n l3 = t at cr G4 G5 G6
              clear ht hKK h3 hn0
              go_enter Tryd.func21, Tryd.ntmps21
              go_wp2_with fail
              have cb0 := cb _ HRS0.out
              clear cb
              refine cb0.mono ?_
              rintro e w2 ⟨rfl, hc2, hg2⟩
              have he2 := Ig.RS_err hc2
              simp only [Int.natCast_zero] at he2
              have HB2 := Lib.hid (HB1.out.trans (Ty.below_at (B := w.heap.size) hg2 HB1.out.size (Nat.le_refl _)))
              have hs2 := HB2.out.size
              have cu2 := cu _ hc2
              clear cb0 hc2 hg2 cu
              go_wp2_with fail
              refine cu2.mono ?_
              rintro e w3 ⟨rfl, hc3, hg3⟩
              have he3 := Ig.RS_err hc3
              simp only [Int.natCast_zero] at he3
              have HB3 := Lib.hid (HB2.out.trans (Ty.below_at (B := w.heap.size) hg3 hs2 (Nat.le_refl _)))
              have hs3 := HB3.out.size
              have HC3 := Lib.hid hc3
              clear cu2 hg3 he2 hc3
              go_wp2_with fail
              refine (cr _ HC3.out).mono ?_
              rintro e w7 ⟨v7, rfl, hO7, hc7, hg7⟩
              have hbase : w.heap.size < w3.heap.size := Ig.RS_lt HC3.out
              have HO7 := Lib.hid hO7
              have HC7 := Lib.hid hc7
              have HB7 := Lib.hid (HB3.out.trans (Ty.below_at (B := w.heap.size) hg7 hs3 (Nat.le_refl _)))
              clear cr hO7 hc7 hg7 he3
              obtain ⟨a7, c7, rfl⟩ := Ig.own_len HO7.out
              obtain ⟨C, L, l4⟩ := t
              simp only at HO7 HC7 G4 G5 G6 ⊢
              by_cases hC : C = 0
              · subst hC
                have hc7 := HC7.out rfl
                have HO8 := HO7
                simp only [if_true] at HO8
                have hil : (if (0 : Nat) = 0 then L else []).length = L.length := by rw [if_pos rfl]
                rw [hil]
                simp only [Int.natCast_zero]
                clear hil
                have hd := Ty.rdone_m w.heap.size s hs l4 0 _ hc7
                clear hc7
                by_cases hl4 : l4 = []
                · have HR := Lib.hid (G6.out (by trivial) hl4)
                  have hf : Ty.fin l4 0 = 0 := by rw [hl4]; rfl
                  rw [hf] at hd
                  simp only [Int.natCast_zero] at hd
                  clear hl4 hf
                  go_wp2_with fail
                  refine hd.mono ?_
                  rintro e w8 ⟨rfl, _, hg8⟩
                  have HB8 := Lib.hid (HB7.out.trans (Ty.below_at (B := w.heap.size) hg8 HB7.out.size (Nat.le_refl _)))
                  have HA9 := Lib.hid (Ig.Own.at (Ig.Own.by HO8.out hg8 hbase))
                  clear hd hg8
                  go_wp2
                  go_ret2
                  exact Ig.Got.good HR.out HA9.out HB8.out
                · have HR := Lib.hid (G5.out (by trivial) hl4)
                  have hf : Ty.fin l4 0 = 5 := by unfold Ty.fin; rw [if_pos ⟨rfl, hl4⟩]
                  rw [hf] at hd
                  simp only [Int.cast_ofNat_Int] at hd
                  clear hl4 hf
                  go_wp2_with fail
                  refine hd.mono ?_
                  rintro e w8 ⟨rfl, _, hg8⟩
                  have HB8 := Lib.hid (HB7.out.trans (Ty.below_at (B := w.heap.size) hg8 HB7.out.size (Nat.le_refl _)))
                  clear hd hg8
                  go_wp2
                  go_ret2
                  exact Ig.Got.bad HR.out rfl HB8.out
              · have HR := Lib.hid (G4.out hC)
                have hne : ((C : Int) != 0) = true := by rw [bne_iff_ne]; omega
                have hne2 : ((C : Int) == 0) = false := by rw [beq_eq_false_iff_ne]; omega
                simp only [if_neg hC, List.length_nil]
                clear hC
                go_wp2
                go_ret2
                exact Ig.Got.bad HR.out rfl HB7.out
          · have k1 : ((K : Int) == 1) = false := by rw [beq_eq_false_iff_ne]; omega
            have k2 : ((K : Int) == 2) = false := by rw [beq_eq_false_iff_ne]; omega
            have k3 : ((K : Int) == 3) = false := by rw [beq_eq_false_iff_ne]; omega
            have k4 : (K : Int) < 2 := by omega
            rw [hKK] at G4 G5 G6
            clear hKK h3
            go_enter Tryd.func21, Tryd.ntmps21
            go_wp2_with fail
            have cb0 := cb _ HRS0.out
            clear cb
            refine cb0.mono ?_
            rintro e w2 ⟨rfl, hc2, hg2⟩
            have he2 := Ig.RS_err hc2
            simp only [Int.natCast_zero] at he2
            have HB2 := Lib.hid (HB1.out.trans (Ty.below_at (B := w.heap.size) hg2 HB1.out.size (Nat.le_refl _)))
            have hs2 := HB2.out.size
            have cu2 := cu _ hc2
            clear cb0 hc2 hg2 cu
            go_wp2_with fail
            refine cu2.mono ?_
            rintro e w3 ⟨rfl, hc3, hg3⟩
            have he3 := Ig.RS_err hc3
            simp only [Int.natCast_zero] at he3
            have HB3 := Lib.hid (HB2.out.trans (Ty.below_at (B := w.heap.size) hg3 hs2 (Nat.le_refl _)))
            have hs3 := HB3.out.size
            have HC3 := Lib.hid hc3
            clear cu2 hg3 he2 hc3
            go_wp2_with fail
            have hbase : w.heap.size < w3.heap.size := Ig.RS_lt HC3.out
            go_loopw [7, 9] (fun v i wr => ∃ (j : Nat) (M2 : List Int) (l2 : List UInt8) (er : Nat), i = .int .u64 ((j : Nat) : Int) ∧ M2.length = j ∧ Ig.Own w3.heap.size wr v M2 ∧ Ty.RS w.heap.size s wr l2 er ∧ w3.grownBy wr (some w.heap.size) ∧ Ig.LoopR 0 n l3 j M2 l2 er) (fun _ i _ => n - (intOf i).toNat)
            case atStart => exact ⟨0, [], l3, 0, rfl, rfl, Ig.Own.nil _ _, HC3.out, Ty.by_refl _ _, Ig.LoopR.start 0 n l3⟩
            case round =>
              obtain ⟨j, M2, l2, er, rfl, hml, hO, hR, hg, hLR⟩ := hrel
              have he := Ig.RS_err hR
              have HO := Lib.hid hO
              have HG := Lib.hid hg
              have HML := Lib.hid hml
              have HRR := Lib.hid hR
              have hgs := hg.size
              obtain ⟨a2, c2, rfl⟩ := Ig.own_len hO
              clear hO hg hR he3
              have hj0 : (0 : Int) ≤ (j : Int) := by omega
              rcases hLR with ⟨rfl, M, hM, hMM⟩ | ⟨he0, hE, hjn⟩
              · simp only [Int.natCast_zero] at he
                have hjn := hM.2.1
                by_cases hjl : j < n
                · have hji : (j : Int) < (n : Int) := by omega
                  have ci := Ig.rint_x w.heap.size s hs l2 _ HRR.out
                  have HLN := Lib.hid (Ig.LoopR.next0 hM hMM hjl)
                  generalize (num l2).2.2 = q at ci HLN
                  generalize sg l2 = x at ci HLN
                  generalize rest l2 = l5 at ci HLN
                  clear hM hMM hml
                  have hlen2 : M2.length + 1 ≤ 65537 := by have := HML.out; omega
                  go_wp2_with fail
                  refine ci.mono ?_
                  rintro e w5 ⟨rfl, hc5, hg5⟩
                  have HC5 := Lib.hid hc5
                  have HO5 := Lib.hid (HO.out.by hg5 hbase)
                  have HG5 := Lib.hid (Ty.by_trans HG.out hg5)
                  have hs5 := hg5.size
                  clear ci hc5 hg5
                  go_wp2_with (at_builtin; refine Bt.wpList_append_one 2 22 (.int .i64 0) 8 Tryd.underlying22 Ig.infoI rfl (HO5.out.pre (x)) (by omega) (by omega) (by omega) (.tmp 95) (.tmp 97) _ rfl rfl rfl rfl rfl ?_; intro v6 w6 h6 g6)
                  have H6 := Lib.hid (Ig.Own.post (h6 (Ig.iv_snoc M2 x)))
                  have HC6 := Lib.hid (Ig.RS_by HC5.out g6 (Ig.buf_ne HO5.out hbase))
                  have HG6 := Lib.hid (Ig.grew_by3 g6 HG5.out (Bt.Buf.base_le HO5.out))
                  clear h6 g6
                  go_roundw
                  case rel => exact ⟨j + 1, _, _, _, by simp, by rw [List.length_append, HML.out]; rfl, H6.out, HC6.out, HG6.out, HLN.out⟩
                  case measure => simp [intOf]; omega
                · obtain rfl : j = n := by omega
                  have hji : ¬ (j : Int) < (j : Int) := by omega
                  have HT := Lib.hid (Ig.body0 hM)
                  have hc7 := HRR.out
                  have HB7 := Lib.hid (HB3.out.trans (Ty.below_at (B := w.heap.size) HG.out hs3 (Nat.le_refl _)))
                  have HO8 := HO
                  rw [HT.out] at G4 G5 G6
                  simp only at G4 G5 G6
                  rw [hMM] at HO8
                  have hlM : M2.length = (Ig.ofK 0 M).length := by rw [hMM]
                  obtain ⟨L, hL⟩ : ∃ L, L = Ig.ofK 0 M := ⟨_, rfl⟩
                  rw [← hL] at G6 HO8 hlM
                  have HO9 := HO8.out
                  have hlL : (.slice a2 M2.length c2 : Value) = .slice a2 L.length c2 := by rw [hlM]
                  clear HO8
                  have HO8 : Hid (Ig.Own w3.heap.size _ (.slice a2 M2.length c2) L) := Lib.hid (by rw [hlM]; exact HO9)
                  generalize l2 = l4 at G5 G6 hc7
                  clear HO9 hlL hL hM hMM hlM hml
                  have hd := Ty.rdone_m w.heap.size s hs l4 0 _ hc7
                  clear hc7
                  by_cases hl4 : l4 = []
                  · have HR := Lib.hid (G6.out (by trivial) hl4)
                    have hf : Ty.fin l4 0 = 0 := by rw [hl4]; rfl
                    rw [hf] at hd
                    simp only [Int.natCast_zero] at hd
                    clear hl4 hf
                    go_wp2_with fail
                    refine hd.mono ?_
                    rintro e w8 ⟨rfl, _, hg8⟩
                    have HB8 := Lib.hid (HB7.out.trans (Ty.below_at (B := w.heap.size) hg8 HB7.out.size (Nat.le_refl _)))
                    have HA9 := Lib.hid (Ig.Own.at (Ig.Own.by HO8.out hg8 hbase))
                    clear hd hg8
                    go_wp2
                    go_ret2
                    exact Ig.Got.good HR.out HA9.out HB8.out
                  · have HR := Lib.hid (G5.out (by trivial) hl4)
                    have hf : Ty.fin l4 0 = 5 := by unfold Ty.fin; rw [if_pos ⟨rfl, hl4⟩]
                    rw [hf] at hd
                    simp only [Int.cast_ofNat_Int] at hd
                    clear hl4 hf
                    go_wp2_with fail
                    refine hd.mono ?_
                    rintro e w8 ⟨rfl, _, hg8⟩
                    have HB8 := Lib.hid (HB7.out.trans (Ty.below_at (B := w.heap.size) hg8 HB7.out.size (Nat.le_refl _)))
                    clear hd hg8
                    go_wp2
                    go_ret2
                    exact Ig.Got.bad HR.out rfl HB8.out
              · have hne : ((er : Int) != 0) = true := by rw [bne_iff_ne]; omega
                have hne2 : ((er : Int) == 0) = false := by rw [beq_eq_false_iff_ne]; omega
                have HB7 := Lib.hid (HB3.out.trans (Ty.below_at (B := w.heap.size) HG.out hs3 (Nat.le_refl _)))
                have HT : Hid ((rdBody 0 n l3).1 = er) := Lib.hid hE
                have HR := Lib.hid (G4.out (by rw [HT.out]; exact he0))
                rw [HT.out] at HR
                clear he0 hE hml
                by_cases hjl : j < n
                · have hji : (j : Int) < (n : Int) := by omega
                  go_wp2
                  go_ret2
                  exact Ig.Got.bad HR.out rfl HB7.out
                · have hji : ¬ (j : Int) < (n : Int) := by omega
                  go_wp2
                  go_ret2
                  exact Ig.Got.bad HR.out rfl HB7.out
          · have k1 : ((K : Int) == 1) = true := by rw [beq_iff_eq]; omega
            have k2 : ((K : Int) == 2) = false := by rw [beq_eq_false_iff_ne]; omega
            have k3 : ((K : Int) == 3) = false := by rw [beq_eq_false_iff_ne]; omega
            have k4 : (K : Int) < 2 := by omega
            rw [hKK] at G4 G5 G6
            clear hKK h3
            go_enter Tryd.func21, Tryd.ntmps21
            go_wp2_with fail
            have cb0 := cb _ HRS0.out
            clear cb
            refine cb0.mono ?_
            rintro e w2 ⟨rfl, hc2, hg2⟩
            have he2 := Ig.RS_err hc2
            simp only [Int.natCast_zero] at he2
            have HB2 := Lib.hid (HB1.out.trans (Ty.below_at (B := w.heap.size) hg2 HB1.out.size (Nat.le_refl _)))
            have hs2 := HB2.out.size
            have cu2 := cu _ hc2
            clear cb0 hc2 hg2 cu
            go_wp2_with fail
            refine cu2.mono ?_
            rintro e w3 ⟨rfl, hc3, hg3⟩
            have he3 := Ig.RS_err hc3
            simp only [Int.natCast_zero] at he3
            have HB3 := Lib.hid (HB2.out.trans (Ty.below_at (B := w.heap.size) hg3 hs2 (Nat.le_refl _)))
            have hs3 := HB3.out.size
            have HC3 := Lib.hid hc3
            clear cu2 hg3 he2 hc3
            go_wp2_with fail
            have hbase : w.heap.size < w3.heap.size := Ig.RS_lt HC3.out
            go_loopw [7, 9] (fun v i wr => ∃ (j : Nat) (M2 : List Int) (l2 : List UInt8) (er : Nat), i = .int .u64 ((j : Nat) : Int) ∧ M2.length = j ∧ Ig.Own w3.heap.size wr v M2 ∧ Ty.RS w.heap.size s wr l2 er ∧ w3.grownBy wr (some w.heap.size) ∧ Ig.LoopR 1 n l3 j M2 l2 er) (fun _ i _ => n - (intOf i).toNat)
            case atStart => exact ⟨0, [], l3, 0, rfl, rfl, Ig.Own.nil _ _, HC3.out, Ty.by_refl _ _, Ig.LoopR.start 1 n l3⟩
            case round =>
              obtain ⟨j, M2, l2, er, rfl, hml, hO, hR, hg, hLR⟩ := hrel
              have he := Ig.RS_err hR
              have HO := Lib.hid hO
              have HG := Lib.hid hg
              have HML := Lib.hid hml
              have HRR := Lib.hid hR
              have hgs := hg.size
              obtain ⟨a2, c2, rfl⟩ := Ig.own_len hO
              clear hO hg hR he3
              have hj0 : (0 : Int) ≤ (j : Int) := by omega
              rcases hLR with ⟨rfl, M, hM, hMM⟩ | ⟨he0, hE, hjn⟩
              · simp only [Int.natCast_zero] at he
                have hjn := hM.2.1
                by_cases hjl : j < n
                · have hji : (j : Int) < (n : Int) := by omega
                  have ci := Ig.rint_x w.heap.size s hs l2 _ HRR.out
                  rcases Nat.eq_zero_or_pos j with hjz | hjz
                  · have HLN := Lib.hid (Ig.LoopR.next1a hM hMM hjl hjz)
                    have hjz2 : ¬ (0 : Int) < (j : Int) := by omega
                    generalize (num l2).2.2 = q at ci HLN
                    generalize sg l2 = x at ci HLN
                    generalize rest l2 = l5 at ci HLN
                    clear hM hMM hml hjz
                    have hlen2 : M2.length + 1 ≤ 65537 := by have := HML.out; omega
                    go_wp2_with fail
                    refine ci.mono ?_
                    rintro e w5 ⟨rfl, hc5, hg5⟩
                    have HC5 := Lib.hid hc5
                    have HO5 := Lib.hid (HO.out.by hg5 hbase)
                    have HG5 := Lib.hid (Ty.by_trans HG.out hg5)
                    have hs5 := hg5.size
                    clear ci hc5 hg5
                    go_wp2_with (at_builtin; refine Bt.wpList_append_one 2 22 (.int .i64 0) 8 Tryd.underlying22 Ig.infoI rfl (HO5.out.pre (x)) (by omega) (by omega) (by omega) (.tmp 95) (.tmp 97) _ rfl rfl rfl rfl rfl ?_; intro v6 w6 h6 g6)
                    have H6 := Lib.hid (Ig.Own.post (h6 (Ig.iv_snoc M2 x)))
                    have HC6 := Lib.hid (Ig.RS_by HC5.out g6 (Ig.buf_ne HO5.out hbase))
                    have HG6 := Lib.hid (Ig.grew_by3 g6 HG5.out (Bt.Buf.base_le HO5.out))
                    clear h6 g6
                    go_roundw
                    case rel => exact ⟨j + 1, _, _, _, by simp, by rw [List.length_append, HML.out]; rfl, H6.out, HC6.out, HG6.out, HLN.out⟩
                    case measure => simp [intOf]; omega
                  · obtain ⟨p, rfl⟩ : ∃ p, j = p + 1 := ⟨j - 1, by omega⟩
                    have HLN := Lib.hid (Ig.LoopR.next1b hM hMM hjl hml)
                    obtain ⟨g, c', hv, _⟩ := Ig.own_some HO.out hml
                    simp only [Value.slice.injEq] at hv
                    obtain ⟨rfl, _, rfl⟩ := hv
                    have hq2 : p < M2.length := by omega
                    obtain ⟨y, ey⟩ : ∃ y, y = nth M2 p := ⟨_, rfl⟩
                    rw [← ey] at HLN
                    have HY := Lib.hid ey
                    have HQ := Lib.hid hq2
                    generalize (num l2).2.2 = q at ci HLN
                    generalize sg l2 = x at ci HLN
                    generalize rest l2 = l5 at ci HLN
                    have HADD := Lib.hid (Ig.add_wrap (x := x) (y := y))
                    clear hM hMM hjz ey hq2
                    have hlen2 : M2.length + 1 ≤ 65537 := by have := HML.out; omega
                    go_wp2_with fail
                    refine ci.mono ?_
                    rintro e w5 ⟨rfl, hc5, hg5⟩
                    have HC5 := Lib.hid hc5
                    have HO5 := Lib.hid (HO.out.by hg5 hbase)
                    have HG5 := Lib.hid (Ty.by_trans HG.out hg5)
                    have hs5 := hg5.size
                    have hcl : _ = some (Value.int .i64 _) := (Ig.buf_cell HO5.out HQ.out).1
                    rw [← HY.out] at hcl
                    have hO5b := HO5.out
                    rw [HML.out] at hO5b
                    have HO5 := Lib.hid hO5b
                    clear hO5b
                    clear ci hc5 hg5
                    go_wp2_with (at_builtin; refine Bt.wpList_append_one 2 22 (.int .i64 0) 8 Tryd.underlying22 Ig.infoI rfl (HO5.out.pre (wrap64 (y + x))) (by omega) (by omega) (by omega) (.tmp 95) (.tmp 97) _ rfl rfl rfl rfl rfl ?_; intro v6 w6 h6 g6)
                    have H6 := Lib.hid (Ig.Own.post (h6 (by rw [HADD.out]; exact Ig.iv_snoc M2 (wrap64 (y + x)))))
                    have HC6 := Lib.hid (Ig.RS_by HC5.out g6 (Ig.buf_ne HO5.out hbase))
                    have HG6 := Lib.hid (Ig.grew_by3 g6 HG5.out (Bt.Buf.base_le HO5.out))
                    clear h6 g6
                    go_roundw
                    case rel => exact ⟨p + 1 + 1, _, _, _, by simp, by rw [List.length_append, HML.out]; rfl, H6.out, HC6.out, HG6.out, HLN.out⟩
                    case measure => simp [intOf]; omega
                · obtain rfl : j = n := by omega
                  have hji : ¬ (j : Int) < (j : Int) := by omega
                  have HT := Lib.hid (Ig.body1 hM)
                  have hc7 := HRR.out
                  have HB7 := Lib.hid (HB3.out.trans (Ty.below_at (B := w.heap.size) HG.out hs3 (Nat.le_refl _)))
                  have HO8 := HO
                  rw [HT.out] at G4 G5 G6
                  simp only at G4 G5 G6
                  rw [hMM] at HO8
                  have hlM : M2.length = (Ig.ofK 1 M).length := by rw [hMM]
                  obtain ⟨L, hL⟩ : ∃ L, L = Ig.ofK 1 M := ⟨_, rfl⟩
                  rw [← hL] at G6 HO8 hlM
                  have HO9 := HO8.out
                  have hlL : (.slice a2 M2.length c2 : Value) = .slice a2 L.length c2 := by rw [hlM]
                  clear HO8
                  have HO8 : Hid (Ig.Own w3.heap.size _ (.slice a2 M2.length c2) L) := Lib.hid (by rw [hlM]; exact HO9)
                  generalize l2 = l4 at G5 G6 hc7
                  clear HO9 hlL hL hM hMM hlM hml
                  have hd := Ty.rdone_m w.heap.size s hs l4 0 _ hc7
                  clear hc7
                  by_cases hl4 : l4 = []
                  · have HR := Lib.hid (G6.out (by trivial) hl4)
                    have hf : Ty.fin l4 0 = 0 := by rw [hl4]; rfl
                    rw [hf] at hd
                    simp only [Int.natCast_zero] at hd
                    clear hl4 hf
                    go_wp2_with fail
                    refine hd.mono ?_
                    rintro e w8 ⟨rfl, _, hg8⟩
                    have HB8 := Lib.hid (HB7.out.trans (Ty.below_at (B := w.heap.size) hg8 HB7.out.size (Nat.le_refl _)))
                    have HA9 := Lib.hid (Ig.Own.at (Ig.Own.by HO8.out hg8 hbase))
                    clear hd hg8
                    go_wp2
                    go_ret2
                    exact Ig.Got.good HR.out HA9.out HB8.out
                  · have HR := Lib.hid (G5.out (by trivial) hl4)
                    have hf : Ty.fin l4 0 = 5 := by unfold Ty.fin; rw [if_pos ⟨rfl, hl4⟩]
                    rw [hf] at hd
                    simp only [Int.cast_ofNat_Int] at hd
                    clear hl4 hf
                    go_wp2_with fail
                    refine hd.mono ?_
                    rintro e w8 ⟨rfl, _, hg8⟩
                    have HB8 := Lib.hid (HB7.out.trans (Ty.below_at (B := w.heap.size) hg8 HB7.out.size (Nat.le_refl _)))
                    clear hd hg8
                    go_wp2
                    go_ret2
                    exact Ig.Got.bad HR.out rfl HB8.out
              · have hne : ((er : Int) != 0) = true := by rw [bne_iff_ne]; omega
                have hne2 : ((er : Int) == 0) = false := by rw [beq_eq_false_iff_ne]; omega
                have HB7 := Lib.hid (HB3.out.trans (Ty.below_at (B := w.heap.size) HG.out hs3 (Nat.le_refl _)))
                have HT : Hid ((rdBody 1 n l3).1 = er) := Lib.hid hE
                have HR := Lib.hid (G4.out (by rw [HT.out]; exact he0))
                rw [HT.out] at HR
                clear he0 hE hml
                by_cases hjl : j < n
                · have hji : (j : Int) < (n : Int) := by omega
                  go_wp2
                  go_ret2
                  exact Ig.Got.bad HR.out rfl HB7.out
                · have hji : ¬ (j : Int) < (n : Int) := by omega
                  go_wp2
                  go_ret2
                  exact Ig.Got.bad HR.out rfl HB7.out
      · have HR := Lib.hid (Ig.rd2 (r := r) h3 he)
        generalize (num r).2.2 = q at cu he HR
        have hne : ((q : Int) != 0) = true := by rw [bne_iff_ne]; omega
        clear he h3
        go_enter Tryd.func21, Tryd.ntmps21
        go_wp2_with fail
        have cb0 := cb _ HRS0.out
        clear cb
        refine cb0.mono ?_
        rintro e w2 ⟨rfl, hc2, hg2⟩
        have he2 := Ig.RS_err hc2
        simp only [Int.natCast_zero] at he2
        have HB2 := Lib.hid (HB1.out.trans (Ty.below_at (B := w.heap.size) hg2 HB1.out.size (Nat.le_refl _)))
        have hs2 := HB2.out.size
        have cu2 := cu _ hc2
        clear cb0 hc2 hg2 cu
        go_wp2_with fail
        refine cu2.mono ?_
        rintro e w3 ⟨rfl, hc3, hg3⟩
        have he3 := Ig.RS_err hc3
        have HB3 := Lib.hid (HB2.out.trans (Ty.below_at (B := w.heap.size) hg3 hs2 (Nat.le_refl _)))
        have hs3 := HB3.out.size
        have HC3 := Lib.hid hc3
        clear cu2 hg3 he2 hc3
        go_wp2_with fail
        go_quiet (fail)
        go_wp2
        go_ret2
        exact Ig.Got.bad HR.out rfl (HB3.out.trans ((Bt.drewN_below _ _).mono HB3.out.size))
end Go.Proofs.YtkgmildbhelelaaDoor
