/-
  The document's answers for package texts: pick, Read.
  The document's answers for package column: values that a call owns; values read of bytes.
  The document's answers for package column: Write.
  The document's answers for block: deeds as bytes.
-/
import Derived.Test.YtfbjmehkipcmbaaGreatDoorVAO
import Derived.Test.YtfbjmehkipcmbaaGreatDoorVAM
import Derived.Test.YtfbjmehkipcmbaaGreatDoorVAL
import Derived.Test.YtfbjmehkipcmbaaGreatDoorVAJ
import Derived.Test.YtfbjmehkipcmbaaGreatDoorVAK
namespace Go.Proofs.YtfbjmehkipcmbaaGreatDoor
open Go.RowKit
open Ty (num txt)
open Ig (rest)
open Tx (rdWords rdPick rdBody rd)
theorem Tx.rpick_c (r : Nat) (s : ByteArray) (hs : s.size ≤ 140737488351232) (n : Nat) (hn : n ≤ 65536) (vd : Value) (d : List Tx.Str) (hdl : d.length ≤ 65536) (l : List UInt8) (w : World) (hd : Tx.At w.heap.size w vd d) (hdr : ∀ w' : World, w.grownBy w' (some r) → Tx.At w'.heap.size w' vd d) (h : Ty.RS r s w l 0) :
    Calls Tryz.prog 116 #[.pointer (some ⟨r, 0, none⟩), .int .i64 n, vd] w (Tx.RRd r s w (rdPick n d l)) := by
  cases l with
  | nil => exact Tx.rpick_nil r s hs n vd d w h
  | cons x t =>
    by_cases h64 : 64 < x.toNat
    · exact Tx.rpick_wide r s hs n vd d x t w h h64
    · by_cases hss : t.length < Bt.need (n * x.toNat)
      · exact Tx.rpick_short r s hs n hn vd d x t w h h64 hss
      · exact Tx.rpick_main r s hs n hn vd d hdl x t w hd hdr h h64 hss
def Tx.Got (w : World) (r : Nat × List Tx.Str) (e : Ending) (w' : World) : Prop :=
  ∃ v, e = .returned (.tuple #[v, .int .i64 ((r.1 : Nat) : Int)]) ∧ Tx.At w'.heap.size w' v r.2 ∧ Below w.heap.size w w'
theorem Tx.Got.bad {w w' : World} {r : Nat × List Tx.Str} {z : Int} {q : Nat} (hr : r = (q, [])) (hz : z = (q : Int)) (g : Below w.heap.size w w') : Tx.Got w r (.returned (.tuple #[.slice none 0 0, .int .i64 z])) w' :=
  ⟨_, by rw [hr, hz], by rw [hr]; exact Tx.At.nil _, g⟩
theorem Tx.Got.good {w w' : World} {r : Nat × List Tx.Str} {v : Value} {L : List Tx.Str} (hr : r = (0, L)) (h : Tx.At w'.heap.size w' v L) (g : Below w.heap.size w w') : Tx.Got w r (.returned (.tuple #[v, .int .i64 0])) w' :=
  ⟨v, by rw [hr]; rfl, by rw [hr]; exact h, g⟩
section
variable {x : UInt8} {r : List UInt8}
theorem Tx.rd1 (h : 1 < x.toNat) : rd (x :: r) = (4, []) := by unfold rd; simp only; rw [if_pos h]
theorem Tx.rd2 (h : ¬ 1 < x.toNat) (h2 : (num r).2.2 ≠ 0) : rd (x :: r) = ((num r).2.2, []) := by unfold rd; simp only; rw [if_neg h, if_pos h2]
theorem Tx.rd3 (h : ¬ 1 < x.toNat) (h2 : (num r).2.2 = 0) (h3 : 65536 < (num r).1) : rd (x :: r) = (3, []) := by unfold rd; simp only; rw [if_neg h, if_neg (by rw [h2]; simp), if_pos h3]
theorem Tx.rd4 (h : ¬ 1 < x.toNat) (h2 : (num r).2.2 = 0) (h3 : ¬ 65536 < (num r).1) (h4 : (rdBody x.toNat (num r).1 (rest r)).1 ≠ 0) : rd (x :: r) = ((rdBody x.toNat (num r).1 (rest r)).1, []) := by
  unfold rd; simp only; rw [if_neg h, if_neg (by rw [h2]; simp), if_neg h3, if_pos h4]
theorem Tx.rd5 (h : ¬ 1 < x.toNat) (h2 : (num r).2.2 = 0) (h3 : ¬ 65536 < (num r).1) (h4 : (rdBody x.toNat (num r).1 (rest r)).1 = 0) (h5 : (rdBody x.toNat (num r).1 (rest r)).2.2 ≠ []) : rd (x :: r) = (5, []) := by
  unfold rd; simp only; rw [if_neg h, if_neg (by rw [h2]; simp), if_neg h3, if_neg (by rw [h4]; simp), if_pos h5]
theorem Tx.rd6 (h : ¬ 1 < x.toNat) (h2 : (num r).2.2 = 0) (h3 : ¬ 65536 < (num r).1) (h4 : (rdBody x.toNat (num r).1 (rest r)).1 = 0) (h5 : (rdBody x.toNat (num r).1 (rest r)).2.2 = []) : rd (x :: r) = (0, (rdBody x.toNat (num r).1 (rest r)).2.1) := by
  unfold rd; simp only; rw [if_neg h, if_neg (by rw [h2]; simp), if_neg h3, if_neg (by rw [h4]; simp), if_neg (by rw [h5]; simp)]
end
section
variable {n : Nat} {l : List UInt8}
theorem Tx.rdBody0 : rdBody 0 n l = rdWords false n none l := rfl
theorem Tx.rdB1 (h : (num l).2.2 ≠ 0) : (rdBody 1 n l).1 = (num l).2.2 := by unfold rdBody; rw [if_neg (by decide), if_pos h]
theorem Tx.rdB2 (h : (num l).2.2 = 0) (h2 : 65536 < (num l).1) : (rdBody 1 n l).1 = 3 := by unfold rdBody; rw [if_neg (by decide), if_neg (by rw [h]; simp), if_pos h2]
theorem Tx.rdB3 (h : (num l).2.2 = 0) (h2 : ¬ 65536 < (num l).1) (h3 : (rdWords true (num l).1 none (rest l)).1 ≠ 0) : (rdBody 1 n l).1 = (rdWords true (num l).1 none (rest l)).1 := by unfold rdBody; rw [if_neg (by decide), if_neg (by rw [h]; simp), if_neg h2, if_pos h3]
theorem Tx.rdB4 (h : (num l).2.2 = 0) (h2 : ¬ 65536 < (num l).1) (h3 : (rdWords true (num l).1 none (rest l)).1 = 0) : rdBody 1 n l = rdPick n (rdWords true (num l).1 none (rest l)).2.1 (rdWords true (num l).1 none (rest l)).2.2 := by unfold rdBody; rw [if_neg (by decide), if_neg (by rw [h]; simp), if_neg h2, if_neg (by rw [h3]; simp)]
end
theorem Tx.rdWords_le {ord : Bool} {n : Nat} {l : List UInt8} (h : (rdWords ord n none l).1 = 0) : (rdWords ord n none l).2.1.length = n := (Tx.rdWords_only ord n none l h).2.1
set_option maxHeartbeats 4000000 in
set_option maxRecDepth 100000 in
theorem Tx.rread_c (s : ByteArray) (w : World) (hs : s.size ≤ 140737488351232) :
    Calls Tryz.prog 93 #[.string s] w (Tx.Got w (rd s.data.toList)) := by
  have HRS0 := Lib.hid (Tx.RS_new s w)
  have HB1 : Hid (Below w.heap.size w (w.alloc (.cells #[.string s, .int .i64 0, .int .i64 0] 68))) := Lib.hid ((Below.refl _ _).alloc (Nat.le_refl _) _)
  generalize s.data.toList = l at HRS0 ⊢
  cases l with
  | nil =>
    have HR : Hid (rd [] = (2, [])) := Lib.hid rfl
    have e1 : Ty.rdB [] 0 = (0, [], 2) := rfl
    have e2 : Ty.rdU [] 2 = (0, [], 2) := rfl
    have cb := fun wz (hc : Ty.RS w.heap.size s wz [] 0) => Ty.rbyte_m w.heap.size s hs [] 0 wz hc
    have cu := fun wz (hc : Ty.RS w.heap.size s wz [] 2) => Ty.ruint_m w.heap.size s hs [] 2 wz hc
    rw [e1] at cb
    rw [e2] at cu
    simp only [Int.natCast_zero] at cb cu
    clear e1 e2
    go_enter Tryz.func93, Tryz.ntmps93
    go_wp2_with fail
    have cb0 := cb _ HRS0.out
    clear cb
    refine cb0.mono ?_
    rintro e w2 ⟨rfl, hc2, hg2⟩
    have he2' := Tx.RS_err hc2
    simp only [Int.cast_ofNat_Int] at he2'
    have HB2 := Lib.hid (HB1.out.trans (Ty.below_at (B := w.heap.size) hg2 HB1.out.size (Nat.le_refl _)))
    have hs2 := HB2.out.size
    have cu2' := cu _ hc2
    clear cb0 hc2 hg2 cu
    go_wp2_with fail
    refine cu2'.mono ?_
    rintro e w3 ⟨rfl, hc3, hg3⟩
    have he3' := Tx.RS_err hc3
    simp only [Int.cast_ofNat_Int] at he3'
    have HB3 := Lib.hid (HB2.out.trans (Ty.below_at (B := w.heap.size) hg3 hs2 (Nat.le_refl _)))
    have hs3 := HB3.out.size
    have HC3 := Lib.hid hc3
    clear cu2' hg3 he2' hc3
    go_wp2_with fail
    go_quiet (fail)
    go_wp2
    go_ret2
    exact Tx.Got.bad HR.out rfl (HB3.out.trans ((Bt.drewN_below _ _).mono HB3.out.size))
  | cons x r =>
    have cb := fun wz (hc : Ty.RS w.heap.size s wz (x :: r) 0) => Tx.rbyte_x w.heap.size s hs x r wz hc
    by_cases h1 : 1 < x.toNat
    · have HR := Lib.hid (Tx.rd1 (r := r) h1)
      have h1i : (1 : Int) < (x.toNat : Int) := by omega
      clear h1
      go_enter Tryz.func93, Tryz.ntmps93
      go_wp2_with fail
      have cb0 := cb _ HRS0.out
      clear cb
      refine cb0.mono ?_
      rintro e w2 ⟨rfl, hc2, hg2⟩
      have he2' := Tx.RS_err hc2
      simp only [Int.natCast_zero] at he2'
      have HB2 := Lib.hid (HB1.out.trans (Ty.below_at (B := w.heap.size) hg2 HB1.out.size (Nat.le_refl _)))
      have hs2 := HB2.out.size
      go_wp2
      go_ret2
      exact Tx.Got.bad HR.out rfl HB2.out
    · have cu := fun wz (hc : Ty.RS w.heap.size s wz r 0) => Tx.ruint_x w.heap.size s hs r wz hc
      by_cases he : (num r).2.2 = 0
      · rw [he] at cu
        obtain ⟨K, hK⟩ : ∃ K, K = x.toNat := ⟨_, rfl⟩
        have G3 := Lib.hid (fun h3 => Tx.rd3 (r := r) h1 he h3)
        have G4 := Lib.hid (fun h3 h4 => Tx.rd4 (r := r) h1 he h3 h4)
        have G5 := Lib.hid (fun h3 h4 h5 => Tx.rd5 (r := r) h1 he h3 h4 h5)
        have G6 := Lib.hid (fun h3 h4 h5 => Tx.rd6 (r := r) h1 he h3 h4 h5)
        rw [← hK] at cb G4 G5 G6 h1
        obtain ⟨RR, hRR⟩ : ∃ RR, RR = rd (x :: r) := ⟨_, rfl⟩
        rw [← hRR] at G3 G4 G5 G6 ⊢
        generalize (num r).1 = n at cu G3 G4 G5 G6
        generalize rest r = l3 at cu G4 G5 G6
        clear he hK hRR
        rcases (by omega : K = 0 ∨ K = 1) with rfl | rfl
        · rw [Tx.rdBody0] at G4 G5 G6
          simp only [Int.natCast_zero] at cb
          go_enter Tryz.func93, Tryz.ntmps93
          go_wp2_with fail
          have cb0 := cb _ HRS0.out
          clear cb
          refine cb0.mono ?_
          rintro e w2 ⟨rfl, hc2, hg2⟩
          have he2' := Tx.RS_err hc2
          simp only [Int.natCast_zero] at he2'
          have HB2 := Lib.hid (HB1.out.trans (Ty.below_at (B := w.heap.size) hg2 HB1.out.size (Nat.le_refl _)))
          have hs2 := HB2.out.size
          have cu2' := cu _ hc2
          clear cb0 hc2 hg2 cu
          go_wp2_with fail
          refine cu2'.mono ?_
          rintro e w3 ⟨rfl, hc3, hg3⟩
          have he3' := Tx.RS_err hc3
          simp only [Int.natCast_zero] at he3'
          have HB3 := Lib.hid (HB2.out.trans (Ty.below_at (B := w.heap.size) hg3 hs2 (Nat.le_refl _)))
          have hs3 := HB3.out.size
          have HC3 := Lib.hid hc3
          clear cu2' hg3 he2' hc3
          by_cases hnl : 65536 < n
          · have hni : (65536 : Int) < (n : Int) := by omega
            have HR := Lib.hid (G3.out hnl)
            clear hnl
            go_wp2
            go_ret2
            exact Tx.Got.bad HR.out rfl HB3.out
          · have hni : ¬ (65536 : Int) < (n : Int) := by omega
            have cw := fun wz (hc : Ty.RS w.heap.size s wz l3 0) => Tx.rwords_c w.heap.size s hs l3 n false wz hc (by omega)
            have J4 := Lib.hid (G4.out hnl)
            have J5 := Lib.hid (G5.out hnl)
            have J6 := Lib.hid (G6.out hnl)
            generalize rdWords false n none l3 = T at cw J4 J5 J6
            obtain ⟨C, L, l4⟩ := T
            simp only at J4 J5 J6
            have cw3 := cw _ HC3.out
            clear cw G3 G4 G5 G6 hnl
            go_wp2_with fail
            refine cw3.mono ?_
            rintro e w7 ⟨v7, rfl, hO7, hc7, hg7⟩
            simp only at hO7 hc7
            have hbase : w.heap.size < w3.heap.size := Tx.RS_lt HC3.out
            have HB7 := Lib.hid (HB3.out.trans (Ty.below_at (B := w.heap.size) hg7 hs3 (Nat.le_refl _)))
            clear cw3 hg7
            by_cases hC : C = 0
            · subst hC
              simp only [if_true] at hO7
              have hc8 := hc7 rfl
              have K5 := Lib.hid (J5.out rfl)
              have K6 := Lib.hid (J6.out rfl)
              have HO7 := Lib.hid hO7
              simp only [Int.natCast_zero]
              clear hc7 hO7 J4 J5 J6
              have hd := Ty.rdone_m w.heap.size s hs l4 0 _ hc8
              clear hc8
              by_cases hl4 : l4 = []
              · have HR := Lib.hid (K6.out hl4)
                have hf : Ty.fin l4 0 = 0 := by rw [hl4]; rfl
                rw [hf] at hd
                simp only [Int.natCast_zero] at hd
                clear hl4 hf
                go_wp2_with fail
                refine hd.mono ?_
                rintro e w8 ⟨rfl, _, hg8⟩
                have HB8 := Lib.hid (HB7.out.trans (Ty.below_at (B := w.heap.size) hg8 HB7.out.size (Nat.le_refl _)))
                have HA9 := Lib.hid (Tx.Own.at (Tx.Own.by HO7.out hg8 hbase))
                clear hd hg8
                go_wp2
                go_ret2
                exact Tx.Got.good HR.out HA9.out HB8.out
              · have HR := Lib.hid (K5.out hl4)
                have hf : Ty.fin l4 0 = 5 := by unfold Ty.fin; rw [if_pos ⟨rfl, hl4⟩]
                rw [hf] at hd
                simp only [Int.cast_ofNat_Int] at hd
                clear hl4 hf
                go_wp2_with fail
                refine hd.mono ?_
                rintro e w8 ⟨rfl, _, hg8⟩
                have HB8 := Lib.hid (HB7.out.trans (Ty.below_at (B := w.heap.size) hg8 HB7.out.size (Nat.le_refl _)))
                clear hd hg8
                go_wp2
                go_ret2
                exact Tx.Got.bad HR.out rfl HB8.out
            · have HR := Lib.hid (J4.out hC)
              have hne : ((C : Int) != 0) = true := by rw [bne_iff_ne]; omega
              have hne2 : ((C : Int) == 0) = false := by rw [beq_eq_false_iff_ne]; omega
              clear hC hO7 hc7
              go_wp2
              go_ret2
              exact Tx.Got.bad HR.out rfl HB7.out
        · have cu2 := fun wz (hc : Ty.RS w.heap.size s wz l3 0) => Tx.ruint_x w.heap.size s hs l3 wz hc
          by_cases hnl : 65536 < n
          · have hni : (65536 : Int) < (n : Int) := by omega
            have HR := Lib.hid (G3.out hnl)
            generalize (num l3).1 = m at cu2
            generalize (num l3).2.2 = e2 at cu2
            generalize rest l3 = l5 at cu2
            clear hnl G3 G4 G5 G6
            go_enter Tryz.func93, Tryz.ntmps93
            go_wp2_with fail
            have cb0 := cb _ HRS0.out
            clear cb
            refine cb0.mono ?_
            rintro e w2 ⟨rfl, hc2, hg2⟩
            have he2' := Tx.RS_err hc2
            simp only [Int.natCast_zero] at he2'
            have HB2 := Lib.hid (HB1.out.trans (Ty.below_at (B := w.heap.size) hg2 HB1.out.size (Nat.le_refl _)))
            have hs2 := HB2.out.size
            have cu2' := cu _ hc2
            clear cb0 hc2 hg2 cu
            go_wp2_with fail
            refine cu2'.mono ?_
            rintro e w3 ⟨rfl, hc3, hg3⟩
            have he3' := Tx.RS_err hc3
            simp only [Int.natCast_zero] at he3'
            have HB3 := Lib.hid (HB2.out.trans (Ty.below_at (B := w.heap.size) hg3 hs2 (Nat.le_refl _)))
            have hs3 := HB3.out.size
            have HC3 := Lib.hid hc3
            clear cu2' hg3 he2' hc3
            have cu5 := cu2 _ HC3.out
            clear cu2
            go_wp2_with fail
            refine cu5.mono ?_
            rintro e w5 ⟨rfl, hc5, hg5⟩
            have he5' := Tx.RS_err hc5
            skip
            have HB5 := Lib.hid (HB3.out.trans (Ty.below_at (B := w.heap.size) hg5 hs3 (Nat.le_refl _)))
            have hs5 := HB5.out.size
            have HC5 := Lib.hid hc5
            clear cu5 hg5 he3' hc5
            go_wp2
            go_ret2
            exact Tx.Got.bad HR.out rfl HB5.out
          · have hni : ¬ (65536 : Int) < (n : Int) := by omega
            have J4 := Lib.hid (G4.out hnl)
            have J5 := Lib.hid (G5.out hnl)
            have J6 := Lib.hid (G6.out hnl)
            have hn6 : n ≤ 65536 := by omega
            clear G3 G4 G5 G6 hnl
            by_cases he2 : (num l3).2.2 = 0
            · rw [he2] at cu2
              by_cases hml : 65536 < (num l3).1
              · have hmi : (65536 : Int) < ((num l3).1 : Int) := by omega
                have HB0 := Lib.hid (Tx.rdB2 (n := n) he2 hml)
                have HR := Lib.hid (J4.out (by rw [HB0.out]; decide))
                rw [HB0.out] at HR
                generalize (num l3).1 = m at cu2 hmi
                generalize rest l3 = l5 at cu2
                clear he2 hml J4 J5 J6
                go_enter Tryz.func93, Tryz.ntmps93
                go_wp2_with fail
                have cb0 := cb _ HRS0.out
                clear cb
                refine cb0.mono ?_
                rintro e w2 ⟨rfl, hc2, hg2⟩
                have he2' := Tx.RS_err hc2
                simp only [Int.natCast_zero] at he2'
                have HB2 := Lib.hid (HB1.out.trans (Ty.below_at (B := w.heap.size) hg2 HB1.out.size (Nat.le_refl _)))
                have hs2 := HB2.out.size
                have cu2' := cu _ hc2
                clear cb0 hc2 hg2 cu
                go_wp2_with fail
                refine cu2'.mono ?_
                rintro e w3 ⟨rfl, hc3, hg3⟩
                have he3' := Tx.RS_err hc3
                simp only [Int.natCast_zero] at he3'
                have HB3 := Lib.hid (HB2.out.trans (Ty.below_at (B := w.heap.size) hg3 hs2 (Nat.le_refl _)))
                have hs3 := HB3.out.size
                have HC3 := Lib.hid hc3
                clear cu2' hg3 he2' hc3
                have cu5 := cu2 _ HC3.out
                clear cu2
                go_wp2_with fail
                refine cu5.mono ?_
                rintro e w5 ⟨rfl, hc5, hg5⟩
                have he5' := Tx.RS_err hc5
                simp only [Int.natCast_zero] at he5'
                have HB5 := Lib.hid (HB3.out.trans (Ty.below_at (B := w.heap.size) hg5 hs3 (Nat.le_refl _)))
                have hs5 := HB5.out.size
                have HC5 := Lib.hid hc5
                clear cu5 hg5 he3' hc5
                go_wp2
                go_ret2
                exact Tx.Got.bad HR.out rfl HB5.out
              · have hmi : ¬ (65536 : Int) < ((num l3).1 : Int) := by omega
                have B3 := Lib.hid (fun h3 => Tx.rdB3 (n := n) he2 hml h3)
                have B4 := Lib.hid (fun h3 => Tx.rdB4 (n := n) he2 hml h3)
                have cw := fun wz (hc : Ty.RS w.heap.size s wz (rest l3) 0) => Tx.rwords_c w.heap.size s hs (rest l3) (num l3).1 true wz hc (by omega)
                have HLE := Lib.hid (fun h3 => Tx.rdWords_le (ord := true) (n := (num l3).1) (l := rest l3) h3)
                have HM : Hid ((num l3).1 ≤ 65536) := Lib.hid (by omega)
                generalize (num l3).1 = m at cu2 hmi B3 B4 cw HLE HM
                generalize rest l3 = l5 at cu2 B3 B4 cw HLE
                generalize rdWords true m none l5 = T at cw B3 B4 HLE
                obtain ⟨C, d, l6⟩ := T
                simp only at B3 B4 HLE
                clear he2 hml
                go_enter Tryz.func93, Tryz.ntmps93
                go_wp2_with fail
                have cb0 := cb _ HRS0.out
                clear cb
                refine cb0.mono ?_
                rintro e w2 ⟨rfl, hc2, hg2⟩
                have he2' := Tx.RS_err hc2
                simp only [Int.natCast_zero] at he2'
                have HB2 := Lib.hid (HB1.out.trans (Ty.below_at (B := w.heap.size) hg2 HB1.out.size (Nat.le_refl _)))
                have hs2 := HB2.out.size
                have cu2' := cu _ hc2
                clear cb0 hc2 hg2 cu
                go_wp2_with fail
                refine cu2'.mono ?_
                rintro e w3 ⟨rfl, hc3, hg3⟩
                have he3' := Tx.RS_err hc3
                simp only [Int.natCast_zero] at he3'
                have HB3 := Lib.hid (HB2.out.trans (Ty.below_at (B := w.heap.size) hg3 hs2 (Nat.le_refl _)))
                have hs3 := HB3.out.size
                have HC3 := Lib.hid hc3
                clear cu2' hg3 he2' hc3
                have cu5 := cu2 _ HC3.out
                clear cu2
                go_wp2_with fail
                refine cu5.mono ?_
                rintro e w5 ⟨rfl, hc5, hg5⟩
                have he5' := Tx.RS_err hc5
                simp only [Int.natCast_zero] at he5'
                have HB5 := Lib.hid (HB3.out.trans (Ty.below_at (B := w.heap.size) hg5 hs3 (Nat.le_refl _)))
                have hs5 := HB5.out.size
                have HC5 := Lib.hid hc5
                clear cu5 hg5 he3' hc5
                have cw5 := cw _ HC5.out
                clear cw
                go_wp2_with fail
                refine cw5.mono ?_
                rintro e w7 ⟨v7, rfl, hO7, hc7, hg7⟩
                simp only at hO7 hc7
                have hbase : w.heap.size < w5.heap.size := Tx.RS_lt HC5.out
                have HB7 := Lib.hid (HB5.out.trans (Ty.below_at (B := w.heap.size) hg7 hs5 (Nat.le_refl _)))
                have hs7 := HB7.out.size
                clear cw5 hg7
                by_cases hC : C = 0
                · subst hC
                  simp only [if_true] at hO7
                  have HC8 := Lib.hid (hc7 rfl)
                  have HT := Lib.hid (B4.out rfl)
                  have hdl : d.length ≤ 65536 := by rw [HLE.out rfl]; exact HM.out
                  have cp := Tx.rpick_c w.heap.size s hs n hn6 v7 d hdl l6 w7 hO7.at (fun w' hg => (hO7.by hg hbase).at) HC8.out
                  rw [HT.out] at J4 J5 J6
                  generalize rdPick n d l6 = T2 at cp J4 J5 J6
                  obtain ⟨C, L, l4⟩ := T2
                  simp only at J4 J5 J6
                  simp only [Int.natCast_zero]
                  clear hc7 hO7 B3 B4 HT HLE
                  go_wp2_with fail
                  refine cp.mono ?_
                  rintro e w9 ⟨v9, rfl, hO9, hc9, hg9⟩
                  simp only at hO9 hc9
                  have hbase9 : w.heap.size < w7.heap.size := Tx.RS_lt HC8.out
                  have HB9 := Lib.hid (HB7.out.trans (Ty.below_at (B := w.heap.size) hg9 hs7 (Nat.le_refl _)))
                  clear cp hg9
                  by_cases hC : C = 0
                  · subst hC
                    simp only [if_true] at hO9
                    have hc8 := hc9 rfl
                    have K5 := Lib.hid (J5.out rfl)
                    have K6 := Lib.hid (J6.out rfl)
                    have HO7 := Lib.hid hO9
                    have HB7 := HB9
                    have hbase := hbase9
                    simp only [Int.natCast_zero]
                    clear hc9 hO9 J4 J5 J6 HB9 hbase9
                    have hd := Ty.rdone_m w.heap.size s hs l4 0 _ hc8
                    clear hc8
                    by_cases hl4 : l4 = []
                    · have HR := Lib.hid (K6.out hl4)
                      have hf : Ty.fin l4 0 = 0 := by rw [hl4]; rfl
                      rw [hf] at hd
                      simp only [Int.natCast_zero] at hd
                      clear hl4 hf
                      go_wp2_with fail
                      refine hd.mono ?_
                      rintro e w8 ⟨rfl, _, hg8⟩
                      have HB8 := Lib.hid (HB7.out.trans (Ty.below_at (B := w.heap.size) hg8 HB7.out.size (Nat.le_refl _)))
                      have HA9 := Lib.hid (Tx.Own.at (Tx.Own.by HO7.out hg8 hbase))
                      clear hd hg8
                      go_wp2
                      go_ret2
                      exact Tx.Got.good HR.out HA9.out HB8.out
                    · have HR := Lib.hid (K5.out hl4)
                      have hf : Ty.fin l4 0 = 5 := by unfold Ty.fin; rw [if_pos ⟨rfl, hl4⟩]
                      rw [hf] at hd
                      simp only [Int.cast_ofNat_Int] at hd
                      clear hl4 hf
                      go_wp2_with fail
                      refine hd.mono ?_
                      rintro e w8 ⟨rfl, _, hg8⟩
                      have HB8 := Lib.hid (HB7.out.trans (Ty.below_at (B := w.heap.size) hg8 HB7.out.size (Nat.le_refl _)))
                      clear hd hg8
                      go_wp2
                      go_ret2
                      exact Tx.Got.bad HR.out rfl HB8.out
                  · have HR := Lib.hid (J4.out hC)
                    have hne : ((C : Int) != 0) = true := by rw [bne_iff_ne]; omega
                    have hne2 : ((C : Int) == 0) = false := by rw [beq_eq_false_iff_ne]; omega
                    clear hC hO9 hc9
                    go_wp2
                    go_ret2
                    exact Tx.Got.bad HR.out rfl HB9.out
                · have HB0 := Lib.hid (B3.out hC)
                  have HR := Lib.hid (J4.out (by rw [HB0.out]; exact hC))
                  rw [HB0.out] at HR
                  have hne : ((C : Int) != 0) = true := by rw [bne_iff_ne]; omega
                  have hne2 : ((C : Int) == 0) = false := by rw [beq_eq_false_iff_ne]; omega
                  clear hC hO7 hc7
                  go_wp2
                  go_ret2
                  exact Tx.Got.bad HR.out rfl HB7.out
            · have HB0 := Lib.hid (Tx.rdB1 (n := n) he2)
              have HR := Lib.hid (J4.out (by rw [HB0.out]; exact he2))
              rw [HB0.out] at HR
              have hz := (Ty.num_err l3 he2).1
              rw [hz] at cu2
              generalize (num l3).2.2 = q at cu2 he2 HR
              generalize rest l3 = l5 at cu2
              have hne : ((q : Int) != 0) = true := by rw [bne_iff_ne]; omega
              simp only [Int.natCast_zero] at cu2
              clear he2 J4 J5 J6 hz HB0
              go_enter Tryz.func93, Tryz.ntmps93
              go_wp2_with fail
              have cb0 := cb _ HRS0.out
              clear cb
              refine cb0.mono ?_
              rintro e w2 ⟨rfl, hc2, hg2⟩
              have he2' := Tx.RS_err hc2
              simp only [Int.natCast_zero] at he2'
              have HB2 := Lib.hid (HB1.out.trans (Ty.below_at (B := w.heap.size) hg2 HB1.out.size (Nat.le_refl _)))
              have hs2 := HB2.out.size
              have cu2' := cu _ hc2
              clear cb0 hc2 hg2 cu
              go_wp2_with fail
              refine cu2'.mono ?_
              rintro e w3 ⟨rfl, hc3, hg3⟩
              have he3' := Tx.RS_err hc3
              simp only [Int.natCast_zero] at he3'
              have HB3 := Lib.hid (HB2.out.trans (Ty.below_at (B := w.heap.size) hg3 hs2 (Nat.le_refl _)))
              have hs3 := HB3.out.size
              have HC3 := Lib.hid hc3
              clear cu2' hg3 he2' hc3
              have cu5 := cu2 _ HC3.out
              clear cu2
              go_wp2_with fail
              refine cu5.mono ?_
              rintro e w5 ⟨rfl, hc5, hg5⟩
              have he5' := Tx.RS_err hc5
              skip
              have HB5 := Lib.hid (HB3.out.trans (Ty.below_at (B := w.heap.size) hg5 hs3 (Nat.le_refl _)))
              have hs5 := HB5.out.size
              have HC5 := Lib.hid hc5
              clear cu5 hg5 he3' hc5
              go_wp2_with fail
              go_quiet (fail)
              go_wp2
              go_ret2
              exact Tx.Got.bad HR.out rfl (HB5.out.trans ((Bt.drewN_below _ _).mono HB5.out.size))
      · have HR := Lib.hid (Tx.rd2 (r := r) h1 he)
        rw [HR.out]
        have hz := (Ty.num_err r he).1
        rw [hz] at cu
        obtain ⟨K, hK⟩ : ∃ K, K = x.toNat := ⟨_, rfl⟩
        rw [← hK] at cb h1
        have cu2 := fun wz l5 (hc : Ty.RS w.heap.size s wz l5 (num r).2.2) => Ty.ruint_m w.heap.size s hs l5 (num r).2.2 wz hc
        have e2 : ∀ l5, Ty.rdU l5 (num r).2.2 = (0, l5, (num r).2.2) := fun l5 => by unfold Ty.rdU; rw [if_pos he]
        simp only [e2] at cu2
        generalize (num r).2.2 = q at cu cu2 he ⊢
        generalize rest r = l3 at cu
        have hne : ((q : Int) != 0) = true := by rw [bne_iff_ne]; omega
        simp only [Int.natCast_zero] at cu cu2
        clear he hz HR e2 hK
        rcases (by omega : K = 0 ∨ K = 1) with rfl | rfl
        · simp only [Int.natCast_zero] at cb
          clear cu2
          go_enter Tryz.func93, Tryz.ntmps93
          go_wp2_with fail
          have cb0 := cb _ HRS0.out
          clear cb
          refine cb0.mono ?_
          rintro e w2 ⟨rfl, hc2, hg2⟩
          have he2' := Tx.RS_err hc2
          simp only [Int.natCast_zero] at he2'
          have HB2 := Lib.hid (HB1.out.trans (Ty.below_at (B := w.heap.size) hg2 HB1.out.size (Nat.le_refl _)))
          have hs2 := HB2.out.size
          have cu2' := cu _ hc2
          clear cb0 hc2 hg2 cu
          go_wp2_with fail
          refine cu2'.mono ?_
          rintro e w3 ⟨rfl, hc3, hg3⟩
          have he3' := Tx.RS_err hc3
          skip
          have HB3 := Lib.hid (HB2.out.trans (Ty.below_at (B := w.heap.size) hg3 hs2 (Nat.le_refl _)))
          have hs3 := HB3.out.size
          have HC3 := Lib.hid hc3
          clear cu2' hg3 he2' hc3
          go_wp2_with fail
          go_quiet (fail)
          go_wp2
          go_ret2
          exact Tx.Got.bad rfl rfl (HB3.out.trans ((Bt.drewN_below _ _).mono HB3.out.size))
        · simp only [Int.cast_ofNat_Int] at cb
          go_enter Tryz.func93, Tryz.ntmps93
          go_wp2_with fail
          have cb0 := cb _ HRS0.out
          clear cb
          refine cb0.mono ?_
          rintro e w2 ⟨rfl, hc2, hg2⟩
          have he2' := Tx.RS_err hc2
          simp only [Int.natCast_zero] at he2'
          have HB2 := Lib.hid (HB1.out.trans (Ty.below_at (B := w.heap.size) hg2 HB1.out.size (Nat.le_refl _)))
          have hs2 := HB2.out.size
          have cu2' := cu _ hc2
          clear cb0 hc2 hg2 cu
          go_wp2_with fail
          refine cu2'.mono ?_
          rintro e w3 ⟨rfl, hc3, hg3⟩
          have he3' := Tx.RS_err hc3
          skip
          have HB3 := Lib.hid (HB2.out.trans (Ty.below_at (B := w.heap.size) hg3 hs2 (Nat.le_refl _)))
          have hs3 := HB3.out.size
          have HC3 := Lib.hid hc3
          clear cu2' hg3 he2' hc3
          have cu5 := cu2 _ _ HC3.out
          clear cu2
          go_wp2_with fail
          refine cu5.mono ?_
          rintro e w5 ⟨rfl, hc5, hg5⟩
          have he5' := Tx.RS_err hc5
          skip
          have HB5 := Lib.hid (HB3.out.trans (Ty.below_at (B := w.heap.size) hg5 hs3 (Nat.le_refl _)))
          have hs5 := HB5.out.size
          have HC5 := Lib.hid hc5
          clear cu5 hg5 he3' hc5
          go_wp2_with fail
          go_quiet (fail)
          go_wp2
          go_ret2
          exact Tx.Got.bad rfl rfl (HB5.out.trans ((Bt.drewN_below _ _).mono HB5.out.size))
end Go.Proofs.YtfbjmehkipcmbaaGreatDoor

namespace Go.Proofs.YtfbjmehkipcmbaaGreatDoor
open Go.RowKit
theorem Cl.ird_bad {l : List UInt8} (h : (Ig.rd l).1 ≠ 0) : (Ig.rd l).2 = [] := by
  unfold Ig.rd at h ⊢
  cases l with
  | nil => rfl
  | cons b r =>
    simp only at h ⊢
    split
    · rfl
    · split
      · rfl
      · split
        · rfl
        · split
          · rfl
          · split
            · rfl
            · rename_i a1 a2 a3 a4 a5
              rw [if_neg a1, if_neg a2, if_neg a3, if_neg a4, if_neg a5] at h
              exact absurd rfl h
theorem Cl.trd_bad {l : List UInt8} (h : (Tx.rd l).1 ≠ 0) : (Tx.rd l).2 = [] := by
  unfold Tx.rd at h ⊢
  cases l with
  | nil => rfl
  | cons b r =>
    simp only at h ⊢
    split
    · rfl
    · split
      · rfl
      · split
        · rfl
        · split
          · rfl
          · split
            · rfl
            · rename_i a1 a2 a3 a4 a5
              rw [if_neg a1, if_neg a2, if_neg a3, if_neg a4, if_neg a5] at h
              exact absurd rfl h
theorem Cl.ird_len (l : List UInt8) : (Ig.rd l).2.length ≤ 65536 := by
  by_cases h : (Ig.rd l).1 = 0
  · obtain ⟨b, r, _, _, _, h, _⟩ := Ig.enc_rd l h
    exact h
  · rw [Cl.ird_bad h]; simp
theorem Cl.trd_len (l : List UInt8) : (Tx.rd l).2.length ≤ 65536 := by
  by_cases h : (Tx.rd l).1 = 0
  · obtain ⟨b, r, _, _, _, h, _⟩ := Tx.enc_rd l h
    exact h
  · rw [Cl.trd_bad h]; simp
theorem Cl.back_len (c : Kn.C) (l : List UInt8) : (Cl.back c l).2.length ≤ 65536 := by
  unfold Cl.back
  split
  · rw [List.length_map]; exact Cl.ird_len l
  · rw [List.length_map]; exact Cl.trd_len l
set_option maxHeartbeats 2000000 in
set_option maxRecDepth 100000 in
theorem Cl.rback_c (c : Kn.C) (s : ByteArray) (w : World) (hs : s.size ≤ 140737488351232) :
    Calls Tryz.prog 71 #[c.val, .string s] w fun e w' => ∃ v, e = .returned (.tuple #[v, .int .i64 (((Cl.back c s.data.toList).1 : Nat) : Int)]) ∧ Cl.Own w.heap.size w' v (Cl.back c s.data.toList).2 ∧ Below w.heap.size w w' := by
  have hk : (((c.k == 1) = true) ∧ Cl.back c s.data.toList = ((Ig.rd s.data.toList).1, (Ig.rd s.data.toList).2.map Cl.ofN)) ∨ ((c.k == 1) = false ∧ Cl.back c s.data.toList = ((Tx.rd s.data.toList).1, (Tx.rd s.data.toList).2.map Cl.ofS)) := by
    unfold Cl.back
    by_cases h : c.k = 1
    · left; exact ⟨by rw [h]; rfl, by rw [if_pos h]⟩
    · right; exact ⟨by rw [beq_eq_false_iff_ne]; exact h, by rw [if_neg h]⟩
  have ci := fun wz => Ig.rread_c s wz hs
  have ct := fun wz => Tx.rread_c s wz hs
  have hli := Cl.ird_len s.data.toList
  have hlt := Cl.trd_len s.data.toList
  generalize Cl.back c s.data.toList = r at hk ⊢
  generalize Ig.rd s.data.toList = ri at hk ci hli
  generalize Tx.rd s.data.toList = rt at hk ct hlt
  clear hs
  obtain ⟨ck, cn⟩ := c
  unfold Kn.C.val
  simp only at hk ⊢
  have hsz : (w.alloc (.cells #[.int .i64 ck, .bool cn] 40)).heap.size = w.heap.size + 1 := World.size_alloc ..
  have HB0 : Hid (Below w.heap.size w (w.alloc (.cells #[.int .i64 ck, .bool cn] 40))) := Lib.hid ((Below.refl _ _).alloc (Nat.le_refl _) _)
  rcases hk with ⟨hk, rfl⟩ | ⟨hk, rfl⟩
  · obtain ⟨E, L⟩ := ri
    simp only at ci hli ⊢
    clear ct hlt
    go_enter Tryz.func71, Tryz.ntmps71
    go_wp2_with fail
    refine (ci _).mono ?_
    rintro e w1 ⟨v, rfl, ⟨a, cp, rfl, hcp, _, h⟩, g1⟩
    have hs1 := g1.size
    rw [hsz] at hs1
    have HB1 := Lib.hid (HB0.out.trans (g1.mono (by rw [hsz]; omega)))
    have HH := Lib.hid h
    clear ci h g1
    go_wp2_with fail
    go_loopw [6, 9] (fun ov i wr => ∃ k : Nat, k ≤ L.length ∧ i = .int .i64 k ∧ Cl.Own w1.heap.size wr ov ((L.take k).map Cl.ofN) ∧ Below w1.heap.size w1 wr) (fun _ i _ => L.length - (intOf i).toNat)
    case atStart => exact ⟨0, by omega, rfl, Cl.Own.nil _ _, Below.refl _ _⟩
    case round =>
      obtain ⟨k, hkl, rfl, hO, hb⟩ := hrel
      have HB := Lib.hid hb
      have HO := Lib.hid hO
      have hws := hb.size
      clear hO hb
      by_cases hlk : k < L.length
      · rcases HH.out with h | ⟨b, o, rfl, hbl, h⟩
        · exact absurd hlk (by rw [h]; simp)
        · have hc := (HB.out.cell (p := ⟨b, o + k, none⟩) hbl).trans (h k hlk)
          have dk : (k : Int) < (L.length : Int) := by omega
          have dk0 : (0 : Int) ≤ (k : Int) := by omega
          have HT : Hid ((L.take (k + 1)).map Cl.ofN = (L.take k).map Cl.ofN ++ [Cl.ofN (Ig.nth L k)]) := Lib.hid (by
            rw [List.take_succ_eq_append_getElem hlk, List.map_append]
            congr 2
            unfold Ig.nth
            rw [List.getD, List.getElem?_eq_getElem hlk]
            rfl)
          have hml : ((L.take k).map Cl.ofN).length ≤ k := by rw [List.length_map]; exact List.length_take_le _ _
          have hO := HO.out
          clear h
          go_wp2_with (at_builtin; refine Cl.wpList_append_val (Cl.ofN (Ig.nth L k)) hO (by omega) (by omega) (.tmp 27) (.tmp 33) _ rfl rfl rfl rfl rfl ?_; intro v5 w5 h5 g5)
          have H5 := Lib.hid h5
          have HB5 := Lib.hid (Cl.own_below HB.out hO g5)
          clear h5 g5 hO
          go_roundw
          case rel => exact ⟨k + 1, by omega, by simp, by rw [HT.out]; exact H5.out, HB5.out⟩
          case measure => simp [intOf]; omega
      · obtain rfl : k = L.length := by omega
        have dk : ¬ (L.length : Int) < (L.length : Int) := by omega
        have hO := HO.out
        rw [List.take_length] at hO
        have HO2 := Lib.hid (World.ownsRow.mono hO (show w.heap.size ≤ w1.heap.size by omega))
        have HG := Lib.hid (HB1.out.trans (HB.out.mono (by omega)))
        clear hO
        go_wp2
        go_ret2
        exact ⟨_, rfl, HO2.out, HG.out⟩
  · obtain ⟨E, L⟩ := rt
    simp only at ct hlt ⊢
    clear ci hli
    go_enter Tryz.func71, Tryz.ntmps71
    go_wp2_with fail
    refine (ct _).mono ?_
    rintro e w1 ⟨v, rfl, ⟨a, cp, rfl, hcp, _, h⟩, g1⟩
    have hs1 := g1.size
    rw [hsz] at hs1
    have HB1 := Lib.hid (HB0.out.trans (g1.mono (by rw [hsz]; omega)))
    have HH := Lib.hid h
    clear ct h g1
    go_wp2_with fail
    go_loopw [6, 12] (fun ov i wr => ∃ k : Nat, k ≤ L.length ∧ i = .int .i64 k ∧ Cl.Own w1.heap.size wr ov ((L.take k).map Cl.ofS) ∧ Below w1.heap.size w1 wr) (fun _ i _ => L.length - (intOf i).toNat)
    case atStart => exact ⟨0, by omega, rfl, Cl.Own.nil _ _, Below.refl _ _⟩
    case round =>
      obtain ⟨k, hkl, rfl, hO, hb⟩ := hrel
      have HB := Lib.hid hb
      have HO := Lib.hid hO
      have hws := hb.size
      clear hO hb
      by_cases hlk : k < L.length
      · rcases HH.out with h | ⟨b, o, rfl, hbl, h⟩
        · exact absurd hlk (by rw [h.1]; simp)
        · have hc := (HB.out.cell (p := ⟨b, o + k, none⟩) hbl).trans (h k hlk)
          unfold Tx.sv at hc
          obtain ⟨t, ht⟩ : ∃ t, t = L.getD k [] := ⟨_, rfl⟩
          rw [← ht] at hc
          have dk : (k : Int) < (L.length : Int) := by omega
          have dk0 : (0 : Int) ≤ (k : Int) := by omega
          have HT : Hid ((L.take (k + 1)).map Cl.ofS = (L.take k).map Cl.ofS ++ [Cl.ofS t]) := Lib.hid (by
            rw [ht, List.take_succ_eq_append_getElem hlk, List.map_append]
            congr 2
            rw [List.getD, List.getElem?_eq_getElem hlk]
            rfl)
          have hml : ((L.take k).map Cl.ofS).length ≤ k := by rw [List.length_map]; exact List.length_take_le _ _
          have hO := HO.out
          clear h ht
          go_wp2_with (at_builtin; refine Cl.wpList_append_val (Cl.ofS t) hO (by omega) (by omega) (.tmp 48) (.tmp 54) _ rfl rfl rfl rfl rfl ?_; intro v5 w5 h5 g5)
          have H5 := Lib.hid h5
          have HB5 := Lib.hid (Cl.own_below HB.out hO g5)
          clear h5 g5 hO
          go_roundw
          case rel => exact ⟨k + 1, by omega, by simp, by rw [HT.out]; exact H5.out, HB5.out⟩
          case measure => simp [intOf]; omega
      · obtain rfl : k = L.length := by omega
        have dk : ¬ (L.length : Int) < (L.length : Int) := by omega
        have hO := HO.out
        rw [List.take_length] at hO
        have HO2 := Lib.hid (World.ownsRow.mono hO (show w.heap.size ≤ w1.heap.size by omega))
        have HG := Lib.hid (HB1.out.trans (HB.out.mono (by omega)))
        clear hO
        go_wp2
        go_ret2
        exact ⟨_, rfl, HO2.out, HG.out⟩
end Go.Proofs.YtfbjmehkipcmbaaGreatDoor

namespace Go.Proofs.YtfbjmehkipcmbaaGreatDoor
open Go.RowKit
theorem Cl.vals_len {c : Kn.C} {l : List Kn.V} (h : l.all (Cl.is c) = true) (hl : l.length ≤ 65536) : (Cl.vals c l).length ≤ 4800000 := by
  unfold Cl.vals
  by_cases hk : c.k = 1
  · rw [if_pos hk]
    have h1 := Ig.bk_least (Cl.nums l) 3 0 (by omega)
    have h2 := Ig.len_flat (Cl.nums l)
    have h3 := Ty.encU_len9 (Cl.nums l).length
    have h4 := Cl.nums_len l
    have e : (Ig.enc 0 (Cl.nums l)).length = 1 + ((Ty.encU (Cl.nums l).length).length + ((Cl.nums l).flatMap Ig.encI).length) := by
      unfold Ig.enc Ig.body
      rw [if_pos rfl, List.length_cons, List.length_append]
      omega
    omega
  · rw [if_neg hk]
    have hf := Tx.fit_yes (Cl.words_fit hk h hl)
    have h2 := Tx.len_flat (Cl.words l) hf.2
    have h3 := Ty.encU_len9 (Cl.words l).length
    have h4 := hf.1
    have e : (Tx.enc 0 (Cl.words l)).length = 1 + ((Ty.encU (Cl.words l).length).length + ((Cl.words l).flatMap Tx.encT).length) := by
      unfold Tx.enc Tx.body
      rw [if_pos rfl, List.length_cons, List.length_append]
      omega
    unfold Tx.bestK
    split <;> omega
def Cl.wS (c : Kn.C) (l : List Kn.V) : List UInt8 := if Cl.wE c l = 0 then Cl.enc c l else []
def Cl.wV (c : Kn.C) (l : List Kn.V) : Value := .tuple #[.string (Ty.S (Cl.wS c l)), .int .i64 ((Cl.wE c l : Nat) : Int)]
theorem Cl.wV_bad {c : Kn.C} {l : List Kn.V} {q : Nat} (h : Cl.wE c l = q) (hq : q ≠ 0) : Cl.wV c l = .tuple #[.string (Ty.S []), .int .i64 (q : Int)] := by
  unfold Cl.wV Cl.wS
  rw [h, if_neg hq]
theorem Cl.wV_ok {c : Kn.C} {l : List Kn.V} (h : Cl.wE c l = 0) : Cl.wV c l = .tuple #[.string (Ty.S (Cl.enc c l)), .int .i64 0] := by
  unfold Cl.wV Cl.wS
  rw [h, if_pos rfl]
  rfl
theorem Cl.nulls_at {l : List Kn.V} {k : Nat} {x : Kn.V} (h : l[k]? = some x) : Cl.nulls l k = x.null := by
  unfold Cl.nulls
  rw [List.getD, h]
  rfl
theorem Cl.all_of {c : Kn.C} {l : List Kn.V} (h : ∀ (i : Nat) (x : Kn.V), l[i]? = some x → Cl.is c x = true) : l.all (Cl.is c) = true :=
  List.all_eq_true.2 fun x hx => by
    obtain ⟨i, hi⟩ := List.getElem?_of_mem hx
    exact h i x hi
end Go.Proofs.YtfbjmehkipcmbaaGreatDoor

namespace Go.Proofs.YtfbjmehkipcmbaaGreatDoor
open Go.RowKit
open Tx (encT)
def Bk.wS (s : List Kn.C) (L : List Dd.D) : List UInt8 := if Bk.wE s L = 0 then Bk.enc s L else []
def Bk.wV (s : List Kn.C) (L : List Dd.D) : Value := .tuple #[.string (Ty.S (Bk.wS s L)), .int .i64 (Bk.wE s L)]
theorem Bk.wV_bad {s : List Kn.C} {L : List Dd.D} {q : Int} (h : Bk.wE s L = q) (hq : q ≠ 0) : Bk.wV s L = .tuple #[.string (Ty.S []), .int .i64 q] := by
  unfold Bk.wV Bk.wS
  rw [h, if_neg hq]
theorem Bk.wV_ok {s : List Kn.C} {L : List Dd.D} (h : Bk.wE s L = 0) : Bk.wV s L = .tuple #[.string (Ty.S (Bk.enc s L)), .int .i64 0] := by
  unfold Bk.wV Bk.wS
  rw [h, if_pos rfl]
theorem Bk.encC_append : ∀ (a b : List Kn.C) (i : Nat) (L : List Dd.D), Bk.encC i (a ++ b) L = Bk.encC i a L ++ Bk.encC (i + a.length) b L
  | [], b, i, L => rfl
  | c :: a, b, i, L => by
    show encT (Cl.enc c (Bk.col L i)) ++ Bk.encC (i + 1) (a ++ b) L = (encT (Cl.enc c (Bk.col L i)) ++ Bk.encC (i + 1) a L) ++ Bk.encC (i + (a.length + 1)) b L
    rw [Bk.encC_append a b (i + 1) L, List.append_assoc, show i + 1 + a.length = i + (a.length + 1) by omega]
theorem Bk.encC_take {s : List Kn.C} {k : Nat} {c : Kn.C} (h : s[k]? = some c) (L : List Dd.D) : Bk.encC 0 (s.take (k + 1)) L = Bk.encC 0 (s.take k) L ++ encT (Cl.enc c (Bk.col L k)) := by
  obtain ⟨hk, rfl⟩ := List.getElem?_eq_some_iff.1 h
  rw [List.take_succ_eq_append_getElem hk, Bk.encC_append, List.length_take, Nat.min_eq_left (by omega), Nat.zero_add]
  congr 1
  unfold Bk.encC Bk.encC
  rw [List.append_nil]
theorem Bk.encC_len {s : List Kn.C} {L : List Dd.D} (h : ∀ j c, s[j]? = some c → (Cl.enc c (Bk.col L j)).length ≤ 1048576) : ∀ k, k ≤ s.length → (Bk.encC 0 (s.take k) L).length ≤ k * 1048585
  | 0, _ => by simp [Bk.encC]
  | k + 1, hk => by
    have hx := List.getElem?_eq_getElem (show k < s.length by omega)
    have ih := Bk.encC_len h k (by omega)
    have h1 := h k _ hx
    rw [Bk.encC_take hx, List.length_append]
    unfold encT
    rw [List.length_append]
    have := Ty.encU_len9 (Cl.enc s[k] (Bk.col L k)).length
    omega
end Go.Proofs.YtfbjmehkipcmbaaGreatDoor
