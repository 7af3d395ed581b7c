/-
  Contracts of package ints: Read.
-/
import Derived.Test.YtkgmildbhelelaaDoorI14
namespace Go.Proofs.YtkgmildbhelelaaDoor
open Go.RowKit
open Ig (nth sg rest rd rdBody rdInts)
open Ty (num)
/-- What Read leaves. -/
def Ig.Got (w : World) (r : Nat × List Int) (e : Ending) (w' : World) : Prop :=
  ∃ v, e = .returned (.tuple #[v, .int .i64 ((r.1 : Nat) : Int)]) ∧ Ig.At w'.heap.size w' v r.2 ∧ Below w.heap.size w w'
theorem Ig.at_nil (B : Nat) (w : World) (h : B ≤ w.heap.size) : Ig.At B w (.slice none 0 0) [] := ⟨_, 0, rfl, Nat.le_refl _, h, .inl rfl⟩
theorem Ig.Got.bad {w w' : World} {r : Nat × List Int} {z : Int} {q : Nat} (hr : r = (q, [])) (hz : z = (q : Int)) (g : Below w.heap.size w w') : Ig.Got w r (.returned (.tuple #[.slice none 0 0, .int .i64 z])) w' :=
  ⟨_, by rw [hr, hz], by rw [hr]; exact Ig.at_nil _ _ (Nat.le_refl _), g⟩
theorem Ig.Got.good {w w' : World} {r : Nat × List Int} {v : Value} {L : List Int} (hr : r = (0, L)) (h : Ig.At w'.heap.size w' v L) (g : Below w.heap.size w w') : Ig.Got w r (.returned (.tuple #[v, .int .i64 0])) w' :=
  ⟨v, by rw [hr]; rfl, by rw [hr]; exact h, g⟩
section
variable {x : UInt8} {r : List UInt8}
theorem Ig.rd1 (h : 3 < x.toNat) : rd (x :: r) = (4, []) := by unfold rd; simp only; rw [if_pos h]
theorem Ig.rd2 (h : ¬ 3 < x.toNat) (h2 : (num r).2.2 ≠ 0) : rd (x :: r) = ((num r).2.2, []) := by unfold rd; simp only; rw [if_neg h, if_pos h2]
theorem Ig.rd3 (h : ¬ 3 < x.toNat) (h2 : (num r).2.2 = 0) (h3 : 65536 < (num r).1) : rd (x :: r) = (3, []) := by unfold rd; simp only; rw [if_neg h, if_neg (by rw [h2]; simp), if_pos h3]
theorem Ig.rd4 (h : ¬ 3 < x.toNat) (h2 : (num r).2.2 = 0) (h3 : ¬ 65536 < (num r).1) (h4 : (rdBody x.toNat (num r).1 (rest r)).1 ≠ 0) : rd (x :: r) = ((rdBody x.toNat (num r).1 (rest r)).1, []) := by
  unfold rd; simp only; rw [if_neg h, if_neg (by rw [h2]; simp), if_neg h3, if_pos h4]
theorem Ig.rd5 (h : ¬ 3 < x.toNat) (h2 : (num r).2.2 = 0) (h3 : ¬ 65536 < (num r).1) (h4 : (rdBody x.toNat (num r).1 (rest r)).1 = 0) (h5 : (rdBody x.toNat (num r).1 (rest r)).2.2 ≠ []) : rd (x :: r) = (5, []) := by
  unfold rd; simp only; rw [if_neg h, if_neg (by rw [h2]; simp), if_neg h3, if_neg (by rw [h4]; simp), if_pos h5]
theorem Ig.rd6 (h : ¬ 3 < x.toNat) (h2 : (num r).2.2 = 0) (h3 : ¬ 65536 < (num r).1) (h4 : (rdBody x.toNat (num r).1 (rest r)).1 = 0) (h5 : (rdBody x.toNat (num r).1 (rest r)).2.2 = []) : rd (x :: r) = (0, (rdBody x.toNat (num r).1 (rest r)).2.1) := by
  unfold rd; simp only; rw [if_neg h, if_neg (by rw [h2]; simp), if_neg h3, if_neg (by rw [h4]; simp), if_neg (by rw [h5]; simp)]
end
theorem Ig.reader0 (b n : Nat) (l : List UInt8) (w : World) (hw : Ty.Tabs w) (hG : Ty.G ≤ b) (h : Ty.Cur b w l 0) (hl : l.length ≤ 140737488355328) (hn : n ≤ 65536) :
    Calls Tryd.prog 61 #[.pointer (some ⟨b, 0, none⟩), .int .i64 n] w (Ig.Rd b w (rdBody 0 n l)) := Ig.readPlain_c b n l w hw hG h hl hn
theorem Ig.reader1 (b n : Nat) (l : List UInt8) (w : World) (hw : Ty.Tabs w) (hG : Ty.G ≤ b) (h : Ty.Cur b w l 0) (hl : l.length ≤ 140737488355328) (hn : n ≤ 65536) :
    Calls Tryd.prog 63 #[.pointer (some ⟨b, 0, none⟩), .int .i64 n] w (Ig.Rd b w (rdBody 1 n l)) := Ig.readDelta_c b n l w hw hG h hl hn
theorem Ig.reader2 (b n : Nat) (l : List UInt8) (w : World) (hw : Ty.Tabs w) (hG : Ty.G ≤ b) (h : Ty.Cur b w l 0) (hl : l.length ≤ 140737488355328) (hn : n ≤ 65536) :
    Calls Tryd.prog 65 #[.pointer (some ⟨b, 0, none⟩), .int .i64 n] w (Ig.Rd b w (rdBody 2 n l)) := Ig.readRuns_c b n l w hw hG h hl hn
theorem Ig.reader3 (b n : Nat) (l : List UInt8) (w : World) (hw : Ty.Tabs w) (h : Ty.Cur b w l 0) (hl : l.length ≤ 140737488355328) (hn : n ≤ 65536) :
    Calls Tryd.prog 67 #[.pointer (some ⟨b, 0, none⟩), .int .i64 n] w (Ig.Rd b w (rdBody 3 n l)) := Ig.readPacked_c b n l w hw h hl hn
set_option maxHeartbeats 4000000 in
set_option maxRecDepth 100000 in
theorem Ig.read_c (s : ByteArray) (w : World) (hw : Ty.Tabs w) (hs : s.size ≤ 140737488355328) :
    Calls Tryd.prog 20 #[.string s] w (Ig.Got w (rd s.data.toList)) := by
  have hsl : s = Ty.S s.data.toList := rfl
  have hll : s.data.toList.length ≤ 140737488355328 := by rw [Ty.length_data]; exact hs
  rw [hsl, Ty.data_S]
  generalize s.data.toList = l at hll ⊢
  clear hsl hs
  have cf := Ty.from_f l w hw
  have hG := hw.two
  cases l with
  | nil =>
    have HR : Hid (rd [] = (2, [])) := Lib.hid rfl
    have e1 : Ty.rdB [] 0 = (0, [], 2) := rfl
    have e2 : Ty.rdU [] 2 = (0, [], 2) := rfl
    have cb := fun b wz (hc : Ty.Cur b wz [] 0) => Ty.cbyte_c b [] 0 wz hc (by simp)
    have cu := fun b wz (hT : Ty.Tabs wz) (hc : Ty.Cur b wz [] 2) => Ty.cuint_c b [] 2 wz hT hc (by simp)
    rw [e1] at cb
    rw [e2] at cu
    clear e1 e2 hll
    go_enter Tryd.func20, Tryd.ntmps20
    go_wp2_with fail
    refine cf.mono ?_
    rintro e w1 ⟨rfl, hc1, hT1, hg1⟩
    have hs1 := hg1.size
    have cb1 := cb _ _ hc1
    have HB1 := Lib.hid (Ty.below_none hg1 (Nat.le_refl _))
    clear cf cb hc1 hg1
    go_wp2_with fail
    refine cb1.mono ?_
    rintro e w2 ⟨rfl, hc2, hg2⟩
    have hT2 := hT1.at_ hg2 hG
    have hb2 := HB1.out.trans (Ty.below_at (B := w.heap.size) hg2 hs1 (Nat.le_refl _))
    have HC2 := Lib.hid hc2
    clear cb1 hc2 hg2 hT1
    go_wp2_with fail
    refine (Ig.coders_c _).mono ?_
    rintro e w3 ⟨rfl, hw3⟩
    have hb23 : Below w2.heap.size w2 w3 := by rw [hw3]; exact (Below.refl _ _).alloc (Nat.le_refl _) _
    clear hw3
    have hlt2 := HC2.out.lt
    have hb3 := hb2.trans (hb23.mono hb2.size)
    have hT3 := hT2.below hb23 (by omega)
    have hc3 := HC2.out.below hb23 hlt2
    have cu3 := cu _ _ hT3 hc3
    have HB3 := Lib.hid hb3
    have hs3 := hb3.size
    clear hb23 hb2 hb3 hT2 hT3 hc3 cu
    go_wp2_with fail
    refine cu3.mono ?_
    rintro e w4 ⟨rfl, hc4, hg4⟩
    have HC4 := Lib.hid hc4
    have HB4 := Lib.hid (HB3.out.trans (Ty.below_at (B := w.heap.size) hg4 hs3 (Nat.le_refl _)))
    clear cu3 hc4 hg4
    go_wp2_with fail
    refine (Ty.err_c _ _ 2 _ HC4.out).mono ?_
    rintro e w5 ⟨rfl, rfl⟩
    go_wp2_with fail
    refine (Ty.err_c _ _ 2 _ HC4.out).mono ?_
    rintro e w5 ⟨rfl, rfl⟩
    go_wp2
    go_ret2
    exact Ig.Got.bad HR.out rfl HB4.out
  | cons x r =>
    have hrl : r.length ≤ 140737488355328 := by rw [List.length_cons] at hll; omega
    have cb := fun b wz (hc : Ty.Cur b wz (x :: r) 0) => Pk.cbyte_m b x r wz hc (by omega)
    by_cases h3 : 3 < x.toNat
    · have HR := Lib.hid (Ig.rd1 (r := r) h3)
      have h3i : (4 : Int) ≤ (x.toNat : Int) := by omega
      clear h3
      go_enter Tryd.func20, Tryd.ntmps20
      go_wp2_with fail
      refine cf.mono ?_
      rintro e w1 ⟨rfl, hc1, hT1, hg1⟩
      have hs1 := hg1.size
      have cb1 := cb _ _ hc1
      have HB1 := Lib.hid (Ty.below_none hg1 (Nat.le_refl _))
      clear cf cb hc1 hg1
      go_wp2_with fail
      refine cb1.mono ?_
      rintro e w2 ⟨rfl, hc2, hg2⟩
      have hb2 := HB1.out.trans (Ty.below_at (B := w.heap.size) hg2 hs1 (Nat.le_refl _))
      clear cb1 hc2 hg2 hT1
      go_wp2_with fail
      refine (Ig.coders_c _).mono ?_
      rintro e w3 ⟨rfl, hw3⟩
      have HB3 : Hid (Below w.heap.size w w3) := Lib.hid (by rw [hw3]; exact hb2.alloc hb2.size _)
      clear hw3 hb2
      go_wp2
      go_ret2
      exact Ig.Got.bad HR.out rfl HB3.out
    · have h3i : (x.toNat : Int) < 4 := by omega
      have cu := fun b wz (hT : Ty.Tabs wz) (hc : Ty.Cur b wz r 0) => Ig.cuint_m b r wz hT hc (by omega)
      by_cases he : (num r).2.2 = 0
      · have hr3 := Ig.rest_le r
        have hl3 : (rest r).length ≤ 140737488355328 := by omega
        rw [he] at cu
        by_cases hnl : 65536 < (num r).1
        · have HR := Lib.hid (Ig.rd3 (r := r) h3 he hnl)
          generalize (num r).1 = n at cu hnl
          generalize rest r = l3 at cu hl3
          have hni : (65536 : Int) < (n : Int) := by omega
          clear he h3 hnl hr3
          go_enter Tryd.func20, Tryd.ntmps20
          go_wp2_with fail
          refine cf.mono ?_
          rintro e w1 ⟨rfl, hc1, hT1, hg1⟩
          have hs1 := hg1.size
          have cb1 := cb _ _ hc1
          have HB1 := Lib.hid (Ty.below_none hg1 (Nat.le_refl _))
          clear cf cb hc1 hg1
          go_wp2_with fail
          refine cb1.mono ?_
          rintro e w2 ⟨rfl, hc2, hg2⟩
          have hT2 := hT1.at_ hg2 hG
          have hb2 := HB1.out.trans (Ty.below_at (B := w.heap.size) hg2 hs1 (Nat.le_refl _))
          have HC2 := Lib.hid hc2
          clear cb1 hc2 hg2 hT1
          go_wp2_with fail
          refine (Ig.coders_c _).mono ?_
          rintro e w3 ⟨rfl, hw3⟩
          have hb23 : Below w2.heap.size w2 w3 := by rw [hw3]; exact (Below.refl _ _).alloc (Nat.le_refl _) _
          clear hw3
          have hlt2 := HC2.out.lt
          have hb3 := hb2.trans (hb23.mono hb2.size)
          have hT3 := hT2.below hb23 (by omega)
          have hc3 := HC2.out.below hb23 hlt2
          have cu3 := cu _ _ hT3 hc3
          have HB3 := Lib.hid hb3
          have hs3 := hb3.size
          clear hb23 hb2 hb3 hT2 hc3 cu
          go_wp2_with fail
          refine cu3.mono ?_
          rintro e w4 ⟨rfl, hc4, hg4⟩
          have HC4 := Lib.hid hc4
          have hT4 := hT3.at_ hg4 hG
          have HB4 := Lib.hid (HB3.out.trans (Ty.below_at (B := w.heap.size) hg4 hs3 (Nat.le_refl _)))
          clear cu3 hc4 hg4 hT3
          go_wp2_with fail
          refine (Ty.err_c _ _ 0 _ HC4.out).mono ?_
          rintro e w5 ⟨rfl, rfl⟩
          go_wp2
          go_ret2
          exact Ig.Got.bad HR.out rfl HB4.out
        · have hnl : (num r).1 ≤ 65536 := by omega
          obtain ⟨K, hK⟩ : ∃ K, K = x.toNat := ⟨_, rfl⟩
          have G4 := Lib.hid (fun h4 => Ig.rd4 (r := r) h3 he (by omega) h4)
          have G5 := Lib.hid (fun h4 h5 => Ig.rd5 (r := r) h3 he (by omega) h4 h5)
          have G6 := Lib.hid (fun h4 h5 => Ig.rd6 (r := r) h3 he (by omega) h4 h5)
          rw [← hK] at cb G4 G5 G6 h3i h3
          generalize (num r).1 = n at cu hnl G4 G5 G6
          generalize rest r = l3 at cu hl3 G4 G5 G6
          obtain ⟨t, ht⟩ : ∃ t, rdBody K n l3 = t := ⟨_, rfl⟩
          rw [ht] at G4 G5 G6
          have hni : ¬ (65536 : Int) < (n : Int) := by omega
          have hni2 : (n : Int) ≤ 65536 := by omega
          clear he hr3
          rcases (by omega : K = 0 ∨ K = 1 ∨ K = 2 ∨ K = 3) with hx | hx | hx | hx
          all_goals
            rw [hx] at cb ht
            first
              | (have cr := fun wz (h1 : Ty.Tabs wz) (h2 : Ty.Cur w.heap.size wz l3 0) => Ig.reader0 w.heap.size n l3 wz h1 hG h2 hl3 hnl; rw [ht] at cr)
              | (have cr := fun wz (h1 : Ty.Tabs wz) (h2 : Ty.Cur w.heap.size wz l3 0) => Ig.reader1 w.heap.size n l3 wz h1 hG h2 hl3 hnl; rw [ht] at cr)
              | (have cr := fun wz (h1 : Ty.Tabs wz) (h2 : Ty.Cur w.heap.size wz l3 0) => Ig.reader2 w.heap.size n l3 wz h1 hG h2 hl3 hnl; rw [ht] at cr)
              | (have cr := fun wz (h1 : Ty.Tabs wz) (h2 : Ty.Cur w.heap.size wz l3 0) => Ig.reader3 w.heap.size n l3 wz h1 h2 hl3 hnl; rw [ht] at cr)
            have CR := Lib.hid cr
            clear hx h3 h3i hK ht cr
            go_enter Tryd.func20, Tryd.ntmps20
            go_wp2_with fail
            refine cf.mono ?_
            rintro e w1 ⟨rfl, hc1, hT1, hg1⟩
            have hs1 := hg1.size
            have cb1 := cb _ _ hc1
            have HB1 := Lib.hid (Ty.below_none hg1 (Nat.le_refl _))
            clear cf cb hc1 hg1
            go_wp2_with fail
            refine cb1.mono ?_
            rintro e w2 ⟨rfl, hc2, hg2⟩
            have hT2 := hT1.at_ hg2 hG
            have hb2 := HB1.out.trans (Ty.below_at (B := w.heap.size) hg2 hs1 (Nat.le_refl _))
            have HC2 := Lib.hid hc2
            clear cb1 hc2 hg2 hT1
            go_wp2_with fail
            refine (Ig.coders_c _).mono ?_
            rintro e w3 ⟨rfl, hw3⟩
            have hb23 : Below w2.heap.size w2 w3 := by rw [hw3]; exact (Below.refl _ _).alloc (Nat.le_refl _) _
            clear hw3
            have hlt2 := HC2.out.lt
            have hb3 := hb2.trans (hb23.mono hb2.size)
            have hT3 := hT2.below hb23 (by omega)
            have hc3 := HC2.out.below hb23 hlt2
            have cu3 := cu _ _ hT3 hc3
            have HB3 := Lib.hid hb3
            have hs3 := hb3.size
            clear hb23 hb2 hb3 hT2 hc3 cu
            go_wp2_with fail
            refine cu3.mono ?_
            rintro e w4 ⟨rfl, hc4, hg4⟩
            have HC4 := Lib.hid hc4
            have hT4 := hT3.at_ hg4 hG
            have HB4 := Lib.hid (HB3.out.trans (Ty.below_at (B := w.heap.size) hg4 hs3 (Nat.le_refl _)))
            clear cu3 hc4 hg4 hT3
            go_wp2_with fail
            refine (Ty.err_c _ _ 0 _ HC4.out).mono ?_
            rintro e w5 ⟨rfl, rfl⟩
            go_wp2_with fail
            refine (Ig.coders_c _).mono ?_
            rintro e w6 ⟨rfl, hw6⟩
            have hb56 : Below w5.heap.size w5 w6 := by rw [hw6]; exact (Below.refl _ _).alloc (Nat.le_refl _) _
            have hcc : ∀ i v, (Ig.csA)[i]? = some v → w6.cell? ⟨w5.heap.size, i, none⟩ = some v := fun i v h => by rw [hw6]; exact Ig.cs_cell w5 i v h
            have hcd := Ig.cs_at hcc
            have hlt5 := HC4.out.lt
            have HC6 := Lib.hid (HC4.out.below hb56 hlt5)
            have hT6 := hT4.below hb56 (by omega)
            have HB6 := Lib.hid (HB4.out.trans (hb56.mono HB4.out.size))
            have hs6 := HB6.out.size
            clear hw6 hcc hb56 HC4 HB4 hT4
            go_wp2_with fail
            refine (CR.out w6 hT6 HC6.out).mono ?_
            rintro e w7 ⟨v7, rfl, hO7, hc7, hg7⟩
            have HO7 := Lib.hid hO7
            have HC7 := Lib.hid hc7
            have HB7 := Lib.hid (HB6.out.trans (Ty.below_at (B := w.heap.size) hg7 hs6 (Nat.le_refl _)))
            clear hcd hT6 HC6 hO7 hc7 hg7
            obtain ⟨a7, c7, rfl⟩ := Ig.own_len HO7.out
            have HA7 := Lib.hid (Ig.Own.at HO7.out)
            obtain ⟨C, L, l4⟩ := t
            simp only at HO7 HC7 HA7 G4 G5 G6 ⊢
            by_cases hC : C = 0
            · subst hC
              have hc7 := HC7.out rfl
              have HA8 := HA7
              simp only [if_true] at HA8
              have hil : (if (0 : Nat) = 0 then L else []).length = L.length := by rw [if_pos rfl]
              rw [hil]
              simp only [Int.natCast_zero]
              have HD := Lib.hid (Ty.done_c w.heap.size l4 0 w7 hc7)
              clear hil hc7
              by_cases hl4 : l4 = []
              · have HR := Lib.hid (G6.out rfl hl4)
                have HF : Hid (Ty.fin l4 0 = 0) := Lib.hid (by rw [hl4]; rfl)
                have hd := HD.out
                rw [HF.out] at hd
                simp only [Int.natCast_zero] at hd
                clear hl4
                go_wp2_with fail
                refine hd.mono ?_
                rintro e w8 ⟨rfl, rfl⟩
                go_wp2
                go_ret2
                exact Ig.Got.good HR.out HA8.out HB7.out
              · have HR := Lib.hid (G5.out rfl hl4)
                have HF : Hid (Ty.fin l4 0 = 5) := Lib.hid (by unfold Ty.fin; rw [if_pos ⟨rfl, hl4⟩])
                have hd := HD.out
                rw [HF.out] at hd
                simp only [Int.cast_ofNat_Int] at hd
                clear hl4
                go_wp2_with fail
                refine hd.mono ?_
                rintro e w8 ⟨rfl, rfl⟩
                go_wp2_with fail
                refine hd.mono ?_
                rintro e w8 ⟨rfl, rfl⟩
                go_wp2
                go_ret2
                exact Ig.Got.bad HR.out rfl HB7.out
            · have HR := Lib.hid (G4.out hC)
              have hne : ((C : Int) != 0) = true := by rw [bne_iff_ne]; omega
              simp only [if_neg hC, List.length_nil]
              clear hC
              go_wp2
              go_ret2
              exact Ig.Got.bad HR.out rfl HB7.out
      · have HR := Lib.hid (Ig.rd2 (r := r) h3 he)
        generalize (num r).2.2 = q at cu he HR
        have hne : ((q : Int) != 0) = true := by rw [bne_iff_ne]; omega
        clear he h3
        go_enter Tryd.func20, Tryd.ntmps20
        go_wp2_with fail
        refine cf.mono ?_
        rintro e w1 ⟨rfl, hc1, hT1, hg1⟩
        have hs1 := hg1.size
        have cb1 := cb _ _ hc1
        have HB1 := Lib.hid (Ty.below_none hg1 (Nat.le_refl _))
        clear cf cb hc1 hg1
        go_wp2_with fail
        refine cb1.mono ?_
        rintro e w2 ⟨rfl, hc2, hg2⟩
        have hT2 := hT1.at_ hg2 hG
        have hb2 := HB1.out.trans (Ty.below_at (B := w.heap.size) hg2 hs1 (Nat.le_refl _))
        have HC2 := Lib.hid hc2
        clear cb1 hc2 hg2 hT1
        go_wp2_with fail
        refine (Ig.coders_c _).mono ?_
        rintro e w3 ⟨rfl, hw3⟩
        have hb23 : Below w2.heap.size w2 w3 := by rw [hw3]; exact (Below.refl _ _).alloc (Nat.le_refl _) _
        clear hw3
        have hlt2 := HC2.out.lt
        have hb3 := hb2.trans (hb23.mono hb2.size)
        have hT3 := hT2.below hb23 (by omega)
        have hc3 := HC2.out.below hb23 hlt2
        have cu3 := cu _ _ hT3 hc3
        have HB3 := Lib.hid hb3
        have hs3 := hb3.size
        clear hb23 hb2 hb3 hT2 hT3 hc3 cu
        go_wp2_with fail
        refine cu3.mono ?_
        rintro e w4 ⟨rfl, hc4, hg4⟩
        have HC4 := Lib.hid hc4
        have HB4 := Lib.hid (HB3.out.trans (Ty.below_at (B := w.heap.size) hg4 hs3 (Nat.le_refl _)))
        clear cu3 hc4 hg4
        go_wp2_with fail
        refine (Ty.err_c _ _ q _ HC4.out).mono ?_
        rintro e w5 ⟨rfl, rfl⟩
        go_wp2_with fail
        refine (Ty.err_c _ _ q _ HC4.out).mono ?_
        rintro e w5 ⟨rfl, rfl⟩
        go_wp2
        go_ret2
        exact Ig.Got.bad HR.out rfl HB4.out
end Go.Proofs.YtkgmildbhelelaaDoor
