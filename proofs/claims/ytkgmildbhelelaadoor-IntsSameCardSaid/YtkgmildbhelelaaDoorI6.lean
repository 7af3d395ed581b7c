/-
  Contracts of package ints: the packed writer; With.
-/
import Derived.Test.YtkgmildbhelelaaDoorI5
import Derived.Test.YtkgmildbhelelaaDoorP2
namespace Go.Proofs.YtkgmildbhelelaaDoor
open Go.RowKit
open Ig (nth encI encR grp diffs prv low off)
open Ty (encU)
theorem Ig.At.bufs {B : Nat} {w : World} {v : Value} {L : List Int} (h : Ig.At B w v L) : Ig.At w.heap.size w v L := h.mono (by obtain ⟨_, _, _, _, hB, _⟩ := h; exact hB) (Nat.le_refl _)
theorem Ig.len_bytes (n : Nat) (F : Nat → Bool) : (Bt.bytes n F).data.toList.length = n := by
  rw [Bt.length_data, Bt.size_bytes]
set_option maxHeartbeats 2000000 in
set_option maxRecDepth 100000 in
theorem Ig.writePacked_c (base : Nat) (v : Value) (bs : List UInt8) (u : Value) (L : List Int) (w : World) (hw : Ty.Tabs w) (hown : Ty.Buf base w v bs) (hb : base ≤ w.heap.size) (hG : Ty.G ≤ base)
    (hL : Ig.At base w u L) (hi : ∀ x ∈ L, Ty.I64 x) (hlen : bs.length ≤ 100) (hl : L.length ≤ 65536) :
    Calls Tryd.prog 66 #[v, u] w (Ty.Written base w v (bs ++ Ig.encP L)) := by
  by_cases hne : 0 < L.length
  · have cM := Ig.min_c u L w hL.bufs hne hl
    have hLi := Ig.low_i64 hi hne
    have HW := Lib.hid (fun i (h : i < L.length) => Ig.off_wrap hi h)
    have HX := Lib.hid (Ig.off_lt L hi)
    have hEP : Ig.encP L = encI (low L) ++ Pk.enc L.length (off L) := by
      unfold Ig.encP
      rw [if_neg (by intro e; rw [e] at hne; simp at hne)]
      rfl
    have cP := fun v bs u w h1 h2 h3 h4 => Pk.append_c base v bs u L.length (off L) w h1 h2 h3 (Ig.off_lt L hi) hl h4
    rw [hEP]
    generalize Pk.enc L.length (off L) = E at cP ⊢
    have hmk := run_make_row' (P := Tryd.prog) 70 49 (.int .u64 0) 8 Tryd.underlying70 Bt.infoU rfl .i64 .i64 L.length (by omega) (by omega)
    have HL := Lib.hid hL
    have H0 := Lib.hid hown
    have HP := Lib.hid cP
    have hn0 : ((L.length : Int) == 0) = false := by rw [beq_eq_false_iff_ne]; omega
    have hn1 : (0 : Int) < (L.length : Int) := by omega
    have hn2 : (L.length : Int) ≤ 65536 := by omega
    obtain ⟨a, c, rfl, hc, _, h⟩ := hL
    clear hi hEP hown cP
    go_enter Tryd.func66, Tryd.ntmps66
    go_wp2_with fail
    refine cM.mono ?_
    rintro e w1 ⟨rfl, rfl⟩
    clear cM
    go_wp2_with fail
    have hR : (w1.alloc (.cells (madeCells #[.int .u64 0] L.length) 49)).rowIs w1.heap.size 49 L.length (Bt.upTo 0 (Bt.nv (off L)) (.int .u64 0)) := (World.rowIs_made w1 (.int .u64 0) L.length 49).congr fun i _ => by unfold Bt.upTo; rw [if_neg (by omega)]
    have hB : Below w1.heap.size w1 (w1.alloc (.cells (madeCells #[.int .u64 0] L.length) 49)) := (Below.refl _ _).alloc (Nat.le_refl _) _
    generalize w1.alloc (.cells (madeCells #[.int .u64 0] L.length) 49) = w2 at hR hB ⊢
    clear hmk hn0
    generalize hg : w1.heap.size = g at hR hB
    have HGE := Lib.hid hg
    clear hg
    go_loopw [20] (fun i wr => ∃ k : Nat, k ≤ L.length ∧ i = .int .i64 k ∧ wr.rowIs g 49 L.length (Bt.upTo k (Bt.nv (off L)) (.int .u64 0)) ∧ Below g w1 wr) (fun i _ => L.length - (intOf i).toNat)
    case atStart => exact ⟨0, by omega, rfl, hR, hB⟩
    case round =>
      obtain ⟨k, hk, rfl, hRk, hBk⟩ := hrel
      have HR := Lib.hid hRk
      clear hR hB hRk
      by_cases hl2 : k < L.length
      · rcases h with h | ⟨b, o, rfl, hlt, h⟩
        · exact absurd hl2 (by rw [h]; simp)
        · have hcell : wr.cell? ⟨b, o + k, none⟩ = some (.int .i64 (nth L k)) := (hBk.cell (p := ⟨b, o + k, none⟩) (show b < g by have := HGE.out; omega)).trans (h k hl2)
          have hkl : (k : Int) < (L.length : Int) := by omega
          have hk0 : (0 : Int) ≤ (k : Int) := by omega
          have hf := HR.out.frozen k
          have hcl := HR.out.cell hl2
          have HO := Lib.hid (HW.out k hl2)
          generalize nth L k = x at hcell HO
          generalize low L = y at HO ⊢
          clear h
          go_wp2
          go_roundw
          case rel => exact ⟨k + 1, by omega, by simp, Bt.upTo_next HR.out (by unfold Bt.nv; first | rw [HO.out] | rw [← HO.out]), hBk.trans (Bt.below_set (Nat.le_refl _) _)⟩
          case measure => simp [intOf]; omega
      · obtain rfl : k = L.length := by omega
        have hkl : ¬ (L.length : Int) < (L.length : Int) := by omega
        have hsl : Bt.Sl wr (.slice (some ⟨g, 0, none⟩) L.length L.length) L.length (Bt.nv (off L)) := Bt.Sl.row (HR.out.congr fun i hi => by unfold Bt.upTo; rw [if_pos hi])
        have hbw : Below w1.heap.size w1 wr := by rw [HGE.out]; exact hBk
        have hown2 := H0.out.later hbw
        have hbs := hbw.size
        have hT := hw.below hbw (by omega)
        have HB := Lib.hid hbw
        have HSL := Lib.hid hsl
        have ci := Ty.int_c base v bs (low L) hLi wr hT hown2 (by omega) (by omega)
        clear h hsl hBk hown2 hT hbw
        go_wp2_with fail
        refine ci.mono ?_
        rintro e w4 ⟨v4, rfl, hB4, hG4⟩
        have hbs4 := hG4.by_.size
        have h9 := Ig.len_encI (low L)
        have hs4 := Pk.sl_kept HSL.out (hG4.by_.block g HR.out.lt (fun e => by have := (H0.out.lt g e.symm).2; have := HGE.out; omega)) hG4.by_.size
        have ca := HP.out v4 _ _ w4 hB4 (by omega) hs4 (by rw [List.length_append]; unfold encI at h9; omega)
        have HG4 := Lib.hid hG4
        clear ci hB4 hG4 hs4 h9
        go_wp2_with fail
        refine ca.mono ?_
        rintro e w5 ⟨v5, rfl, hB5, hG5⟩
        have H5 := Lib.hid hB5
        have HG5 := Lib.hid hG5
        clear ca hB5 hG5
        go_wp2
        go_ret
        exact ⟨_, rfl, by have := H5.out; simpa [encI, Ig.encI] using this, (Ig.grew_below (Ty.Grew.refl _ _) HB.out).trans (HG4.out.trans HG5.out)⟩
  · have hM0 : L = [] := List.eq_nil_of_length_eq_zero (by omega)
    subst hM0
    obtain ⟨a, c, rfl, hc, _, h⟩ := hL
    clear h
    go_enter Tryd.func66, Tryd.ntmps66
    go_wp2
    go_ret
    exact ⟨_, rfl, by simpa [Ig.encP] using hown, Ty.Grew.refl _ _⟩
end Go.Proofs.YtkgmildbhelelaaDoor
