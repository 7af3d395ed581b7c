/-
  Contracts of package ints: the packed writer; With.
-/
import Derived.Test.YtehnibknngejnaaDoorI5
namespace Go.Proofs.YtehnibknngejnaaDoor
open Go.RowKit
open Ig (nth encI encR grp diffs prv low off)
open Ty (encU)
theorem Ig.At.bufs {B : Nat} {w : World} {v : Value} {L : List Int} (h : Ig.At B w v L) : Ig.At w.heap.size w v L := h.mono (by obtain ⟨_, _, _, _, hB, _⟩ := h; exact hB) (Nat.le_refl _)
theorem Ig.len_bytes (n : Nat) (F : Nat → Bool) : (Bt.bytes n F).data.toList.length = n := by
  rw [Bt.length_data, Bt.size_bytes]
set_option maxHeartbeats 2000000 in
set_option maxRecDepth 100000 in
theorem Ig.writePacked_c (base : Nat) (v : Value) (bs : List UInt8) (u : Value) (L : List Int) (w : World) (hw : Ty.Tabs w) (hown : Ty.Buf base w v bs) (hb : base ≤ w.heap.size) (hG : Ty.G ≤ base)
    (hL : Ig.At base w u L) (hi : ∀ x ∈ L, Ty.I64 x) (hlen : bs.length ≤ 100) (hl : L.length ≤ 65536) :
    Calls Tryd.prog 40 #[v, u] w (Ty.Written base w v (bs ++ Ig.encP L)) := by
  by_cases hne : 0 < L.length
  · have cM := Ig.min_c u L w hL.bufs hne hl
    have hLi := Ig.low_i64 hi hne
    have HW := Lib.hid (fun i (h : i < L.length) => Ig.off_wrap hi h)
    have HX := Lib.hid (Ig.off_lt L hi)
    have hq : Bt.wid L.length (off L) ≤ 64 := Bt.wid_64 (Ig.off_lt L hi)
    have hEP : Ig.encP L = encI (low L) ++ (UInt8.ofNat (Bt.wid L.length (off L)) :: (Bt.bytes (Bt.need (L.length * Bt.wid L.length (off L))) (Bt.pk L.length (off L) (Bt.wid L.length (off L)))).data.toList) := by
      unfold Ig.encP
      rw [if_neg (by intro e; rw [e] at hne; simp at hne)]
    have cP := fun v w h => Bt.pack_ok v L.length (off L) (Bt.wid L.length (off L)) w h (Ig.off_lt L hi) (by omega) hq (Nat.le_refl _)
    have cW := fun v w h => Bt.width_c v L.length (off L) w h (Ig.off_lt L hi) (by omega)
    have hsz := Ig.len_bytes (Bt.need (L.length * Bt.wid L.length (off L))) (Bt.pk L.length (off L) (Bt.wid L.length (off L)))
    have hnd : Bt.need (L.length * Bt.wid L.length (off L)) ≤ 524288 := by
      have := Bt.mul_le L.length (Bt.wid L.length (off L)) hq
      unfold Bt.need; omega
    have hSl : (Bt.bytes (Bt.need (L.length * Bt.wid L.length (off L))) (Bt.pk L.length (off L) (Bt.wid L.length (off L)))).data.toList.length ≤ 524288 := by rw [hsz]; exact hnd
    generalize Bt.bytes (Bt.need (L.length * Bt.wid L.length (off L))) (Bt.pk L.length (off L) (Bt.wid L.length (off L))) = S at hEP cP hSl
    clear hsz hnd
    generalize Bt.wid L.length (off L) = q at hEP cP cW hq
    rw [hEP]
    have HSL : Hid (S.size ≤ 524288) := Lib.hid (by rw [← Bt.length_data]; exact hSl)
    have hmk := run_make_row' (P := Tryd.prog) 60 40 (.int .u64 0) 8 Tryd.underlying60 Bt.infoU rfl .i64 .i64 L.length (by omega) (by omega)
    have HL := Lib.hid hL
    have H0 := Lib.hid hown
    have HP := Lib.hid cP
    have hn0 : ((L.length : Int) == 0) = false := by rw [beq_eq_false_iff_ne]; omega
    have hn1 : (0 : Int) < (L.length : Int) := by omega
    have hn2 : (L.length : Int) ≤ 65536 := by omega
    obtain ⟨a, c, rfl, hc, _, h⟩ := hL
    clear hi hEP hown cP hSl
    go_enter Tryd.func40, Tryd.ntmps40
    go_wp2_with fail
    refine cM.mono ?_
    rintro e w1 ⟨rfl, rfl⟩
    clear cM
    go_wp2_with fail
    have hR : (w1.alloc (.cells (madeCells #[.int .u64 0] L.length) 40)).rowIs w1.heap.size 40 L.length (Bt.upTo 0 (Bt.nv (off L)) (.int .u64 0)) := (World.rowIs_made w1 (.int .u64 0) L.length 40).congr fun i _ => by unfold Bt.upTo; rw [if_neg (by omega)]
    have hB : Below w1.heap.size w1 (w1.alloc (.cells (madeCells #[.int .u64 0] L.length) 40)) := (Below.refl _ _).alloc (Nat.le_refl _) _
    generalize w1.alloc (.cells (madeCells #[.int .u64 0] L.length) 40) = w2 at hR hB ⊢
    clear hmk hn0
    generalize hg : w1.heap.size = g at hR hB
    have HGE := Lib.hid hg
    clear hg
    go_loopw [23] (fun i wr => ∃ k : Nat, k ≤ L.length ∧ i = .int .i64 k ∧ wr.rowIs g 40 L.length (Bt.upTo k (Bt.nv (off L)) (.int .u64 0)) ∧ Below g w1 wr) (fun i _ => L.length - (intOf i).toNat)
    case atStart => exact ⟨0, by omega, rfl, hR, hB⟩
    case round =>
      obtain ⟨k, hk, rfl, hRk, hBk⟩ := hrel
      have HR := Lib.hid hRk
      clear hR hB hRk
      by_cases hl2 : k < L.length
      · rcases h with h | ⟨b, o, rfl, hlt, h⟩
        · exact absurd hl2 (by rw [h]; simp)
        · have hcell : wr.cell? ⟨b, o + k, none⟩ = some (.int .i64 (nth L k)) := (hBk.cell (p := ⟨b, o + k, none⟩) (show b < g by have := HGE.out; omega)).trans (h k hl2)
          have hkl : (k : Int) < (L.length : Int) := by omega
          have hk0 : (0 : Int) ≤ (k : Int) := by omega
          have hf := HR.out.frozen k
          have hcl := HR.out.cell hl2
          have HO := Lib.hid (HW.out k hl2)
          generalize nth L k = x at hcell HO
          generalize low L = y at HO ⊢
          clear h
          go_wp2
          go_roundw
          case rel => exact ⟨k + 1, by omega, by simp, Bt.upTo_next HR.out (by unfold Bt.nv; first | rw [HO.out] | rw [← HO.out]), hBk.trans (Bt.below_set (Nat.le_refl _) _)⟩
          case measure => simp [intOf]; omega
      · obtain rfl : k = L.length := by omega
        have hkl : ¬ (L.length : Int) < (L.length : Int) := by omega
        have hsl : Bt.Sl wr (.slice (some ⟨g, 0, none⟩) L.length L.length) L.length (Bt.nv (off L)) := Bt.Sl.row (HR.out.congr fun i hi => by unfold Bt.upTo; rw [if_pos hi])
        have cw := cW _ wr hsl
        have cp := HP.out _ wr hsl
        have hbw : Below w1.heap.size w1 wr := by rw [HGE.out]; exact hBk
        have hown2 := H0.out.later hbw
        have hbs := hbw.size
        have hT := hw.below hbw (by omega)
        have HB := Lib.hid hBk
        clear h hsl cW hBk
        go_wp2_with fail
        refine cw.mono ?_
        rintro e w2 ⟨rfl, rfl⟩
        clear cw
        go_wp2_with fail
        refine cp.mono ?_
        rintro e w3 ⟨rfl, g3⟩
        have hown3 := hown2.later g3
        have hbs3 := g3.size
        have hT3 := hT.below g3 (by omega)
        have HB3 := Lib.hid (hbw.trans (g3.mono hbs))
        have ci := Ty.int_c base v bs (low L) hLi w3 hT3 hown3 (by omega) (by omega)
        clear cp hown2 hown3 hT hT3 hbw g3
        go_wp2_with fail
        refine ci.mono ?_
        rintro e w4 ⟨v4, rfl, hB4, hG4⟩
        have hbs4 := hG4.by_.size
        have HB4 := Lib.hid hB4
        have HG4 := Lib.hid hG4
        have h9 := Ig.len_encI (low L)
        clear ci hB4 hG4
        go_wp2_with (first
          | (at_builtin; refine Ty.wpList_append_byte HB4.out (by omega) (by rw [List.length_append]; unfold encI at h9; omega) (.tmp 47) (.tmp 50) _ rfl rfl rfl rfl ?_; intro v5 w5 h5 g5)
          | (at_builtin; refine Ty.wpList_append_text (h5 (UInt8.ofNat q) (by rw [Ty.toNat_ofNat8 q (by omega)])) (by have := g5.by_.size; omega) (by have := HSL.out; simp only [List.length_append, List.length_singleton]; unfold encI at h9; omega) (.tmp 52) (.tmp 53) rfl rfl rfl rfl ?_; intro v6 w6 h6 g6))
        have H6 := Lib.hid h6
        have HG6 := Lib.hid g6
        have HG5 := Lib.hid g5
        clear h6 g6 h9 h5 g5
        go_ret
        exact ⟨_, rfl, by have := H6.out; simpa [encI, Ig.encI] using this, (Ig.grew_below (Ty.Grew.refl _ _) HB3.out).trans (HG4.out.trans (HG5.out.trans HG6.out))⟩
  · have hM0 : L = [] := List.eq_nil_of_length_eq_zero (by omega)
    subst hM0
    obtain ⟨a, c, rfl, hc, _, h⟩ := hL
    clear h
    go_enter Tryd.func40, Tryd.ntmps40
    go_wp2
    go_ret
    exact ⟨_, rfl, by simpa [Ig.encP] using hown, Ty.Grew.refl _ _⟩
end Go.Proofs.YtehnibknngejnaaDoor
