/-
  The law ColumnNulls.
-/
import Derived.Test.YtcognkgabdaneaaGreatDoorC9
import Derived.Deep.OwnRows
namespace Go.Proofs.YtcognkgabdaneaaGreatDoor
open Go.RowKit
theorem Cl.len_small {n : Nat} (h : n < 16384) : (Ty.encU n).length ≤ 2 := by
  rw [Ty.encU_length]
  rcases Ty.form_is n with ⟨_, e⟩ | ⟨_, _, e⟩ | ⟨e0, _, _⟩ | ⟨e0, _⟩
  · rw [e]; decide
  · rw [e]; decide
  · exact absurd h e0
  · omega
theorem Cl.live_nuls (m : Nat) : Cl.live (List.replicate m Cl.nul) = [] := by
  unfold Cl.live
  rw [List.filter_eq_nil_iff]
  intro v hv
  rw [(List.mem_replicate.1 hv).2]
  decide
theorem Cl.nuls_good {c : Kn.C} (hg : c.good = true) (hn : c.null = true) {m : Nat} (hm : m < 2000) : Cl.wE c (List.replicate m Cl.nul) = 0 := by
  have ha : (List.replicate m Cl.nul).all (Cl.is c) = true := List.all_eq_true.2 fun v hv => by
    rw [(List.mem_replicate.1 hv).2]
    exact Cl.is_nul hn
  unfold Cl.wE
  rw [if_pos hg, if_neg (by rw [List.length_replicate]; omega), if_pos ha]
theorem Cl.nuls_len {c : Kn.C} {m : Nat} (hm : m < 2000) : (Cl.enc c (List.replicate m Cl.nul)).length ≤ Bt.need m + 6 := by
  have h1 := Cl.len_small (n := m) (by omega)
  have h2 : (Cl.vals c (List.replicate m Cl.nul)).length ≤ 2 := by
    unfold Cl.vals Cl.nums Cl.words
    rw [Cl.live_nuls, List.map_nil, List.map_nil]
    split
    · decide
    · decide
  unfold Cl.enc
  rw [List.length_append, List.length_append, Bt.length_data, Bt.size_bytes, List.length_replicate]
  omega
/-- The cells of values the first k of which are null. -/
def Cl.nf (k i : Nat) : Value := if i % 3 = 0 then .bool (decide (i / 3 < k)) else if i % 3 = 1 then .int .i64 0 else .string ⟨#[]⟩
theorem Cl.nf_made (w : World) (n : Nat) : (w.alloc (.cells (madeCells #[.bool false, .int .i64 0, .string ⟨#[]⟩] (n * 3)) 36)).rowIs w.heap.size 36 (n * 3) (Cl.nf 0) := by
  refine ⟨_, Go.Deep.blk_alloc_new _ _, size_madeCells _ _, fun i hi => ?_⟩
  unfold madeCells
  rw [Array.getElem?_map, Array.getElem?_range, if_pos hi]
  unfold Cl.nf
  have h3 : i % 3 = 0 ∨ i % 3 = 1 ∨ i % 3 = 2 := by omega
  rcases h3 with h | h | h <;> simp [h]
theorem Cl.nf_step {w : World} {g n k : Nat} (h : w.rowIs g 36 n (Cl.nf k)) : (w.setCell ⟨g, k * 3, none⟩ (.bool true)).rowIs g 36 n (Cl.nf (k + 1)) :=
  (World.rowIs.set h (k * 3) (.bool true)).congr fun i _ => by
    unfold Cl.nf
    by_cases e : i = k * 3
    · subst e
      simp
    · rw [if_neg e]
      by_cases h3 : i % 3 = 0
      · rw [if_pos h3, if_pos h3]
        congr 1
        rw [decide_eq_decide]
        omega
      · rw [if_neg h3, if_neg h3]
theorem Cl.nf_vals {w : World} {g n c : Nat} (h : w.rowIs g 36 (n * 3) (Cl.nf n)) (hn : n < 2000) : Kn.Vals w (.slice (some ⟨g, 0, none⟩) (n : Nat) c) (List.replicate n Cl.nul) := by
  refine ⟨_, c, by rw [List.length_replicate], .inr ⟨g, 0, rfl, h.lt, by rw [List.length_replicate]; omega, fun i x hx => ?_⟩⟩
  have hi : i < n := by
    have := (List.getElem?_eq_some_iff.1 hx).1
    simpa using this
  rw [List.getElem?_replicate, if_pos hi] at hx
  obtain rfl := Option.some.inj hx
  have e0 := h.cell (i := i * 3) (by omega)
  have e1 := h.cell (i := i * 3 + 1) (by omega)
  have e2 := h.cell (i := i * 3 + 2) (by omega)
  have f0 : Cl.nf n (i * 3) = .bool true := by unfold Cl.nf; rw [if_pos (by omega)]; congr 1; rw [decide_eq_true_iff]; omega
  have f1 : Cl.nf n (i * 3 + 1) = .int .i64 0 := by unfold Cl.nf; rw [if_neg (by omega), if_pos (by omega)]
  have f2 : Cl.nf n (i * 3 + 2) = .string ⟨#[]⟩ := by unfold Cl.nf; rw [if_neg (by omega), if_neg (by omega)]
  rw [f0] at e0
  rw [f1] at e1
  rw [f2] at e2
  rw [Nat.zero_add]
  exact ⟨e0, e1, e2⟩
theorem Cl.below_set {B : Nat} {w w' : World} (h : Below B w w') {g i : Nat} (hg : B ≤ g) (u : Value) : Below B w (w'.setCell ⟨g, i, none⟩ u) :=
  ⟨h.os, h.tape, h.output, by have := h.size; simpa [World.setCell] using this, fun j hj => (Below.heap_setCell _ _ _ _ (by show j ≠ g; omega)).trans (h.block j hj)⟩
theorem Cl.run_make (n : Nat) (hn : n < 2000) (w : World) : (Instr.makeSlice 25 (.int .i64 (n : Int)) (.int .i64 (n : Int))).run Tryz.prog w = .ok (.slice (some ⟨w.heap.size, 0, none⟩) n n) (w.alloc (.cells (madeCells #[.bool false, .int .i64 0, .string ⟨#[]⟩] (n * 3)) 36)) := by
  obtain ⟨i0, hi, hz0, hz1, hz2⟩ := info_parts Cl.infoV
  have := Go.run_make (P := Tryz.prog) w 25 36 i0 _ Tryz.underlying25 hi hz0 .i64 .i64 n n (by omega) (Int.le_refl _) (by rw [hz2]; omega) (by omega)
  rw [hz1, Int.toNat_natCast] at this
  exact this
set_option maxHeartbeats 2000000 in
set_option maxRecDepth 100000 in
theorem Cl.lawNulls_w (kd t : Int) (w : World) (hw : Cl.T w) :
    Calls Tryz.prog 8 #[.int .i64 kd, .int .i64 t] w fun e w' => e = .returned (.bool true) ∧ Below w.heap.size w w' := by
  obtain ⟨U, hU, hU2⟩ : ∃ U : Nat, IntKind.u64.wrap t = (U : Int) ∧ U < 18446744073709551616 := ⟨(IntKind.u64.wrap t).toNat, by rw [IntKind.wrap_u64]; omega, by rw [IntKind.wrap_u64]; omega⟩
  obtain ⟨M, hM, hM2⟩ : ∃ M : Nat, (U : Int) % 2000 = (M : Int) ∧ M < 2000 := ⟨U % 2000, by omega, by omega⟩
  have hmk := Cl.run_make M hM2
  have hM3 : (M : Int) < 2000 := by omega
  have hM0 : (0 : Int) ≤ (M : Int) := by omega
  clear hU2
  go_enter Tryz.func8, Tryz.ntmps8
  go_wp2_with fail
  refine (Cl.lives_c _ hw).mono ?_
  rintro e w1 ⟨rfl, hb1⟩
  have HB1 := Lib.hid hb1
  have hbs1 := hb1.size
  clear hb1
  go_wp2_with fail
  have hX0 := Kn.cell_new w1 #[.int .i64 kd, .bool true] 24 0 _ rfl
  have hX1 := Kn.cell_new w1 #[.int .i64 kd, .bool true] 24 1 _ rfl
  have hbb := (Below.refl _ (w1.alloc (.cells #[.int .i64 kd, .bool true] 24))).alloc (Nat.le_refl _) (.cells (madeCells #[.bool false, .int .i64 0, .string ⟨#[]⟩] (M * 3)) 36)
  have hY0 := (hbb.cell (p := ⟨w1.heap.size, 0, none⟩) (by simp)).trans hX0
  have hY1 := (hbb.cell (p := ⟨w1.heap.size, 1, none⟩) (by simp)).trans hX1
  have hR := Cl.nf_made (w1.alloc (.cells #[.int .i64 kd, .bool true] 24)) M
  have hB0 : Below w1.heap.size w1 ((w1.alloc (.cells #[.int .i64 kd, .bool true] 24)).alloc (.cells (madeCells #[.bool false, .int .i64 0, .string ⟨#[]⟩] (M * 3)) 36)) := ((Below.refl _ w1).alloc (Nat.le_refl _) _).alloc (by simp) _
  rw [World.size_alloc] at hR
  simp only [List.getElem_toArray, List.getElem_cons_zero, List.getElem_cons_succ] at hY0 hY1
  generalize (w1.alloc _).alloc _ = w2 at hY0 hY1 hR hB0 ⊢
  obtain ⟨g1, hg1⟩ : ∃ g1, g1 = w1.heap.size + 1 := ⟨_, rfl⟩
  rw [← hg1] at hR ⊢
  have HG1 := Lib.hid hg1
  have HY0 := Lib.hid hY0
  have HY1 := Lib.hid hY1
  have HR := Lib.hid hR
  have HB0 := Lib.hid hB0
  clear hX0 hX1 hbb hY0 hY1 hR hB0 hg1 hmk hU
  go_loopw [8] (fun i wr => ∃ k : Nat, k ≤ M ∧ i = .int .i64 k ∧ wr.rowIs g1 36 (M * 3) (Cl.nf k) ∧ Below w1.heap.size w1 wr ∧ wr.cell? ⟨w1.heap.size, 0, none⟩ = some (.int .i64 kd) ∧ wr.cell? ⟨w1.heap.size, 1, none⟩ = some (.bool true)) (fun i _ => M - (intOf i).toNat)
  case atStart => exact ⟨0, by omega, rfl, HR.out, HB0.out, HY0.out, HY1.out⟩
  case round =>
    obtain ⟨k, hk, rfl, hrow, hb, y0, y1⟩ := hrel
    have HRW := Lib.hid hrow
    have HB := Lib.hid hb
    have HZ0 := Lib.hid y0
    have HZ1 := Lib.hid y1
    have hk0 : (0 : Int) ≤ (k : Int) := by omega
    clear HR HB0 HY0 HY1 hb
    by_cases hkl : k < M
    · have hki : (k : Int) < (M : Int) := by omega
      have c0 := hrow.cell (i := k * 3) (by omega)
      have f0 := hrow.frozen (k * 3)
      have hn1 : (⟨w1.heap.size, 0, none⟩ : Addr).block ≠ g1 := by show w1.heap.size ≠ g1; have := HG1.out; omega
      have HS : Hid ((wr.setCell ⟨g1, k * 3, none⟩ (.bool true)).cell? ⟨w1.heap.size, 0, none⟩ = some (.int .i64 kd) ∧ (wr.setCell ⟨g1, k * 3, none⟩ (.bool true)).cell? ⟨w1.heap.size, 1, none⟩ = some (.bool true)) := Lib.hid ⟨(World.cell?_of_block (Below.heap_setCell _ _ _ _ hn1)).trans y0, (World.cell?_of_block (Below.heap_setCell _ _ _ _ hn1)).trans y1⟩
      clear hrow y0 y1 hn1
      go_wp2
      go_roundw
      case rel => exact ⟨k + 1, by omega, by simp, Cl.nf_step HRW.out, Cl.below_set HB.out (by have := HG1.out; omega) _, HS.out.1, HS.out.2⟩
      case measure => simp [intOf]; omega
    · obtain rfl : k = M := by omega
      have dk : ¬ (k : Int) < (k : Int) := by omega
      have hV := Cl.nf_vals (c := k) HRW.out hM2
      have HV := Lib.hid hV
      have hb := HB1.out.trans (HB.out.mono hbs1)
      have HBB := Lib.hid hb
      have hws : w1.heap.size < wr.heap.size := World.block_lt_of_cell? wr _ y0
      have c1 := Cl.write_c ⟨kd, true⟩ _ (List.replicate k Cl.nul) wr (hw.below hb) hV (fun v hv => by rw [(List.mem_replicate.1 hv).2]; exact ⟨by decide, by decide⟩)
      have hgw := Kn.good_ways ⟨kd, true⟩
      have HN0 := Lib.hid fun (h : Kn.C.good ⟨kd, true⟩ = true) => Cl.nuls_good (c := ⟨kd, true⟩) h rfl hM2
      have HNL := Lib.hid (Cl.nuls_len (c := ⟨kd, true⟩) hM2)
      obtain ⟨d, hd⟩ : ∃ d, d = Bt.need k := ⟨_, rfl⟩
      have hdd : ((k : Int) + 7) / 8 = (d : Int) := by rw [hd]; unfold Bt.need; omega
      rw [← hd] at HNL
      clear hrow hV hb hd hM2 hM
      rcases hgw with ⟨hg, k1⟩ | ⟨hg, k1, k2⟩ | ⟨hg, k1, k2⟩
      rotate_left 2
      · have he : Cl.wE ⟨kd, true⟩ (List.replicate k Cl.nul) = 4 := by unfold Cl.wE; rw [if_neg (by rw [hg]; decide)]
        rw [Cl.wV_bad he (by decide)] at c1
        simp only at k1 k2
        unfold Kn.C.val at c1
        simp only at c1
        clear he hg
        go_wp2_with fail
        refine c1.mono ?_
        rintro e w3 ⟨rfl, g3⟩
        have hb3 := HBB.out.trans (g3.mono HBB.out.size)
        clear c1 g3
        go_wp2
        go_ret
        exact ⟨rfl, hb3⟩
      all_goals
        have he := HN0.out hg
        have c2 := fun wz hT => Cl.read_c ⟨kd, true⟩ (Ty.S (Cl.enc ⟨kd, true⟩ (List.replicate k Cl.nul))) wz hT (by rw [Ty.size_S]; have := Cl.enc_len he; omega)
        rw [Ty.data_S, Cl.rd_enc he (fun v hv => by rw [(List.mem_replicate.1 hv).2]; exact ⟨by decide, by decide⟩)] at c2
        rw [Cl.wV_ok he] at c1
        have hSl : ((Ty.S (Cl.enc ⟨kd, true⟩ (List.replicate k Cl.nul))).size : Int) ≤ (d : Int) + 6 := by rw [Ty.size_S]; have := HNL.out; omega
        generalize Ty.S (Cl.enc ⟨kd, true⟩ (List.replicate k Cl.nul)) = S at c1 c2 hSl
        simp only at k1
        try simp only at k2
        unfold Kn.C.val at c1 c2
        simp only at c1 c2
        clear he hg
        go_wp2_with fail
        refine c1.mono ?_
        rintro e w3 ⟨rfl, g3⟩
        have hb3 := HBB.out.trans (g3.mono HBB.out.size)
        have z0 := (g3.cell (p := ⟨w1.heap.size, 0, none⟩) hws).trans HZ0.out
        have z1 := (g3.cell (p := ⟨w1.heap.size, 1, none⟩) hws).trans HZ1.out
        have HV3 := Lib.hid (HV.out.later g3)
        have d2 := c2 _ (hw.below hb3)
        clear c1 c2 g3 y0 y1
        go_wp2_with fail
        refine d2.mono ?_
        rintro e w4 ⟨v4, rfl, hV4, g4⟩
        have hb4 := hb3.trans (g4.mono hb3.size)
        have cs := Kn.rsame_c v4 _ _ _ w4 hV4 (HV3.out.later g4)
        rw [Kn.sameR_self] at cs
        clear d2 g4 hb3 hV4 z0 z1
        simp only [Int.natCast_zero]
        go_wp2_with fail
        refine cs.mono ?_
        rintro e w5 ⟨rfl, n, rfl⟩
        go_wp2
        go_ret
        exact ⟨rfl, Kn.below_drewN hb4 n⟩
end Go.Proofs.YtcognkgabdaneaaGreatDoor
