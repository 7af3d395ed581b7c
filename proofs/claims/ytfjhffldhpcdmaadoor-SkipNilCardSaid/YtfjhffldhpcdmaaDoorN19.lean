/-
  The law SkipNil, walked.
-/
import Derived.Test.YtfjhffldhpcdmaaDoorZAI
namespace Go.Proofs.YtfjhffldhpcdmaaDoor
open Go Go.RowKit Go.Shelf
attribute [local go_sem] Oper.semAt_some
set_option maxHeartbeats 4000000 in
set_option maxRecDepth 100000 in
theorem Sk.lawNil_w {w : World} (hT : Sk.Tab w) (gn : Bool) (a : Option Addr) (n c : Nat) (k : Kn.V) :
    Calls Tryd.prog 8 #[.agg #[.bool gn, .slice a n c], k.val] w fun e w' => e = .returned (.bool true) ∧ Below w.heap.size w w' := by
  obtain ⟨wa, hwa⟩ : ∃ wa, wa = w.alloc (.cells #[.bool gn, .slice a n c] 37) := ⟨_, rfl⟩
  obtain ⟨wb, hwb⟩ : ∃ wb, wb = wa.alloc (.cells #[.bool k.null, .int .i64 k.n, .string k.s] 25) := ⟨_, rfl⟩
  have hsa : wa.heap.size = w.heap.size + 1 := by rw [hwa]; exact World.size_alloc ..
  have hba : Below w.heap.size w wa := by rw [hwa]; exact (Below.refl _ w).alloc (Nat.le_refl _) _
  have hbb : Below wa.heap.size wa wb := by rw [hwb]; exact (Below.refl _ wa).alloc (Nat.le_refl _) _
  have hsb : wb.heap.size = w.heap.size + 2 := by rw [hwb, World.size_alloc]; omega
  have hb0 : Below w.heap.size w wb := hba.trans (hbb.mono (by omega))
  have hd : wa.heap[w.heap.size]? = some (.cells #[.bool gn, .slice a n c] 37 (0, 0)) := by rw [hwa]; exact heap_alloc_new w _
  have hkk : Kn.At wb (w.heap.size + 1) 0 k := by rw [hwb, ← hsa]; exact Kn.At.new wa k _
  have HC : Hid (∀ W, Below wb.heap.size wb W → (W.cell? ⟨w.heap.size, 0, none⟩ = some (.bool gn) ∧ W.cell? ⟨w.heap.size, 1, none⟩ = some (.slice a n c)) ∧ Kn.At W (w.heap.size + 1) 0 k ∧ Below w.heap.size w W) := Lib.hid fun W g => by
    have h1 := (g.block w.heap.size (by omega)).trans ((hbb.block _ (by omega)).trans hd)
    exact ⟨⟨by rw [cell_of_row _ _ _ _ _ _ h1]; rfl, by rw [cell_of_row _ _ _ _ _ _ h1]; rfl⟩, hkk.later g, hb0.trans (g.mono hb0.size)⟩
  have CL := Lib.hid (Sk.lives_c (hT.later hb0 hT.lt))
  have HSB : Hid (wb.heap.size = w.heap.size + 2) := Lib.hid hsb
  obtain ⟨kn, ki, ks⟩ := k
  unfold Kn.V.val
  clear hsa hba hbb hsb hb0 hd hkk hT
  refine (callsIn_wide (n := 9)).1 ?_
  refine callsIn_of_wp_marks Tryd.func8 rfl trivial ?_ rfl
  simp only [Tryd.ntmps8, List.size_toArray, List.length_cons, List.length_nil, Nat.reduceAdd, Nat.reduceSub, Array.replicate_succ, Array.replicate_zero, List.push_toArray, List.append_toArray, List.nil_append, List.cons_append]
  gi_wp2_with (first
    | (rw [← hwa, ← hwb]; clear hwa hwb; refine ⟨trivial, ?_⟩; gi_at_call 9; refine (callsIn_wide.2 CL.out).mono ?_; rintro e w1 ⟨rfl, g1⟩
       have G1 := Lib.hid g1
       obtain ⟨⟨d0, d1⟩, ⟨k0, k1, k2⟩, b1⟩ := HC.out w1 g1
       have HB1 := Lib.hid b1
       have CG := Lib.hid (Sk.nil_get_c w1 ⟨kn, ki, ks⟩)
       unfold Sk.GetP Kn.V.val at CG
       clear g1 b1 CL)
    | (refine ⟨trivial, ?_⟩; gi_at_call 17; refine (callsIn_wide.2 CG.out).mono ?_; rintro e w2 ⟨rfl, g2⟩
       have G2 := Lib.hid (G1.out.trans (g2.mono G1.out.size))
       clear g2 CG G1)
    | (refine ⟨trivial, ?_⟩; gi_at_call 20; refine (callsIn_wide.2 (Sk.all_c none _ rfl)).mono ?_; rintro e w3 ⟨rfl, c3, g3⟩))
  have HB3 : Hid (Below w2.heap.size w2 w3 ∧ w2.heap.size + 2 < w3.heap.size) := Lib.hid (by
    have h1 : Below w2.heap.size w2 ((w2.alloc (.cells #[.bool false, .slice none 0 0] 37)).alloc (.cells #[.int .i64 0] 3)) := ((Below.refl _ w2).alloc (Nat.le_refl _) _).alloc (by simp) _
    have h2 := World.block_lt_of_cell? _ _ c3
    simp at h2
    exact ⟨h1.trans (g3.mono h1.size), by omega⟩)
  have HN3 : Hid (w3.cell? ⟨w2.heap.size + 1, 0, none⟩ = some (.int .i64 0)) := Lib.hid (by
    have h1 := Kn.cell_new (w2.alloc (.cells #[.bool false, .slice none 0 0] 37)) #[.int .i64 0] 3 0 _ rfl
    rw [World.size_alloc] at h1
    exact (g3.cell (p := ⟨w2.heap.size + 1, 0, none⟩) (by simp)).trans h1)
  have HC3 : Hid (w3.cell? ⟨w2.heap.size + 1 + 1, 0, none⟩ = some (.pointer none)) := Lib.hid (by simpa using c3)
  clear c3 g3 d0 d1 k0 k1 k2 HB1
  refine Sk.range_w (n₀ := 0) (gf := 34) rfl (enters_of Tryd.func34 (by kernel_rfl) rfl)
    (Sk.nil_all1_seq HC3.out) (Below.refl _ _) (Nat.zero_le _) (fun x args W he => by obtain ⟨u, rfl, _⟩ := he; rfl)
    (fun s W => Below w2.heap.size w2 W ∧ W.cell? ⟨w2.heap.size + 1, 0, none⟩ = some (.int .i64 0))
    (fun c s W => False)
    ?own ?ownx ⟨HB3.out.1, HN3.out⟩
    (fun s x a' W => False)
    ?ownA ?assign ?body ?done ?stop
  case own =>
    rintro s A' B' row ⟨h1, h2⟩ hg hr
    exact ⟨h1.grown hg h1.size fun k e => by have := (hr k e).1; have := HB3.out.1.size; omega, cell_kept h2 hg fun r e => (hr r e).2⟩
  case ownx => exact fun _ _ _ _ _ h _ _ => h
  case ownA => exact fun _ _ _ _ _ _ _ h _ _ => h
  case assign =>
    intro l pre O x args W _ _ hpx _
    simp at hpx
  case body =>
    intro l pre O x a' W _ _ h
    exact h.elim
  case stop =>
    intro D c pre O W _ _ _ h
    exact h.elim
  case done =>
    rintro D O W hD ⟨hbl, hcn⟩ hK
    obtain ⟨⟨d0, d1⟩, ⟨k0, k1, k2⟩, b4⟩ := HC.out W (G2.out.trans (hbl.mono G2.out.size))
    have HB4 := Lib.hid b4
    have HK : Hid (∀ W', Below W.heap.size W W' → W'.heap[D]? = some (.deferred (some []))) := Lib.hid fun W' g => (g.block D (Array.getElem?_eq_some_iff.1 hK).1).trans hK
    have HD := Lib.hid hD
    have CP := Lib.hid (Sk.nil_put_c _ W gn a n c rfl)
    have HCN : Hid (∀ W', Below W.heap.size W W' → W'.cell? ⟨w2.heap.size + 1, 0, none⟩ = some (.int .i64 0)) := Lib.hid fun W' g => (g.cell (p := ⟨w2.heap.size + 1, 0, none⟩) (World.block_lt_of_cell? _ _ hcn)).trans hcn
    have HWW : Hid (w.heap.size ≤ w3.heap.size) := Lib.hid (by have := HSB.out; have := G2.out.size; have := HB3.out.2; omega)
    clear hbl hK b4 hD k0 k1 k2 hcn HN3 HC3 HC
    gi_wp2_with (first
      | (refine ⟨trivial, ?_⟩; gi_at_call 12; refine (callsIn_wide.2 CP.out).mono ?_; rintro e w5 ⟨rfl, g5⟩
         have G5 := Lib.hid g5
         have hcn := HCN.out w5 g5
         clear g5 CP)
      | (refine ⟨trivial, ?_⟩; gi_at_call 14; refine (callsIn_wide.2 (Sk.nil_len_c w5)).mono ?_; rintro e w6 ⟨rfl, h9⟩; obtain rfl := h9.symm)
      | (refine ⟨trivial, ?_⟩; gi_at_call 15; refine (callsIn_wide.2 (Sk.nil_bytes_c w5)).mono ?_; rintro e w7 ⟨rfl, h9⟩; obtain rfl := h9.symm))
    refine ⟨by simp, .inl ⟨_, _, rfl, run_takeDeferred (HK.out w5 G5.out), ?_⟩⟩
    refine ⟨_, results_tmp rfl _ _ _, rfl, ?_⟩
    exact (HB4.out.trans (G5.out.mono HB4.out.size)).trans (belowK_b HWW.out w5 D _ _ HD.out (HK.out w5 G5.out) rfl rfl)
end Go.Proofs.YtfjhffldhpcdmaaDoor
