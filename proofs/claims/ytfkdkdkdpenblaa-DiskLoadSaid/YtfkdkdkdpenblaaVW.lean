/-
  The developers' disk: Rename. Written by gen_y15.py.
  The developers' disk: settle, SyncDir. Written by gen_y16.py.
-/
import Derived.Test.YtfkdkdkdpenblaaVV
namespace Go.Proofs.Ytfkdkdkdpenblaa
open Go.RowKit Go.Maps
set_option maxHeartbeats 8000000 in
set_option maxRecDepth 100000 in
theorem Dk.prenameM_c {m : Bool} {S : Nat → Prop} {p : Nat} {d : Dk.D} {w : World} (h : Dk.PAtM m S w p d) (hf : Dk.Fit d) (s t : Dk.Str) (hs : s.length ≤ 1048576) (ht : t.length ≤ 1048576) :
    Calls Try.prog 34 #[.pointer (some ⟨p, 0, none⟩), .string (Ty.S s), .string (Ty.S t)] w fun e w' => e = .returned (.int .i64 (((Dk.rename d s t).2 : Nat) : Int)) ∧ Dk.PDidM m S w p (Dk.rename d s t).1 w' := by
  obtain ⟨q, vb, vs, vN, vD, vP, ss, sa, rs, ra, h⟩ := h
  obtain ⟨w0, hw0⟩ : ∃ w0, w0 = (w.alloc (.cells #[.string (Ty.S s)] 9)).alloc (.cells #[.string (Ty.S t)] 9) := ⟨_, rfl⟩
  have hs0 : w0.heap.size = w.heap.size + 2 := by rw [hw0]; simp
  have g0 : Below w.heap.size w w0 := by rw [hw0]; exact ((Below.refl _ w).alloc (Nat.le_refl _) _).alloc (by simp) _
  have hbA : w0.heap[w.heap.size]? = some (.cells #[.string (Ty.S s)] 9 (0, 0)) := by
    rw [hw0]
    exact (Below.heap_alloc _ _ _ (by simp)).trans (heap_alloc_new w _)
  have hbB : w0.heap[w.heap.size + 1]? = some (.cells #[.string (Ty.S t)] 9 (0, 0)) := by
    rw [hw0]
    have := heap_alloc_new (w.alloc (.cells #[.string (Ty.S s)] 9)) (.cells #[.string (Ty.S t)] 9)
    simpa using this
  have O0 : Hid (Dk.Off S w w0) := Lib.hid (Dk.Off.of_below g0)
  have HAL := Lib.hid h.alive
  have h0 := (h.same g0.size fun b hb => g0.block b (h.alive b hb)).mono (S' := Dk.More S w w0) (fun _ hb => .inl hb) (Dk.more_alive h.alive g0.size)
  have HMA : Hid (Dk.More S w w0 w.heap.size) := Lib.hid (.inr ⟨Nat.le_refl _, by omega⟩)
  have HMB : Hid (Dk.More S w w0 (w.heap.size + 1)) := Lib.hid (.inr ⟨by omega, by omega⟩)
  have cl := Dk.pcallOn_c h0 (by have := hf.sz.calls; omega) s (by omega)
  have HT : Hid (∀ w1, Dk.Ticked m (Dk.More S w w0) w0 p d q vb vs vN vD vP w1 → Dk.PDidM m S w p (Dk.tick d) w1 ∧ w1.cell? ⟨p, 0, none⟩ = some vN ∧ w1.cell? ⟨w.heap.size, 0, none⟩ = some (.string (Ty.S s)) ∧ w1.cell? ⟨w.heap.size + 1, 0, none⟩ = some (.string (Ty.S t)) ∧
      (Instr.lookup 57 vN (.string (Ty.S t)) false).run Try.prog w1.drew = .ok (Dk.ptrOf q (Dk.look d.dir t)) w1.drew) := Lib.hid fun w1 ht' => by
    obtain ⟨_, _, _, _, h1, hr⟩ := ht'
    have e1 := (hr.other w.heap.size (by have := h.lt; omega)).trans hbA
    have e2 := (hr.other (w.heap.size + 1) (by have := h.lt; omega)).trans hbB
    exact ⟨Dk.PDidM.behind O0.out HAL.out (h1.didRow hr), h1.c.1, by rw [cell_of_row w1 _ _ _ _ _ e1]; rfl, by rw [cell_of_row w1 _ _ _ _ _ e2]; rfl, (h1.same (w' := w1.drew) (Nat.le_refl _) fun _ _ => rfl).dirs.look t (by omega)⟩
  have hfit := Lib.hid hf
  have HW0 : Hid ((w.alloc (.cells #[.string (Ty.S s)] 9)).alloc (.cells #[.string (Ty.S t)] 9) = w0) := Lib.hid hw0.symm
  by_cases he : Dk.callE d = 0
  · cases hlk : Dk.look d.dir s with
    | none =>
      have HE : Hid (Dk.rename d s t = (Dk.tick d, 12)) := Lib.hid (by unfold Dk.rename; rw [if_neg (by simpa using he), if_pos (.inl hlk)])
      have hv : Dk.onV q d s = .tuple #[.pointer none, .int .i64 12] := by unfold Dk.onV; rw [if_neg (by simpa using he), hlk]
      rw [hv] at cl
      generalize Ty.S s = sx at HW0 HT cl ⊢
      generalize Ty.S t = tx at HW0 HT ⊢
      clear h h0 hf hs ht hs0 g0 hbA hbB hw0 he hlk hv
      go_enter Try.func34, Try.ntmps34
      go_wp2_with fail
      rw [HW0.out]
      with_reducible refine cl.mono ?_
      rintro e w1 ⟨rfl, ht'⟩
      have HD := Lib.hid (HT.out w1 ht').1
      clear cl ht' HT
      go_wp2
      go_ret
      exact ⟨by rw [HE.out]; rfl, by rw [HE.out]; exact HD.out⟩
    | some f =>
      have hv : Dk.onV q d s = .tuple #[.pointer (some ⟨q f, 0, none⟩), .int .i64 0] := by unfold Dk.onV; rw [if_neg (by simpa using he), hlk]
      rw [hv] at cl
      by_cases hr : Dk.right t = true
      · have CV : Hid (∀ W, Calls Try.prog 56 #[.string (Ty.S t)] W fun e w' => e = .returned (.bool true) ∧ w' = W) := Lib.hid fun W => by
          have := Dk.pvalid_c (Ty.S t) (by rw [Tx.S_size]; omega) W
          rw [show (Ty.S t).data.toList = t from rfl, hr] at this
          exact this
        by_cases hst : s = t
        · have HE : Hid (Dk.rename d s t = (Dk.tick d, 12)) := Lib.hid (by unfold Dk.rename; rw [if_neg (by simpa using he), if_pos (.inr (.inr hst))])
          subst hst
          have hse := Tx.S_yes s
          generalize Ty.S s = sx at HW0 HT cl CV hse ⊢
          clear h h0 hf hs ht hs0 g0 hbA hbB hw0 he hlk hv hr
          go_enter Try.func34, Try.ntmps34
          go_wp2_with fail
          rw [HW0.out]
          with_reducible refine cl.mono ?_
          rintro e w1 ⟨rfl, ht'⟩
          obtain ⟨hD, c0, c1, c2, _⟩ := HT.out w1 ht'
          have HD := Lib.hid hD
          clear cl ht' HT hD
          go_wp2_with fail
          with_reducible refine (CV.out _).mono ?_
          rintro e wv ⟨rfl, rfl⟩
          go_wp2
          go_ret
          exact ⟨by rw [HE.out]; rfl, by rw [HE.out]; exact HD.out⟩
        · have HE : Hid (Dk.rename d s t = (Dk.change (Dk.tick d) ⟨s, t, 0⟩, 0)) := Lib.hid (by unfold Dk.rename; rw [if_neg (by simpa using he), if_neg (by rw [hlk, hr]; simpa using hst)])
          have hse := Tx.S_no (a := t) (b := s) (fun e => hst e.symm)
          have CA : Hid (∀ W, Calls Try.prog 57 #[.string (Ty.S s)] W fun e w' => e = .returned (.string (Ty.S s)) ∧ Below W.heap.size W w') := Lib.hid fun W => Tx.clone_c (Ty.S s) W (by rw [Tx.S_size]; omega)
          have CB : Hid (∀ W, Calls Try.prog 57 #[.string (Ty.S t)] W fun e w' => e = .returned (.string (Ty.S t)) ∧ Below W.heap.size W w') := Lib.hid fun W => Tx.clone_c (Ty.S t) W (by rw [Tx.S_size]; omega)
          have htn : t ≠ [] := Dk.right_ne (by rw [hr]; simp)
          have hheld := Dk.held_rename hf.inv hlk htn hst
          have TAILH : Hid (∀ (w2 : World) (H : Int), (∃ ss sa rs ra, Dk.PX m (Dk.More S w w0) w2 p (Dk.tick d) H q vb vs vN vD vP ss sa rs ra) → H = (Dk.held (Dk.change (Dk.tick d) ⟨s, t, 0⟩) : Int) → Dk.Off (Dk.More S w w0) w0 w2 →
              w2.heap[w.heap.size]? = some (.cells #[.string (Ty.S s)] 9 (0, 0)) → w2.heap[w.heap.size + 1]? = some (.cells #[.string (Ty.S t)] 9 (0, 0)) →
              ∀ w3, Below w2.heap.size w2 w3 → (w3.cell? ⟨w.heap.size, 0, none⟩ = some (.string (Ty.S s)) ∧ w3.cell? ⟨w.heap.size + 1, 0, none⟩ = some (.string (Ty.S t)) ∧ w3.frozen? ⟨w.heap.size, 0, none⟩ = false ∧ w3.frozen? ⟨w.heap.size + 1, 0, none⟩ = false) ∧
                ∀ w4, w4 = (w3.setCell ⟨w.heap.size, 0, none⟩ (.string (Ty.S s))).setCell ⟨w.heap.size + 1, 0, none⟩ (.string (Ty.S t)) →
                  Calls Try.prog 58 #[.pointer (some ⟨p, 0, none⟩), .func (.func 61) #[] #[.pointer (some ⟨w.heap.size, 0, none⟩), .pointer (some ⟨w.heap.size + 1, 0, none⟩)]] w4 fun e w' => e = .returned (.tuple #[]) ∧
                    Dk.PDidM m S w p (Dk.change (Dk.tick d) ⟨s, t, 0⟩) w') := Lib.hid fun w2 H hx hH o2 b1 b2 w3 hb3 => by
            obtain ⟨ss', sa', rs', ra', h2⟩ := hx
            have hi := hfit.out.inv
            have a3 := (hb3.block _ (lt_of_block b1)).trans b1
            have a4 := (hb3.block _ (lt_of_block b2)).trans b2
            refine ⟨⟨by rw [cell_of_row w3 _ _ _ _ _ a3]; rfl, by rw [cell_of_row w3 _ _ _ _ _ a4]; rfl, frozen_of_row w3 _ _ _ _ a3, frozen_of_row w3 _ _ _ _ a4⟩, fun w4 hw4 => ?_⟩
            have n1 : w.heap.size ≠ w.heap.size + 1 := by omega
            have d3 : w4.heap[w.heap.size]? = some (.cells #[.string (Ty.S s)] 9 (0, 0)) := by
              rw [hw4]
              refine (Below.heap_setCell _ _ _ _ n1).trans ?_
              rw [heap_setCell_same w3 _ 0 _ _ _ a3]; rfl
            have d4 : w4.heap[w.heap.size + 1]? = some (.cells #[.string (Ty.S t)] 9 (0, 0)) := by
              rw [hw4, heap_setCell_same _ _ 0 _ _ _ ((Below.heap_setCell _ _ _ _ (fun e => n1 e.symm)).trans a4)]; rfl
            have hs4 : w4.heap.size = w3.heap.size := by rw [hw4]; simp
            have hs24 : w2.heap.size ≤ w4.heap.size := by rw [hs4]; exact hb3.size
            have hk4 : ∀ b, b < w2.heap.size → w4.heap[b]? = w2.heap[b]? := fun b hb => by
              by_cases e : b = w.heap.size
              · rw [e, d3, b1]
              · by_cases e' : b = w.heap.size + 1
                · rw [e', d4, b2]
                · rw [hw4]; exact (Below.heap_setCell _ _ _ _ e').trans ((Below.heap_setCell _ _ _ _ e).trans (hb3.block b hb))
            have h4 := h2.same hs24 fun b hb => hk4 b (h2.alive b hb)
            have o4 : Dk.Off (Dk.More S w w0) w0 w4 := o2.same ⟨by rw [hw4]; exact hb3.os, by rw [hw4]; exact hb3.tape, by rw [hw4]; exact hb3.output, hs24, fun k hk _ => hk4 k hk⟩
            have hpc : Dk.PC (Dk.More S w w0) w4 q (Dk.tick d).files.length (61, #[.pointer (some ⟨w.heap.size, 0, none⟩), .pointer (some ⟨w.heap.size + 1, 0, none⟩)]) ⟨s, t, 0⟩ := .inl ⟨htn, _, _, rfl, ⟨HMA.out, d3⟩, ⟨HMB.out, d4⟩⟩
            have hok : Dk.Ok (Dk.tick d).files.length (Dk.tick d).dir ⟨s, t, 0⟩ := by
              unfold Dk.Ok
              rw [if_pos htn]
              exact ⟨f, hlk, hst⟩
            have hcl := hfit.out.sz.dirs
            have hdl := hfit.out.sz.dir hi
            refine (Dk.pchange1_c h4 hi.dir (by show d.dir.length ≤ _; omega) (by show d.chg.length ≤ _; omega) _ _ _ hpc hok hs ht).mono ?_
            rintro e w' ⟨he, hch⟩
            exact ⟨he, Dk.PDidM.behind O0.out HAL.out (Dk.PDidM.after o4 (hch.did hH))⟩
          cases hlt : Dk.look d.dir t with
          | none =>
            rw [hlt] at hheld
            simp only [Int.sub_zero] at hheld
            have HX : Hid (∀ w1, Dk.Ticked m (Dk.More S w w0) w0 p d q vb vs vN vD vP w1 → ∀ w3, Below w1.heap.size w1 w3 → (w3.cell? ⟨w.heap.size, 0, none⟩ = some (.string (Ty.S s)) ∧ w3.cell? ⟨w.heap.size + 1, 0, none⟩ = some (.string (Ty.S t)) ∧ w3.frozen? ⟨w.heap.size, 0, none⟩ = false ∧ w3.frozen? ⟨w.heap.size + 1, 0, none⟩ = false) ∧
                ∀ w4, w4 = (w3.setCell ⟨w.heap.size, 0, none⟩ (.string (Ty.S s))).setCell ⟨w.heap.size + 1, 0, none⟩ (.string (Ty.S t)) →
                  Calls Try.prog 58 #[.pointer (some ⟨p, 0, none⟩), .func (.func 61) #[] #[.pointer (some ⟨w.heap.size, 0, none⟩), .pointer (some ⟨w.heap.size + 1, 0, none⟩)]] w4 fun e w' => e = .returned (.tuple #[]) ∧
                    Dk.PDidM m S w p (Dk.change (Dk.tick d) ⟨s, t, 0⟩) w') := Lib.hid fun w1 ht' w3 hb3 => by
              obtain ⟨ss', sa', rs', ra', h1, hr⟩ := ht'
              have e1 := (hr.other w.heap.size (by have := h.lt; omega)).trans hbA
              have e2 := (hr.other (w.heap.size + 1) (by have := h.lt; omega)).trans hbB
              exact TAILH.out w1 (Dk.held d : Int) ⟨_, _, _, _, h1.px⟩ hheld.symm (hr.off h1.mine) e1 e2 w3 hb3
            rw [hlt] at HT
            unfold Dk.ptrOf at HT
            simp only at HT
            generalize Ty.S s = sx at HW0 HT cl CA HX hse ⊢
            generalize Ty.S t = tx at HW0 HT CV CB HX hse ⊢
            clear h h0 hf hs ht hs0 g0 hbA hbB hw0 he hlk hv hr TAILH hheld hlt htn
            go_enter Try.func34, Try.ntmps34
            go_wp2_with fail
            rw [HW0.out]
            with_reducible refine cl.mono ?_
            rintro e w1 ⟨rfl, ht'⟩
            obtain ⟨_, c0, c1, c2, hl⟩ := HT.out w1 ht'
            have HBX := Lib.hid (HX.out w1 ht')
            clear cl ht' HT HX
            go_wp2_with fail
            with_reducible refine (CV.out _).mono ?_
            rintro e wv ⟨rfl, h9⟩
            subst wv
            go_wp2_with fail
            go_region
            have GD : Hid (Below w1.heap.size w1 w1.drew.drew) := Lib.hid (Below.drew (Below.drew (Below.refl _ w1)))
            go_wp2_with fail
            clear c0 hl
            go_region_law (first
              | (go_simp; go_at_call 57; (with_reducible refine (CA.out _).mono ?_); rintro e wA ⟨rfl, gA⟩; obtain ⟨⟨x1, x2, x3, x4⟩, _⟩ := HBX.out wA (GD.out.trans gA))
              | (go_simp; go_at_call 57; (with_reducible refine (CB.out _).mono ?_); rintro e wB ⟨rfl, gB⟩; obtain ⟨⟨y1, y2, y3, y4⟩, hK⟩ := HBX.out wB ((GD.out.trans gA).trans (gB.mono gA.size)); have HK := Lib.hid hK; clear hK))
            all_goals
              generalize hw4 : World.setCell (World.setCell wB _ _) _ _ = w4
              have hcc := HK.out w4 hw4.symm
              clear hw4 HK x1 x2 x3 x4 y1 y2 y3 y4 c1 c2 gA gB
              go_wp2_with fail
              with_reducible refine hcc.mono ?_
              rintro e w5 ⟨rfl, hd5⟩
              have HD := Lib.hid hd5
              clear hcc hd5
              go_wp2
              go_ret
              exact ⟨by rw [HE.out]; rfl, by rw [HE.out]; exact HD.out⟩
          | some g =>
            rw [hlt] at hheld
            simp only at hheld
            have hhd : Dk.held d ≤ 1000000000000 := by have := hf.inv.held; have := hf.sz.bytes; omega
            obtain ⟨z, hz⟩ : ∃ z, z = (Dk.file d.files g).1.length := ⟨_, rfl⟩
            obtain ⟨hd, hhde⟩ : ∃ hd, hd = Dk.held d := ⟨_, rfl⟩
            rw [← hz, ← hhde] at hheld
            rw [← hhde] at hhd
            have hw1 : IntKind.i64.wrap ((hd : Int) - (z : Int)) = (hd : Int) - (z : Int) := by rw [IntKind.wrap_i64]; omega
            have HX : Hid (∀ w1, Dk.Ticked m (Dk.More S w w0) w0 p d q vb vs vN vD vP w1 → (w1.cell? ⟨p, 4, none⟩ = some (.int .i64 (hd : Int)) ∧ w1.frozen? ⟨p, 4, none⟩ = false ∧ ∃ a c, w1.cell? ⟨q g, 0, none⟩ = some (.slice a z c)) ∧
                ∀ w2, w2 = (w1.setCell ⟨p, 4, none⟩ (.int .i64 ((hd : Int) - (z : Int)))).drew.drew → (w2.cell? ⟨w.heap.size, 0, none⟩ = some (.string (Ty.S s)) ∧ w2.cell? ⟨w.heap.size + 1, 0, none⟩ = some (.string (Ty.S t))) ∧ ∀ w3, Below w2.heap.size w2 w3 → (w3.cell? ⟨w.heap.size, 0, none⟩ = some (.string (Ty.S s)) ∧ w3.cell? ⟨w.heap.size + 1, 0, none⟩ = some (.string (Ty.S t)) ∧ w3.frozen? ⟨w.heap.size, 0, none⟩ = false ∧ w3.frozen? ⟨w.heap.size + 1, 0, none⟩ = false) ∧
                ∀ w4, w4 = (w3.setCell ⟨w.heap.size, 0, none⟩ (.string (Ty.S s))).setCell ⟨w.heap.size + 1, 0, none⟩ (.string (Ty.S t)) →
                  Calls Try.prog 58 #[.pointer (some ⟨p, 0, none⟩), .func (.func 61) #[] #[.pointer (some ⟨w.heap.size, 0, none⟩), .pointer (some ⟨w.heap.size + 1, 0, none⟩)]] w4 fun e w' => e = .returned (.tuple #[]) ∧
                    Dk.PDidM m S w p (Dk.change (Dk.tick d) ⟨s, t, 0⟩) w') := Lib.hid fun w1 ht' => by
              obtain ⟨ss', sa', rs', ra', h1, hr⟩ := ht'
              have hi := hfit.out.inv
              have hgl : g < (Dk.tick d).files.length := hi.dirlt hlt
              obtain ⟨_, _, _, _, c4, _⟩ := h1.c
              obtain ⟨k0, _⟩ := h1.files.cells hgl
              obtain ⟨a, c, hva, _⟩ := (h1.files.bytes g hgl).is
              have e1 := (hr.other w.heap.size (by have := h.lt; omega)).trans hbA
              have e2 := (hr.other (w.heap.size + 1) (by have := h.lt; omega)).trans hbB
              refine ⟨⟨by rw [c4, hhde]; rfl, h1.fz 4, a, c, by rw [k0, hva, hz]; rfl⟩, fun w2 hw2 => ?_⟩
              have h1d := h1.same (w' := w1.drew.drew) (Nat.le_refl _) fun _ _ => rfl
              obtain ⟨h2, o2, hs2, ho2⟩ := h1d.heldRow ((hd : Int) - (z : Int)) (hw2.trans rfl)
              have f1 : w2.heap[w.heap.size]? = some (.cells #[.string (Ty.S s)] 9 (0, 0)) := (ho2 _ (by have := h.lt; omega)).trans e1
              have f2 : w2.heap[w.heap.size + 1]? = some (.cells #[.string (Ty.S t)] 9 (0, 0)) := (ho2 _ (by have := h.lt; omega)).trans e2
              refine ⟨⟨by rw [cell_of_row w2 _ _ _ _ _ f1]; rfl, by rw [cell_of_row w2 _ _ _ _ _ f2]; rfl⟩, fun w3 hb3 => ?_⟩
              exact TAILH.out w2 _ ⟨_, _, _, _, h2⟩ hheld.symm (((hr.off h1.mine).same (Dk.Off.of_below (Below.drew (Below.drew (Below.refl _ w1))))).same o2) f1 f2 w3 hb3
            rw [hlt] at HT
            unfold Dk.ptrOf at HT
            simp only at HT
            generalize q g = qg at HT HX
            generalize Ty.S s = sx at HW0 HT cl CA HX hse ⊢
            generalize Ty.S t = tx at HW0 HT CV CB HX hse ⊢
            clear h h0 hf hs ht hs0 g0 hbA hbB hw0 he hlk hv hr TAILH hheld hlt htn hhd hz hhde
            go_enter Try.func34, Try.ntmps34
            go_wp2_with fail
            rw [HW0.out]
            with_reducible refine cl.mono ?_
            rintro e w1 ⟨rfl, ht'⟩
            obtain ⟨_, c0, c1, c2, hl⟩ := HT.out w1 ht'
            obtain ⟨⟨c4, f4, av, cv, cg⟩, hXX⟩ := HX.out w1 ht'
            have HXX := Lib.hid hXX
            clear cl ht' HT HX hXX
            go_wp2_with fail
            with_reducible refine (CV.out _).mono ?_
            rintro e wv ⟨rfl, h9⟩
            subst wv
            go_wp2_with fail
            go_region
            go_wp2_with fail
            clear c0 hl
            go_region
            generalize hw2 : World.drew (World.drew (World.setCell w1 _ _)) = w2
            obtain ⟨⟨b1, b2⟩, hBX⟩ := HXX.out w2 hw2.symm
            have HBX := Lib.hid hBX
            clear hw2 HXX hBX c1 c2 c4 f4 cg
            have GD : Hid (Below w2.heap.size w2 w2.drew) := Lib.hid (Below.drew (Below.refl _ w2))
            go_wp2_with fail
            go_region_law (first
              | (go_simp; go_at_call 57; (with_reducible refine (CA.out _).mono ?_); rintro e wA ⟨rfl, gA⟩; obtain ⟨⟨x1, x2, x3, x4⟩, _⟩ := HBX.out wA (GD.out.trans gA))
              | (go_simp; go_at_call 57; (with_reducible refine (CB.out _).mono ?_); rintro e wB ⟨rfl, gB⟩; obtain ⟨⟨y1, y2, y3, y4⟩, hK⟩ := HBX.out wB ((GD.out.trans gA).trans (gB.mono gA.size)); have HK := Lib.hid hK; clear hK))
            all_goals
              generalize hw4 : World.setCell (World.setCell wB _ _) _ _ = w4
              have hcc := HK.out w4 hw4.symm
              clear hw4 HK x1 x2 x3 x4 y1 y2 y3 y4 b1 b2 gA gB
              go_wp2_with fail
              with_reducible refine hcc.mono ?_
              rintro e w5 ⟨rfl, hd5⟩
              have HD := Lib.hid hd5
              clear hcc hd5
              go_wp2
              go_ret
              exact ⟨by rw [HE.out]; rfl, by rw [HE.out]; exact HD.out⟩
      · have hr' : Dk.right t = false := by simpa using hr
        have HE : Hid (Dk.rename d s t = (Dk.tick d, 12)) := Lib.hid (by unfold Dk.rename; rw [if_neg (by simpa using he), if_pos (.inr (.inl hr'))])
        have CV : Hid (∀ W, Calls Try.prog 56 #[.string (Ty.S t)] W fun e w' => e = .returned (.bool false) ∧ w' = W) := Lib.hid fun W => by
          have := Dk.pvalid_c (Ty.S t) (by rw [Tx.S_size]; omega) W
          rw [show (Ty.S t).data.toList = t from rfl, hr'] at this
          exact this
        generalize Ty.S s = sx at HW0 HT cl ⊢
        generalize Ty.S t = tx at HW0 HT CV ⊢
        clear h h0 hf hs ht hs0 g0 hbA hbB hw0 he hlk hv hr hr'
        go_enter Try.func34, Try.ntmps34
        go_wp2_with fail
        rw [HW0.out]
        with_reducible refine cl.mono ?_
        rintro e w1 ⟨rfl, ht'⟩
        obtain ⟨hD, c0, c1, c2, _⟩ := HT.out w1 ht'
        have HD := Lib.hid hD
        clear cl ht' HT hD
        go_wp2_with fail
        with_reducible refine (CV.out _).mono ?_
        rintro e wv ⟨rfl, rfl⟩
        go_wp2
        go_ret
        exact ⟨by rw [HE.out]; rfl, by rw [HE.out]; exact HD.out⟩
  · have HE : Hid (Dk.rename d s t = (Dk.tick d, Dk.callE d)) := Lib.hid (by unfold Dk.rename; rw [if_pos he])
    have hne : ((Dk.callE d : Nat) : Int) ≠ 0 := by omega
    have hnb : (((Dk.callE d : Nat) : Int) != 0) = true := by rw [bne_iff_ne]; exact hne
    have hv : Dk.onV q d s = .tuple #[.pointer none, .int .i64 ((Dk.callE d : Nat) : Int)] := by unfold Dk.onV; rw [if_pos he]
    rw [hv] at cl
    generalize Dk.callE d = E at cl HE hnb hne
    generalize Ty.S s = sx at HW0 HT cl ⊢
    generalize Ty.S t = tx at HW0 HT ⊢
    clear h h0 hf hs ht hs0 g0 hbA hbB hw0 he hne hv
    go_enter Try.func34, Try.ntmps34
    go_wp2_with fail
    rw [HW0.out]
    with_reducible refine cl.mono ?_
    rintro e w1 ⟨rfl, ht'⟩
    have HD := Lib.hid (HT.out w1 ht').1
    clear cl ht' HT
    go_wp2
    go_ret
    exact ⟨by rw [HE.out]; rfl, by rw [HE.out]; exact HD.out⟩
end Go.Proofs.Ytfkdkdkdpenblaa

namespace Go.Proofs.Ytfkdkdkdpenblaa
open Go.RowKit Go.Maps
theorem Dk.pfold_snoc (l : Dk.Dir) (cs : List Dk.Ch) (k : Nat) (c : Dk.Ch) (h : cs[k]? = some c) : Dk.fold l (cs.take (k + 1)) = Dk.apply (Dk.fold l (cs.take k)) c := by
  obtain ⟨hk, he⟩ := List.getElem?_eq_some_iff.1 h
  rw [List.take_succ_eq_append_getElem hk, he]
  unfold Dk.fold
  rw [List.foldl_append]
  rfl
theorem Dk.Chain.at_ {n : Nat} : ∀ {l : Dk.Dir} {cs : List Dk.Ch} {e : Dk.Dir} (k : Nat) {c : Dk.Ch}, Dk.Chain n l cs e → cs[k]? = some c → Dk.Ok n (Dk.fold l (cs.take k)) c
  | _, [], _, k, c, _, h => by simp at h
  | l, c0 :: cs, _, 0, c, hc, h => by
    simp at h
    rw [← h]
    exact hc.1
  | l, c0 :: cs, _, k + 1, c, hc, h => by
    have := Dk.Chain.at_ (l := Dk.apply l c0) (cs := cs) k hc.2 (by simpa using h)
    exact this
/-- With another sure directory. -/
def Dk.sured (d : Dk.D) (l : Dk.Dir) : Dk.D := { d with sure := l }
section
variable {m : Bool} {S S' : Nat → Prop} {w w' : World} {p : Nat} {d d' : Dk.D} {H H' : Int} {q : Nat → Nat} {vb : Nat → Value} {vs : List Dk.Cls} {vN vD vP : Value} {ss rs : Bool} {sa ra : Int}
theorem Dk.PX.surely {bD : Nat} (h : Dk.PX m S w p d H q vb vs vN (.map (some bD)) vP ss sa rs ra) {l : Dk.Dir} (hm : Dk.PM w' q bD l) (ht : w.mapTurned w' bD) (hold : Dk.PM w q bD d.sure) : Dk.PX m S w' p (Dk.sured d l) H q vb vs vN (.map (some bD)) vP ss sa rs ra := by
  obtain ⟨hsz, hoth, _, _, _⟩ := Dk.turned_other ht
  obtain ⟨es, ck, hbm⟩ := hold.isMap
  have hcell : ∀ (b : Nat) (cs : Array Value) (T : TypeId) (fr : Nat × Nat), w.heap[b]? = some (.cells cs T fr) → w'.heap[b]? = w.heap[b]? := fun b cs T fr hb => hoth b (fun e => by rw [e, hbm] at hb; simp at hb)
  refine ⟨(hcell p _ _ _ h.blk).trans h.blk, h.files.other fun b cs T fr _ hb _ => hcell b cs T fr hb, ?_, h.own.other fun b cs _ hb => hcell b cs _ _ hb, h.ownS, h.chg.map fun _ _ hx => hx.other fun b cs T _ hb _ => hcell b cs T _ hb, h.stop, h.ref, h.mine, fun b hb => by rw [hsz]; exact h.alive b hb, h.made⟩
  rcases h.dirs with ⟨_, e, _⟩ | ⟨b1, b2, e1, e2, hne, h1, h2, h3, h4⟩
  · cases e
  · obtain rfl : bD = b2 := by simpa using e2
    exact .inr ⟨b1, bD, e1, rfl, hne, h1, h2, h3.same (hoth b1 hne), hm⟩
theorem Dk.PX.sureOf {bD : Nat} (h : Dk.PX m S w p d H q vb vs vN (.map (some bD)) vP ss sa rs ra) : Dk.PM w q bD d.sure := by
  rcases h.dirs with ⟨_, e, _⟩ | ⟨b1, b2, e1, e2, hne, h1, h2, h3, h4⟩
  · cases e
  · obtain rfl : bD = b2 := by simpa using e2
    exact h4
end
/-- What settle leaves. -/
def Dk.Settled (m : Bool) (S : Nat → Prop) (w : World) (p : Nat) (d : Dk.D) (n : Nat) (q : Nat → Nat) (vb : Nat → Value) (vN vD : Value) (w' : World) : Prop :=
  ∃ ss sa rs ra, Dk.PX m S w' p { d with sure := Dk.fold d.sure (d.chg.take n), chg := [] } (Dk.held d : Int) q vb [] vN vD (.slice none 0 0) ss sa rs ra ∧ Dk.Off S w w' ∧ w'.heap.size = w.heap.size
set_option maxHeartbeats 8000000 in
set_option maxRecDepth 100000 in
theorem Dk.psettle_c {m : Bool} {S : Nat → Prop} {w : World} {p : Nat} {d : Dk.D} {q : Nat → Nat} {vb : Nat → Value} {vs : List Dk.Cls} {vN vD vP : Value} {ss rs : Bool} {sa ra : Int} (h : Dk.PA m S w p d q vb vs vN vD vP ss sa rs ra) (hi : Dk.Inv d) (hdl : d.sure.length + d.chg.length ≤ 300000) (hch : ∀ c ∈ d.chg, c.a.length ≤ 1048576 ∧ c.b.length ≤ 1048576) (n : Nat) (hn : n ≤ d.chg.length) :
    Calls Try.prog 50 #[.pointer (some ⟨p, 0, none⟩), .int .i64 (n : Int)] w fun e w' => e = .returned (.tuple #[]) ∧ Dk.Settled m S w p d n q vb vN vD w' := by
  have hvl := h.chg.1
  obtain ⟨aP, cP, hvP, hcP, hPc⟩ : ∃ a c, vP = .slice a d.chg.length c ∧ d.chg.length ≤ c ∧ (0 < d.chg.length → ∃ g, a = some ⟨g, 0, none⟩) := by
    rcases h.own.form with ⟨e1, e2⟩ | ⟨g, c, e1, hc, _, _, _⟩
    · have : d.chg.length = 0 := by rw [← hvl, e2]; rfl
      exact ⟨none, 0, by rw [e1, this], by omega, fun hp => by omega⟩
    · rw [hvl] at e1 hc
      exact ⟨_, c, e1, hc, fun _ => ⟨g, rfl⟩⟩
  have hgo : ∀ g, aP = some ⟨g, 0, none⟩ → vP.ownBlock = some g := fun g e => by rw [hvP, e]; rfl
  have HOWN := Lib.hid hgo
  obtain ⟨_, _, c2, _⟩ := h.c
  have HH := Lib.hid h
  have H0 : Hid (Dk.PX m S w p (Dk.sured d (Dk.fold d.sure (d.chg.take 0))) (Dk.held d : Int) q vb vs vN vD vP ss sa rs ra) := Lib.hid (by simpa [Dk.fold, Dk.sured] using h.px)
  have HI := Lib.hid hi
  have HN := Lib.hid hn
  have HDL := Lib.hid hdl
  have HCH := Lib.hid hch
  have HPC := Lib.hid hPc
  -- a round
  have HR : Hid (∀ (k : Nat) (wr : World), k < n → Dk.PX m S wr p (Dk.sured d (Dk.fold d.sure (d.chg.take k))) (Dk.held d : Int) q vb vs vN vD vP ss sa rs ra →
      ∃ (g bD : Nat) (x : Dk.Cls) (c : Dk.Ch), aP = some ⟨g, 0, none⟩ ∧ vD = .map (some bD) ∧ wr.cell? ⟨g, k, none⟩ = some (.func (.func x.1) #[] x.2) ∧ Dk.PC S wr q d.files.length x c ∧ wr.cell? ⟨p, 1, none⟩ = some (.map (some bD)) ∧
        Calls Try.prog x.1 (#[.map (some bD)] ++ x.2) wr fun e w2 => e = .returned (.tuple #[]) ∧ Dk.PX m S w2 p (Dk.sured d (Dk.fold d.sure (d.chg.take (k + 1)))) (Dk.held d : Int) q vb vs vN vD vP ss sa rs ra ∧ Dk.Off S wr w2 ∧ w2.heap.size = wr.heap.size) := Lib.hid fun k wr hk hx => by
    have hkl : k < d.chg.length := by have := HN.out; omega
    have hkv : k < vs.length := by rw [hvl]; exact hkl
    obtain ⟨c, hc⟩ : ∃ c, d.chg[k]? = some c := ⟨_, List.getElem?_eq_getElem hkl⟩
    obtain ⟨x, hxv⟩ : ∃ x, vs[k]? = some x := ⟨_, List.getElem?_eq_getElem hkv⟩
    obtain ⟨g, hg⟩ := HPC.out (by omega)
    obtain ⟨bD, rfl⟩ : ∃ bD, vD = .map (some bD) := by
      rcases hx.dirs with ⟨e, _⟩ | ⟨_, b2, _, e2, _⟩
      · have := hx.made e
        rw [this] at hkv; simp at hkv
      · exact ⟨b2, e2⟩
    have hpc := hx.chg.2 k x c hxv hc
    have hcell := Dk.Own.cell Dk.encV_len hx.own (HOWN.out g hg) hxv (j := 0) (by omega)
    rw [Nat.mul_one, Nat.add_zero] at hcell
    have hsure := hx.sureOf
    have hlen := Dk.len_fold (d.chg.take k) d.sure
    rw [List.length_take] at hlen
    have hmem := HCH.out c (List.mem_of_getElem? hc)
    have hok := HI.out.chain.at_ k hc
    have hwell : Dk.Well d.files.length (Dk.fold d.sure (d.chg.take k)) := (HI.out.chain.take k).well HI.out.well
    refine ⟨g, bD, x, c, hg, rfl, hcell, hpc, hx.c.2.1, (Dk.cls_c hpc hsure hwell (by show (Dk.fold d.sure (d.chg.take k)).length ≤ _; have := HDL.out; omega) hok hmem.1 hmem.2).mono ?_⟩
    rintro e w2 ⟨he, hm2, ht2⟩
    have h2 := hx.surely hm2 ht2 hsure
    obtain ⟨hsz, hoth, hos, htp, hou⟩ := Dk.turned_other ht2
    have hbS : S bD := by
      rcases hx.dirs with ⟨_, e, _⟩ | ⟨b1, b2, e1, e2, hne, h1, h2, h3, h4⟩
      · cases e
      · obtain rfl : bD = b2 := by simpa using e2
        exact h2
    refine ⟨he, ?_, ⟨hos, htp, hou, by omega, fun b _ hn => hoth b (fun e => hn (by rw [e]; exact hbS))⟩, hsz⟩
    rw [Dk.pfold_snoc _ _ _ _ hc]
    exact h2
  have HEND : Hid (∀ (wr : World), Dk.PX m S wr p (Dk.sured d (Dk.fold d.sure (d.chg.take n))) (Dk.held d : Int) q vb vs vN vD vP ss sa rs ra → Dk.Off S w wr → wr.heap.size = w.heap.size → (wr.cell? ⟨p, 2, none⟩ = some vP ∧ wr.frozen? ⟨p, 2, none⟩ = false) ∧ Dk.Settled m S w p d n q vb vN vD (wr.setCell ⟨p, 2, none⟩ (.slice none 0 0))) := Lib.hid fun wr hx ho hs => by
    refine ⟨⟨hx.c.2.2, hx.fz 2⟩, ss, sa, rs, ra, ?_⟩
    have hr : Dk.Row wr (wr.setCell ⟨p, 2, none⟩ (.slice none 0 0)) p (Dk.pcells vN vD (.slice none 0 0) d.room (Dk.held d : Int) ss sa rs ra) 62 := (Dk.Row.refl hx.blk).set 2 (.slice none 0 0) rfl
    exact ⟨hx.row (d' := { d with sure := Dk.fold d.sure (d.chg.take n), chg := [] }) hr rfl hx.dirs (Dk.Own.nil _ _) (by simp [Value.ownBlock]) Dk.PCs.nil hx.stop hx.ref (fun _ => rfl), ho.same (hr.off hx.mine), by simpa using hs⟩
  subst hvP
  have hn0 : (0 : Int) ≤ (n : Int) := by omega
  have hnc : (n : Int) ≤ (cP : Int) := by omega
  have hn3 : (n : Int) ≤ 300000 := by omega
  have hncl : (n : Int) ≤ (d.chg.length : Int) := by omega
  obtain ⟨L, hL⟩ : ∃ L, L = d.chg.length := ⟨_, rfl⟩
  rw [← hL] at c2 hncl
  clear h hi hdl hch hn hvl hcP hPc hgo
  go_enter Try.func50, Try.ntmps50
  go_wp2_with fail
  go_loopw [5, 13] (fun _ i wr => ∃ k : Nat, k ≤ n ∧ i = .int .i64 k ∧ Dk.PX m S wr p (Dk.sured d (Dk.fold d.sure (d.chg.take k))) (Dk.held d : Int) q vb vs vN vD (.slice aP d.chg.length cP) ss sa rs ra ∧ Dk.Off S w wr ∧ wr.heap.size = w.heap.size) (fun _ i _ => n - (intOf i).toNat)
  case atStart => exact ⟨0, Nat.zero_le _, rfl, H0.out, Dk.Off.refl _ _, rfl⟩
  case round =>
    obtain ⟨k, hk, rfl, hx, ho, hsz⟩ := hrel
    have hk0 : (0 : Int) ≤ (k : Int) := by omega
    by_cases hkn : k < n
    · have hkl : (k : Int) < (n : Int) := by omega
      have hkm : (k : Int) < 9223372036854775807 := by omega
      obtain ⟨g, bD, x, c, rfl, rfl, cg, hpc, c1, cc⟩ := HR.out k wr hkn hx
      have HO := Lib.hid ho
      have HSZ := Lib.hid hsz
      clear hx ho hsz c2
      rcases hpc with ⟨hb, ba, bb, rfl, _⟩ | ⟨hb, hf2, ba, rfl, _⟩ | ⟨hb, hf2, _, bf, ba, rfl, _⟩
      · have c3 : Calls Try.prog 61 #[.map (some bD), .pointer (some ⟨ba, 0, none⟩), .pointer (some ⟨bb, 0, none⟩)] wr _ := cc
        clear cc hb
        go_wp2_with fail
        with_reducible refine c3.mono ?_
        rintro e w2 ⟨rfl, h2, o2, s2⟩
        have H2 := Lib.hid h2
        have HO2 := Lib.hid (HO.out.same o2)
        have HS2 := Lib.hid (s2.trans HSZ.out)
        clear c3 h2 o2 s2 HR HEND
        go_wp2
        go_roundw
        case rel => exact ⟨k + 1, by omega, by simp, H2.out, HO2.out, HS2.out⟩
        case measure => simp [intOf]; omega
      · have c3 : Calls Try.prog 62 #[.map (some bD), .pointer (some ⟨ba, 0, none⟩)] wr _ := cc
        clear cc hb
        go_wp2_with fail
        with_reducible refine c3.mono ?_
        rintro e w2 ⟨rfl, h2, o2, s2⟩
        have H2 := Lib.hid h2
        have HO2 := Lib.hid (HO.out.same o2)
        have HS2 := Lib.hid (s2.trans HSZ.out)
        clear c3 h2 o2 s2 HR HEND
        go_wp2
        go_roundw
        case rel => exact ⟨k + 1, by omega, by simp, H2.out, HO2.out, HS2.out⟩
        case measure => simp [intOf]; omega
      · have c3 : Calls Try.prog 59 #[.map (some bD), .pointer (some ⟨bf, 0, none⟩), .pointer (some ⟨ba, 0, none⟩)] wr _ := cc
        clear cc hb
        go_wp2_with fail
        with_reducible refine c3.mono ?_
        rintro e w2 ⟨rfl, h2, o2, s2⟩
        have H2 := Lib.hid h2
        have HO2 := Lib.hid (HO.out.same o2)
        have HS2 := Lib.hid (s2.trans HSZ.out)
        clear c3 h2 o2 s2 HR HEND
        go_wp2
        go_roundw
        case rel => exact ⟨k + 1, by omega, by simp, H2.out, HO2.out, HS2.out⟩
        case measure => simp [intOf]; omega
    · obtain rfl : k = n := by omega
      have hkl : ¬ (k : Int) < (k : Int) := by omega
      obtain ⟨⟨c2, f2⟩, hd⟩ := HEND.out wr hx ho hsz
      have HD := Lib.hid hd
      clear hx ho hsz hd HR
      go_wp2
      go_end0
      exact ⟨rfl, HD.out⟩
set_option maxHeartbeats 4000000 in
set_option maxRecDepth 100000 in
theorem Dk.psyncdirM_c {m : Bool} {S : Nat → Prop} {p : Nat} {d : Dk.D} {w : World} (h : Dk.PAtM m S w p d) (hf : Dk.Fit d) :
    Calls Try.prog 30 #[.pointer (some ⟨p, 0, none⟩)] w fun e w' => e = .returned (.int .i64 (((Dk.syncDir d).2 : Nat) : Int)) ∧ Dk.PDidM m S w p (Dk.syncDir d).1 w' := by
  obtain ⟨q, vb, vs, vN, vD, vP, ss, sa, rs, ra, h⟩ := h
  have cl := Dk.pcall_c h (by have := hf.sz.calls; omega)
  have HT : Hid (∀ w1, Dk.Ticked m S w p d q vb vs vN vD vP w1 → Dk.PDidM m S w p (Dk.tick d) w1 ∧ (∃ a c, w1.cell? ⟨p, 2, none⟩ = some (.slice a d.chg.length c)) ∧
      Calls Try.prog 50 #[.pointer (some ⟨p, 0, none⟩), .int .i64 (d.chg.length : Int)] w1 fun e w' => e = .returned (.tuple #[]) ∧ (Dk.callE d = 0 → Dk.PDidM m S w p (Dk.syncDir d).1 w')) := Lib.hid fun w1 ht => by
    obtain ⟨ss', sa', rs', ra', h1, hr⟩ := ht
    have hdd := h1.didRow hr
    refine ⟨hdd, ?_, ?_⟩
    · obtain ⟨_, _, c2, _⟩ := h1.c
      have hl9 : vs.length = d.chg.length := h1.chg.1
      rw [c2, ← hl9]
      rcases h1.own.form with ⟨e1, e2⟩ | ⟨g, c, e1, _⟩
      · exact ⟨none, 0, by rw [e1, e2]; rfl⟩
      · exact ⟨_, c, by rw [e1]⟩
    · have hi := hf.inv.tick
      refine (Dk.psettle_c h1 hi (by have := hf.sz.dirs; show d.sure.length + d.chg.length ≤ _; omega) hf.chg d.chg.length (Nat.le_refl _)).mono ?_
      rintro e w' ⟨he, hs⟩
      refine ⟨he, fun hc => ?_⟩
      obtain ⟨s1, s2, s3, s4, hx, ho, _⟩ := hs
      have e1 : Dk.fold (Dk.tick d).sure ((Dk.tick d).chg.take d.chg.length) = d.dir := by
        show Dk.fold d.sure (d.chg.take d.chg.length) = d.dir
        rw [List.take_length]
        exact hf.inv.chain.fold.symm
      rw [e1] at hx
      have e2 : (Dk.syncDir d).1 = { Dk.tick d with sure := d.dir, chg := [] } := by unfold Dk.syncDir; rw [if_neg (by simpa using hc)]
      rw [e2]
      exact Dk.PDidM.of (hx.pa rfl).at_ ((hr.off h1.mine).same ho)
  clear h hf
  by_cases he : Dk.callE d = 0
  · have HE : Hid ((Dk.syncDir d).2 = 0) := Lib.hid (by unfold Dk.syncDir; rw [if_neg (by simpa using he)])
    have HZ := Lib.hid he
    rw [he] at cl
    clear he
    go_enter Try.func30, Try.ntmps30
    go_wp2_with fail
    with_reducible refine cl.mono ?_
    rintro e w1 ⟨rfl, ht⟩
    obtain ⟨_, ⟨a, c, c2⟩, cc⟩ := HT.out w1 ht
    clear cl ht HT
    go_wp2_with fail
    with_reducible refine cc.mono ?_
    rintro e w2 ⟨rfl, hd⟩
    have HD := Lib.hid (hd HZ.out)
    clear cc hd c2
    go_wp2
    go_ret
    exact ⟨by rw [HE.out]; rfl, HD.out⟩
  · have HE : Hid (Dk.syncDir d = (Dk.tick d, Dk.callE d)) := Lib.hid (by unfold Dk.syncDir; rw [if_pos he])
    have hne : ((Dk.callE d : Nat) : Int) ≠ 0 := by omega
    have hnb : (((Dk.callE d : Nat) : Int) != 0) = true := by rw [bne_iff_ne]; exact hne
    generalize Dk.callE d = E at cl HE hnb hne HT
    clear he hne
    go_enter Try.func30, Try.ntmps30
    go_wp2_with fail
    with_reducible refine cl.mono ?_
    rintro e w1 ⟨rfl, ht⟩
    have HD := Lib.hid (HT.out w1 ht).1
    clear cl ht HT
    go_wp2
    go_ret
    exact ⟨by rw [HE.out]; rfl, by rw [HE.out]; exact HD.out⟩
end Go.Proofs.Ytfkdkdkdpenblaa
