/-
  The developers' disk: Create.
  The developers' disk: Remove.
-/
import Derived.Test.YtfkdkdkdpenblaaVU
namespace Go.Proofs.Ytfkdkdkdpenblaa
open Go.RowKit Go.Maps
set_option maxHeartbeats 4000000 in
set_option maxRecDepth 100000 in
theorem Dk.pcreateM_c {m : Bool} {S : Nat → Prop} {p : Nat} {d : Dk.D} {w : World} (h : Dk.PAtM m S w p d) (hf : Dk.Fit d) (s : Dk.Str) (hs : s.length ≤ 1048576) :
    Calls Try.prog 25 #[.pointer (some ⟨p, 0, none⟩), .string (Ty.S s)] w fun e w' => e = .returned (.int .i64 (((Dk.create d s).2 : Nat) : Int)) ∧ Dk.PDidM m S w p (Dk.create d s).1 w' := by
  obtain ⟨q, vb, vs, vN, vD, vP, ss, sa, rs, ra, h⟩ := h
  obtain ⟨w0, hw0⟩ : ∃ w0, w0 = w.alloc (.cells #[.string (Ty.S s)] 9) := ⟨_, rfl⟩
  have hs0 : w0.heap.size = w.heap.size + 1 := by rw [hw0]; simp
  have g0 : Below w.heap.size w w0 := by rw [hw0]; exact (Below.refl _ w).alloc (Nat.le_refl _) _
  have hbox : w0.heap[w.heap.size]? = some (.cells #[.string (Ty.S s)] 9 (0, 0)) := by rw [hw0]; exact heap_alloc_new w _
  have O0 : Hid (Dk.Off S w w0) := Lib.hid (Dk.Off.of_below g0)
  have HAL := Lib.hid h.alive
  have h0 := (h.same g0.size fun b hb => g0.block b (h.alive b hb)).mono (S' := Dk.More S w w0) (fun _ hb => .inl hb) (Dk.more_alive h.alive g0.size)
  have HMine : Hid (Dk.More S w w0 w.heap.size) := Lib.hid (.inr ⟨Nat.le_refl _, by omega⟩)
  have cl := Dk.pcall_c h0 (by have := hf.sz.calls; omega)
  have HT : Hid (∀ w1, Dk.Ticked m (Dk.More S w w0) w0 p d q vb vs vN vD vP w1 → Dk.PDidM m S w p (Dk.tick d) w1 ∧ w1.cell? ⟨w.heap.size, 0, none⟩ = some (.string (Ty.S s)) ∧ w1.cell? ⟨p, 0, none⟩ = some vN) := Lib.hid fun w1 ht => by
    obtain ⟨_, _, _, _, h1, hr⟩ := ht
    refine ⟨Dk.PDidM.behind O0.out HAL.out (h1.didRow hr), ?_, h1.c.1⟩
    have hb := (hr.other w.heap.size (by have := h.lt; omega)).trans hbox
    rw [cell_of_row w1 _ _ _ _ _ hb]; rfl
  have hfit := Lib.hid hf
  have HW0 : Hid (w.alloc (.cells #[.string (Ty.S s)] 9) = w0) := Lib.hid hw0.symm
  have HBX := Lib.hid hbox
  by_cases he : Dk.callE d = 0
  · rw [he] at cl
    by_cases hr : Dk.right s = true
    · have CV : Hid (∀ W, Calls Try.prog 56 #[.string (Ty.S s)] W fun e w' => e = .returned (.bool true) ∧ w' = W) := Lib.hid fun W => by
        have := Dk.pvalid_c (Ty.S s) (by rw [Tx.S_size]; omega) W
        rw [show (Ty.S s).data.toList = s from rfl, hr] at this
        exact this
      have HL : Hid (∀ w1, Dk.Ticked m (Dk.More S w w0) w0 p d q vb vs vN vD vP w1 → (Instr.lookup 57 vN (.string (Ty.S s)) false).run Try.prog w1.drew = .ok (Dk.ptrOf q (Dk.look d.dir s)) w1.drew) := Lib.hid fun w1 ht => by
        obtain ⟨_, _, _, _, h1, _⟩ := ht
        exact (h1.same (w' := w1.drew) (Nat.le_refl _) fun _ _ => rfl).dirs.look s (by omega)
      cases hlk : Dk.look d.dir s with
      | none =>
        have HE : Hid (Dk.create d s = (Dk.change (Dk.grow (Dk.tick d)) ⟨s, [], (d.files.length : Int)⟩, 0)) := Lib.hid (by unfold Dk.create; rw [if_neg (by simpa using he), if_neg (by rw [hr, hlk]; simp)])
        have CC : Hid (∀ W, Calls Try.prog 57 #[.string (Ty.S s)] W fun e w' => e = .returned (.string (Ty.S s)) ∧ Below W.heap.size W w') := Lib.hid fun W => Tx.clone_c (Ty.S s) W (by rw [Tx.S_size]; omega)
        -- behind the clone: the box holds the text still
        have HB : Hid (∀ w1 w2, Dk.Ticked m (Dk.More S w w0) w0 p d q vb vs vN vD vP w1 → Below w1.heap.size w1.drew w2 → (w2.cell? ⟨w.heap.size, 0, none⟩ = some (.string (Ty.S s)) ∧ w2.frozen? ⟨w.heap.size, 0, none⟩ = false) ∧
            ∀ w3, w3 = w2.setCell ⟨w.heap.size, 0, none⟩ (.string (Ty.S s)) → ∀ w4, w4 = (w3.alloc (.cells #[.slice none 0 0, .int .i64 0] 75)).alloc (.cells #[.pointer (some ⟨w3.heap.size, 0, none⟩)] 72) →
              Calls Try.prog 58 #[.pointer (some ⟨p, 0, none⟩), .func (.func 59) #[] #[.pointer (some ⟨w3.heap.size + 1, 0, none⟩), .pointer (some ⟨w.heap.size, 0, none⟩)]] w4 fun e w' => e = .returned (.tuple #[]) ∧
                Dk.PDidM m S w p (Dk.change (Dk.grow (Dk.tick d)) ⟨s, [], (d.files.length : Int)⟩) w') := Lib.hid fun w1 w2 ht hb2 => by
          obtain ⟨ss', sa', rs', ra', h1, hrow⟩ := ht
          have hbx1 := (hrow.other w.heap.size (by have := h.lt; omega)).trans hbox
          have hbx2 : w2.heap[w.heap.size]? = some (.cells #[.string (Ty.S s)] 9 (0, 0)) := (hb2.block _ (lt_of_block hbx1)).trans hbx1
          refine ⟨⟨by rw [cell_of_row w2 _ _ _ _ _ hbx2]; rfl, frozen_of_row w2 _ _ _ _ hbx2⟩, fun w3 hw3 w4 hw4 => ?_⟩
          have hs3 : w3.heap.size = w2.heap.size := by rw [hw3]; simp
          have hbx3 : w3.heap[w.heap.size]? = some (.cells #[.string (Ty.S s)] 9 (0, 0)) := by rw [hw3, heap_setCell_same w2 _ 0 _ _ _ hbx2]; rfl
          have hs12 : w1.heap.size ≤ w3.heap.size := by rw [hs3]; exact hb2.size
          have hk3 : ∀ b, b < w1.heap.size → w3.heap[b]? = w1.heap[b]? := fun b hb => by
            by_cases e : b = w.heap.size
            · rw [e, hbx3, hbx1]
            · rw [hw3]; exact (Below.heap_setCell _ _ _ _ e).trans (hb2.block b hb)
          have h3 := h1.same hs12 fun b hb => hk3 b (h1.alive b hb)
          have o3 : Dk.Off (Dk.More S w w0) w0 w3 := (hrow.off h1.mine).same ⟨by rw [hw3]; exact hb2.os, by rw [hw3]; exact hb2.tape, by rw [hw3]; exact hb2.output, hs12, fun k hk _ => hk3 k hk⟩
          have hi := hfit.out.inv
          obtain ⟨h4, o4, f4, hs4⟩ := h3.px.grown hi.dir hi.well hw4
          have hcl := hfit.out.sz.dirs
          have hdl := hfit.out.sz.dir hi
          have hgf : (Dk.grow (Dk.tick d)).files.length = d.files.length + 1 := by show (d.files ++ [(([] : Dk.Str), 0)]).length = _; simp
          have hbx4 : w4.heap[w.heap.size]? = some (.cells #[.string (Ty.S s)] 9 (0, 0)) := by
            rw [hw4]
            have hlt := lt_of_block hbx3
            exact (Below.heap_alloc _ _ _ (by rw [World.size_alloc]; omega)).trans ((Below.heap_alloc _ _ _ hlt).trans hbx3)
          have hpc : Dk.PC (Dk.More (Dk.More S w w0) w3 w4) w4 (fun f => if f = (Dk.tick d).files.length then w3.heap.size else q f) (Dk.grow (Dk.tick d)).files.length (59, #[.pointer (some ⟨w3.heap.size + 1, 0, none⟩), .pointer (some ⟨w.heap.size, 0, none⟩)]) ⟨s, [], (d.files.length : Int)⟩ := by
            refine .inr (.inr ⟨rfl, by show (0 : Int) ≤ (d.files.length : Int); omega, by rw [hgf]; show (d.files.length : Int).toNat < _; omega, _, _, rfl, ⟨.inr ⟨by omega, by omega⟩, ?_⟩, ⟨.inl HMine.out, hbx4⟩⟩)
            rw [f4]
            have : (fun f => if f = (Dk.tick d).files.length then w3.heap.size else q f) ((⟨s, [], (d.files.length : Int)⟩ : Dk.Ch).f.toNat) = w3.heap.size := by
              show (if (d.files.length : Int).toNat = d.files.length then w3.heap.size else _) = _
              rw [if_pos (by omega)]
            rw [this]
          have hok : Dk.Ok (Dk.grow (Dk.tick d)).files.length (Dk.grow (Dk.tick d)).dir ⟨s, [], (d.files.length : Int)⟩ := by
            unfold Dk.Ok
            rw [if_neg (by simp), if_neg (by show ¬ (d.files.length : Int) < 0; omega)]
            refine ⟨hlk, by rw [hgf]; show (d.files.length : Int).toNat < _; omega, fun y hy e => ?_⟩
            have := hi.dir.lim y hy
            have e2 : y.2 = (d.files.length : Int).toNat := e
            omega
          refine (Dk.pchange3_c h4 (by rw [hgf]; exact hi.dir.mono (Nat.le_succ _)) (by show d.dir.length ≤ _; omega) (by show d.chg.length ≤ _; omega) _ _ _ hpc hok hs (Nat.zero_le _)).mono ?_
          rintro e w' ⟨he, hch⟩
          have hd := hch.did (by rw [Dk.held_create hi hlk]; rfl)
          exact ⟨he, Dk.PDidM.behind O0.out HAL.out (Dk.PDidM.after o3 (Dk.PDidM.behind o4 h3.alive hd))⟩
        rw [hlk] at HL
        unfold Dk.ptrOf at HL
        simp only at HL
        generalize Ty.S s = sx at HW0 HT HBX CV HL CC HB ⊢
        clear h h0 hf hs hs0 g0 hbox hw0 hr he hlk
        go_enter Try.func25, Try.ntmps25
        go_wp2_with fail
        rw [HW0.out]
        with_reducible refine cl.mono ?_
        rintro e w1 ⟨rfl, ht⟩
        obtain ⟨_, c1, c2⟩ := HT.out w1 ht
        have hl := HL.out w1 ht
        have HBB := Lib.hid (HB.out w1 · ht)
        clear cl ht HT HB
        go_wp2_with fail
        go_region_law (first
          | (go_simp; go_at_call 56; (with_reducible refine (CV.out _).mono ?_); rintro e wv ⟨rfl, rfl⟩))
        all_goals
          go_wp2_with fail
          with_reducible refine (CC.out _).mono ?_
          rintro e w2 ⟨rfl, hb2⟩
          obtain ⟨⟨b0, bf⟩, hK⟩ := HBB.out w2 hb2
          have HK := Lib.hid hK
          clear hb2 hK HBB hl c1 c2
          go_upto_region 7 with (fail)
          generalize hw3 : World.setCell w2 _ _ = w3
          have HK3 := Lib.hid (HK.out w3 hw3.symm)
          clear hw3 HK b0 bf
          go_upto_region 8 with (fail)
          generalize hw4 : World.alloc (World.alloc w3 _) _ = w4
          have hcc := HK3.out w4 hw4.symm
          clear hw4 HK3
          go_wp2_with fail
          with_reducible refine hcc.mono ?_
          rintro e w5 ⟨rfl, hd5⟩
          have HD := Lib.hid hd5
          clear hcc hd5
          go_wp2
          go_ret
          exact ⟨by rw [HE.out]; rfl, by rw [HE.out]; exact HD.out⟩
      | some f =>
        have HE : Hid (Dk.create d s = (Dk.tick d, 12)) := Lib.hid (by unfold Dk.create; rw [if_neg (by simpa using he), if_pos (.inr (by rw [hlk]; simp))])
        rw [hlk] at HL
        unfold Dk.ptrOf at HL
        simp only at HL
        generalize Ty.S s = sx at HW0 HT HBX CV HL ⊢
        clear h h0 hf hs hs0 g0 hbox hw0 hr he hlk
        go_enter Try.func25, Try.ntmps25
        go_wp2_with fail
        rw [HW0.out]
        with_reducible refine cl.mono ?_
        rintro e w1 ⟨rfl, ht⟩
        obtain ⟨hD, c1, c2⟩ := HT.out w1 ht
        have hl := HL.out w1 ht
        have HD := Lib.hid hD.drew
        clear cl ht HT hD
        go_wp2_with fail
        go_region_law (first
          | (go_simp; go_at_call 56; (with_reducible refine (CV.out _).mono ?_); rintro e wv ⟨rfl, rfl⟩))
        all_goals
          go_wp2
          go_ret
          exact ⟨by rw [HE.out]; rfl, by rw [HE.out]; exact HD.out⟩
    · have hr' : Dk.right s = false := by simpa using hr
      have HE : Hid (Dk.create d s = (Dk.tick d, 12)) := Lib.hid (by unfold Dk.create; rw [if_neg (by simpa using he), if_pos (.inl hr')])
      have CV : Hid (∀ W, Calls Try.prog 56 #[.string (Ty.S s)] W fun e w' => e = .returned (.bool false) ∧ w' = W) := Lib.hid fun W => by
        have := Dk.pvalid_c (Ty.S s) (by rw [Tx.S_size]; omega) W
        rw [show (Ty.S s).data.toList = s from rfl, hr'] at this
        exact this
      generalize Ty.S s = sx at HW0 HT HBX CV ⊢
      clear h h0 hf hs hs0 g0 hbox hw0 hr hr' he
      go_enter Try.func25, Try.ntmps25
      go_wp2_with fail
      rw [HW0.out]
      with_reducible refine cl.mono ?_
      rintro e w1 ⟨rfl, ht⟩
      obtain ⟨hD, c1, c2⟩ := HT.out w1 ht
      have HD := Lib.hid hD
      clear cl ht HT hD
      go_wp2_with fail
      go_quiet ((go_at_call 56; exact Calls.quiet_of_same (CV.out _)))
      go_wp2
      go_ret
      exact ⟨by rw [HE.out]; rfl, by rw [HE.out]; exact HD.out.below (Bt.drewN_below _ _)⟩
  · have HE : Hid (Dk.create d s = (Dk.tick d, Dk.callE d)) := Lib.hid (by unfold Dk.create; rw [if_pos he])
    have hne : ((Dk.callE d : Nat) : Int) ≠ 0 := by omega
    have hnb : (((Dk.callE d : Nat) : Int) != 0) = true := by rw [bne_iff_ne]; exact hne
    generalize Dk.callE d = E at cl HE hnb hne
    generalize Ty.S s = sx at HW0 HT HBX ⊢
    clear h h0 hf hs hs0 g0 hbox hw0 he hne
    go_enter Try.func25, Try.ntmps25
    go_wp2_with fail
    rw [HW0.out]
    with_reducible refine cl.mono ?_
    rintro e w1 ⟨rfl, ht⟩
    obtain ⟨hD, _, _⟩ := HT.out w1 ht
    have HD := Lib.hid hD
    clear cl ht HT hD
    go_wp2
    go_ret
    exact ⟨by rw [HE.out]; rfl, by rw [HE.out]; exact HD.out⟩
end Go.Proofs.Ytfkdkdkdpenblaa

namespace Go.Proofs.Ytfkdkdkdpenblaa
open Go.RowKit Go.Maps
/-- The held bytes turned: still the disk, but for them. -/
theorem Dk.PA.heldRow {m : Bool} {S : Nat → Prop} {w w' : World} {p : Nat} {d : Dk.D} {q : Nat → Nat} {vb : Nat → Value} {vs : List Dk.Cls} {vN vD vP : Value} {ss rs : Bool} {sa ra : Int} (h : Dk.PA m S w p d q vb vs vN vD vP ss sa rs ra) (H : Int) (hw : w' = w.setCell ⟨p, 4, none⟩ (.int .i64 H)) :
    Dk.PX m S w' p d H q vb vs vN vD vP ss sa rs ra ∧ Dk.Off S w w' ∧ w'.heap.size = w.heap.size ∧ ∀ b, b ≠ p → w'.heap[b]? = w.heap[b]? := by
  have hr : Dk.Row w w' p (Dk.pcells vN vD vP d.room H ss sa rs ra) 62 := by
    rw [hw]
    exact (Dk.Row.refl h.blk).set 4 (.int .i64 H) rfl
  exact ⟨h.px.row (d' := d) hr rfl h.dirs h.own h.ownS h.chg h.stop h.ref h.made, hr.off h.mine, hr.size, hr.other⟩
set_option maxHeartbeats 4000000 in
set_option maxRecDepth 100000 in
theorem Dk.premoveM_c {m : Bool} {S : Nat → Prop} {p : Nat} {d : Dk.D} {w : World} (h : Dk.PAtM m S w p d) (hf : Dk.Fit d) (s : Dk.Str) (hs : s.length ≤ 1048576) :
    Calls Try.prog 35 #[.pointer (some ⟨p, 0, none⟩), .string (Ty.S s)] w fun e w' => e = .returned (.int .i64 (((Dk.remove d s).2 : Nat) : Int)) ∧ Dk.PDidM m S w p (Dk.remove d s).1 w' := by
  obtain ⟨q, vb, vs, vN, vD, vP, ss, sa, rs, ra, h⟩ := h
  obtain ⟨w0, hw0⟩ : ∃ w0, w0 = w.alloc (.cells #[.string (Ty.S s)] 9) := ⟨_, rfl⟩
  have hs0 : w0.heap.size = w.heap.size + 1 := by rw [hw0]; simp
  have g0 : Below w.heap.size w w0 := by rw [hw0]; exact (Below.refl _ w).alloc (Nat.le_refl _) _
  have hbox : w0.heap[w.heap.size]? = some (.cells #[.string (Ty.S s)] 9 (0, 0)) := by rw [hw0]; exact heap_alloc_new w _
  have O0 : Hid (Dk.Off S w w0) := Lib.hid (Dk.Off.of_below g0)
  have HAL := Lib.hid h.alive
  have h0 := (h.same g0.size fun b hb => g0.block b (h.alive b hb)).mono (S' := Dk.More S w w0) (fun _ hb => .inl hb) (Dk.more_alive h.alive g0.size)
  have HMine : Hid (Dk.More S w w0 w.heap.size) := Lib.hid (.inr ⟨Nat.le_refl _, by omega⟩)
  have cl := Dk.pcallOn_c h0 (by have := hf.sz.calls; omega) s (by omega)
  have HT : Hid (∀ w1, Dk.Ticked m (Dk.More S w w0) w0 p d q vb vs vN vD vP w1 → Dk.PDidM m S w p (Dk.tick d) w1) := Lib.hid fun w1 ht => by
    obtain ⟨_, _, _, _, h1, hr⟩ := ht
    exact Dk.PDidM.behind O0.out HAL.out (h1.didRow hr)
  have hfit := Lib.hid hf
  have HW0 : Hid (w.alloc (.cells #[.string (Ty.S s)] 9) = w0) := Lib.hid hw0.symm
  by_cases he : Dk.callE d = 0
  · cases hlk : Dk.look d.dir s with
    | none =>
      have HE : Hid (Dk.remove d s = (Dk.tick d, 12)) := Lib.hid (by unfold Dk.remove; rw [if_neg (by simpa using he), if_pos hlk])
      have hv : Dk.onV q d s = .tuple #[.pointer none, .int .i64 12] := by unfold Dk.onV; rw [if_neg (by simpa using he), hlk]
      rw [hv] at cl
      generalize Ty.S s = sx at HW0 cl ⊢
      clear h h0 hf hs hs0 g0 hbox hw0 he hlk hv
      go_enter Try.func35, Try.ntmps35
      go_wp2_with fail
      rw [HW0.out]
      with_reducible refine cl.mono ?_
      rintro e w1 ⟨rfl, ht⟩
      have HD := Lib.hid (HT.out w1 ht)
      clear cl ht HT
      go_wp2
      go_ret
      exact ⟨by rw [HE.out]; rfl, by rw [HE.out]; exact HD.out⟩
    | some f =>
      have HE : Hid (Dk.remove d s = (Dk.change (Dk.tick d) ⟨s, [], -1⟩, 0)) := Lib.hid (by unfold Dk.remove; rw [if_neg (by simpa using he), if_neg (by rw [hlk]; simp)])
      have hv : Dk.onV q d s = .tuple #[.pointer (some ⟨q f, 0, none⟩), .int .i64 0] := by unfold Dk.onV; rw [if_neg (by simpa using he), hlk]
      rw [hv] at cl
      have CC : Hid (∀ W, Calls Try.prog 57 #[.string (Ty.S s)] W fun e w' => e = .returned (.string (Ty.S s)) ∧ Below W.heap.size W w') := Lib.hid fun W => Tx.clone_c (Ty.S s) W (by rw [Tx.S_size]; omega)
      have hheld := Dk.held_remove hf.inv hlk
      have hhd : Dk.held d ≤ 1000000000000 := by have := hf.inv.held; have := hf.sz.bytes; omega
      obtain ⟨z, hz⟩ : ∃ z, z = (Dk.file d.files f).1.length := ⟨_, rfl⟩
      obtain ⟨hd, hhde⟩ : ∃ hd, hd = Dk.held d := ⟨_, rfl⟩
      rw [← hz, ← hhde] at hheld
      rw [← hhde] at hhd
      have hw1 : IntKind.i64.wrap ((hd : Int) - (z : Int)) = (hd : Int) - (z : Int) := by rw [IntKind.wrap_i64]; omega
      have HX : Hid (∀ w1, Dk.Ticked m (Dk.More S w w0) w0 p d q vb vs vN vD vP w1 → (w1.cell? ⟨p, 4, none⟩ = some (.int .i64 (hd : Int)) ∧ w1.frozen? ⟨p, 4, none⟩ = false ∧ ∃ a c, w1.cell? ⟨q f, 0, none⟩ = some (.slice a z c)) ∧
          ∀ w2, w2 = (w1.setCell ⟨p, 4, none⟩ (.int .i64 ((hd : Int) - (z : Int)))).drew → w2.cell? ⟨w.heap.size, 0, none⟩ = some (.string (Ty.S s)) ∧
            ∀ w3, Below w2.heap.size w2 w3 → (w3.cell? ⟨w.heap.size, 0, none⟩ = some (.string (Ty.S s)) ∧ w3.frozen? ⟨w.heap.size, 0, none⟩ = false) ∧
              ∀ w4, w4 = w3.setCell ⟨w.heap.size, 0, none⟩ (.string (Ty.S s)) →
                Calls Try.prog 58 #[.pointer (some ⟨p, 0, none⟩), .func (.func 62) #[] #[.pointer (some ⟨w.heap.size, 0, none⟩)]] w4 fun e w' => e = .returned (.tuple #[]) ∧
                  Dk.PDidM m S w p (Dk.change (Dk.tick d) ⟨s, [], -1⟩) w') := Lib.hid fun w1 ht => by
        obtain ⟨ss', sa', rs', ra', h1, hrow⟩ := ht
        have hi := hfit.out.inv
        have hlt : f < (Dk.tick d).files.length := hi.dirlt hlk
        obtain ⟨_, _, _, _, c4, _⟩ := h1.c
        obtain ⟨k0, _⟩ := h1.files.cells hlt
        obtain ⟨a, c, hva, _⟩ := (h1.files.bytes f hlt).is
        have hbx1 := (hrow.other w.heap.size (by have := h.lt; omega)).trans hbox
        refine ⟨⟨by rw [c4, hhde]; rfl, h1.fz 4, a, c, by rw [k0, hva, hz]; rfl⟩, fun w2 hw2 => ?_⟩
        have h1d := h1.same (w' := w1.drew) (Nat.le_refl _) fun _ _ => rfl
        obtain ⟨h2, o2, hs2, ho2⟩ := h1d.heldRow ((hd : Int) - (z : Int)) (hw2.trans rfl)
        have hpn : w.heap.size ≠ p := by have := h.lt; omega
        have hbx2 : w2.heap[w.heap.size]? = some (.cells #[.string (Ty.S s)] 9 (0, 0)) := (ho2 _ hpn).trans hbx1
        refine ⟨by rw [cell_of_row w2 _ _ _ _ _ hbx2]; rfl, fun w3 hb3 => ?_⟩
        have hbx3 : w3.heap[w.heap.size]? = some (.cells #[.string (Ty.S s)] 9 (0, 0)) := (hb3.block _ (lt_of_block hbx2)).trans hbx2
        refine ⟨⟨by rw [cell_of_row w3 _ _ _ _ _ hbx3]; rfl, frozen_of_row w3 _ _ _ _ hbx3⟩, fun w4 hw4 => ?_⟩
        have hbx4 : w4.heap[w.heap.size]? = some (.cells #[.string (Ty.S s)] 9 (0, 0)) := by rw [hw4, heap_setCell_same w3 _ 0 _ _ _ hbx3]; rfl
        have hs4 : w4.heap.size = w3.heap.size := by rw [hw4]; simp
        have hs24 : w2.heap.size ≤ w4.heap.size := by rw [hs4]; exact hb3.size
        have hk4 : ∀ b, b < w2.heap.size → w4.heap[b]? = w2.heap[b]? := fun b hb => by
          by_cases e : b = w.heap.size
          · rw [e, hbx4, hbx2]
          · rw [hw4]; exact (Below.heap_setCell _ _ _ _ e).trans (hb3.block b hb)
        have h4 := h2.same hs24 fun b hb => hk4 b (h2.alive b hb)
        have o1 : Dk.Off (Dk.More S w w0) w0 w1 := hrow.off h1.mine
        have o1d : Dk.Off (Dk.More S w w0) w0 w1.drew := o1.same (Dk.Off.of_below (Below.drew (Below.refl _ w1)))
        have o4 : Dk.Off (Dk.More S w w0) w0 w4 := (o1d.same o2).same ⟨by rw [hw4]; exact hb3.os, by rw [hw4]; exact hb3.tape, by rw [hw4]; exact hb3.output, hs24, fun k hk _ => hk4 k hk⟩
        have hpc : Dk.PC (Dk.More S w w0) w4 q (Dk.tick d).files.length (62, #[.pointer (some ⟨w.heap.size, 0, none⟩)]) ⟨s, [], -1⟩ := (.inr (.inl ⟨rfl, (show (-1 : Int) < 0 by decide), _, rfl, HMine.out, hbx4⟩))
        have hok : Dk.Ok (Dk.tick d).files.length (Dk.tick d).dir ⟨s, [], -1⟩ := by
          unfold Dk.Ok
          rw [if_neg (by simp), if_pos (show (-1 : Int) < 0 by decide)]
          exact ⟨f, hlk⟩
        have hcl := hfit.out.sz.dirs
        have hdl := hfit.out.sz.dir hi
        refine (Dk.pchange2_c h4 hi.dir (by show d.dir.length ≤ _; omega) (by show d.chg.length ≤ _; omega) _ _ hpc hok hs (Nat.zero_le _)).mono ?_
        rintro e w' ⟨he, hch⟩
        have hd' := hch.did (by omega)
        exact ⟨he, Dk.PDidM.behind O0.out HAL.out (Dk.PDidM.after o4 hd')⟩
      generalize q f = qf at cl HX
      generalize Ty.S s = sx at HW0 cl CC HX ⊢
      clear h h0 hf hs hs0 g0 hbox hw0 he hlk hv hheld hhde hz hhd
      go_enter Try.func35, Try.ntmps35
      go_wp2_with fail
      rw [HW0.out]
      with_reducible refine cl.mono ?_
      rintro e w1 ⟨rfl, ht⟩
      obtain ⟨⟨c4, f4, a, c, c0⟩, hK⟩ := HX.out w1 ht
      have HK := Lib.hid hK
      clear cl ht HT HX hK
      go_wp2_with fail
      go_region
      generalize hw2 : World.drew (World.setCell w1 _ _) = w2
      obtain ⟨b0, hK2⟩ := HK.out w2 hw2.symm
      have HK2 := Lib.hid hK2
      clear hw2 HK hK2 c4 f4 c0
      go_wp2_with fail
      with_reducible refine (CC.out _).mono ?_
      rintro e w3 ⟨rfl, hb3⟩
      obtain ⟨⟨b1, bf⟩, hK3⟩ := HK2.out w3 hb3
      have HK3 := Lib.hid hK3
      clear hb3 hK3 HK2 b0
      go_upto_region 6 with (fail)
      generalize hw4 : World.setCell w3 _ _ = w4
      have hcc := HK3.out w4 hw4.symm
      clear hw4 HK3 b1 bf
      go_wp2_with fail
      with_reducible refine hcc.mono ?_
      rintro e w5 ⟨rfl, hd5⟩
      have HD := Lib.hid hd5
      clear hcc hd5
      go_wp2
      go_ret
      exact ⟨by rw [HE.out]; rfl, by rw [HE.out]; exact HD.out⟩
  · have HE : Hid (Dk.remove d s = (Dk.tick d, Dk.callE d)) := Lib.hid (by unfold Dk.remove; rw [if_pos he])
    have hne : ((Dk.callE d : Nat) : Int) ≠ 0 := by omega
    have hnb : (((Dk.callE d : Nat) : Int) != 0) = true := by rw [bne_iff_ne]; exact hne
    have hv : Dk.onV q d s = .tuple #[.pointer none, .int .i64 ((Dk.callE d : Nat) : Int)] := by unfold Dk.onV; rw [if_pos he]
    rw [hv] at cl
    generalize Dk.callE d = E at cl HE hnb hne
    generalize Ty.S s = sx at HW0 cl ⊢
    clear h h0 hf hs hs0 g0 hbox hw0 he hne hv
    go_enter Try.func35, Try.ntmps35
    go_wp2_with fail
    rw [HW0.out]
    with_reducible refine cl.mono ?_
    rintro e w1 ⟨rfl, ht⟩
    have HD := Lib.hid (HT.out w1 ht)
    clear cl ht HT
    go_wp2
    go_ret
    exact ⟨by rw [HE.out]; rfl, by rw [HE.out]; exact HD.out⟩
end Go.Proofs.Ytfkdkdkdpenblaa
