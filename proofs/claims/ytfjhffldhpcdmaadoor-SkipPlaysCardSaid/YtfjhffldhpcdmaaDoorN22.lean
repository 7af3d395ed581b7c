/-
  The law SkipPlays, walked.
-/
import Derived.Test.YtfjhffldhpcdmaaDoorZAP
import Derived.Sort.CutIn
namespace Go.Proofs.YtfjhffldhpcdmaaDoor
open Go Go.RowKit Go.Shelf
attribute [local go_sem] Oper.semAt_some
set_option linter.unusedSimpArgs false
set_option maxHeartbeats 16000000 in
set_option maxRecDepth 100000 in
theorem Sk.lawPlays_w {w : World} (hT : Sk.Tab w) (s : Int) {v : Value} {L0 : List Sk.E} (hd : Sk.Deeds w v L0) (k : Kn.V) (hk : Kn.Z k) :
    Calls Tryd.prog 3 #[.int .u64 s, v, k.val] w fun e w' => e = .returned (.bool true) ∧ Below w.heap.size w w' := by
  obtain ⟨wb, hwb⟩ : ∃ wb, wb = (w.alloc (.cells #[.bool k.null, .int .i64 k.n, .string k.s] 25)).alloc (.cells #[.bool false] 4) := ⟨_, rfl⟩
  obtain ⟨hb0, hsb, hkk, hrr⟩ : Below w.heap.size w wb ∧ wb.heap.size = w.heap.size + 2 ∧ Kn.At wb w.heap.size 0 k ∧ wb.heap[w.heap.size + 1]? = some (.cells #[.bool false] 4 (0, 0)) := by
    obtain ⟨wa, hwa⟩ : ∃ wa, wa = w.alloc (.cells #[.bool k.null, .int .i64 k.n, .string k.s] 25) := ⟨_, rfl⟩
    rw [← hwa] at hwb
    have s1 : wa.heap.size = w.heap.size + 1 := by rw [hwa]; exact World.size_alloc ..
    have s3 : wb.heap.size = w.heap.size + 2 := by rw [hwb, World.size_alloc]; omega
    have g1 : Below w.heap.size w wa := by rw [hwa]; exact (Below.refl _ w).alloc (Nat.le_refl _) _
    have g3 : Below wa.heap.size wa wb := by rw [hwb]; exact (Below.refl _ wa).alloc (Nat.le_refl _) _
    refine ⟨g1.trans (g3.mono (by omega)), s3, ?_, ?_⟩
    · exact (show Kn.At wa w.heap.size 0 k by rw [hwa]; exact Kn.At.new w k _).later g3
    · rw [hwb, ← s1]; exact heap_alloc_new wa _
  obtain ⟨a, n, c, rfl, hnc, hcm, hD, hn0⟩ := (hd.later hb0).early
  have hLl : (L0.take 400).length ≤ 400 := by rw [List.length_take]; omega
  generalize L0.take 400 = L at hD hLl
  have HC : Hid (∀ W, Below wb.heap.size wb W → Kn.At W w.heap.size 0 k ∧ W.heap[w.heap.size + 1]? = some (.cells #[.bool false] 4 (0, 0)) ∧ Below w.heap.size w W) := Lib.hid fun W g =>
    ⟨hkk.later g, (g.block (w.heap.size + 1) (by omega)).trans hrr, hb0.trans (g.mono hb0.size)⟩
  have HTB : Hid (Sk.Tab wb) := Lib.hid (hT.later hb0 hT.lt)
  have CL := Lib.hid (Sk.lives_c HTB.out)
  have HD := Lib.hid hD
  have HLL := Lib.hid hLl
  have hnl : min n 400 = L.length := hD.len.symm
  have HNN : Hid (n ≤ c ∧ c ≤ 9223372036854775807 ∧ min n 400 = L.length) := Lib.hid ⟨hnc, hcm, hnl⟩
  have HZ := Lib.hid hk
  have HSB := Lib.hid hsb
  clear hsb hkk hrr hb0 hT hd hD hn0 hk hnc hcm hnl hLl
  obtain ⟨kn, ki, ks⟩ := k
  unfold Kn.V.val
  refine (callsIn_wide (n := 9)).1 ?_
  refine callsIn_of_wp_marks Tryd.func3 rfl trivial ?_ rfl
  simp only [Tryd.ntmps3, List.size_toArray, List.length_cons, List.length_nil, Nat.reduceAdd, Nat.reduceSub, Array.replicate_succ, Array.replicate_zero, List.push_toArray, List.append_toArray, List.nil_append, List.cons_append]
  gi_wp2_with (first
    | (rw [← hwb]; clear hwb; refine ⟨trivial, ?_⟩; gi_at_call 9; refine (callsIn_wide.2 CL.out).mono ?_; rintro e w1 ⟨rfl, g1⟩
       have G1 := Lib.hid g1
       clear g1 CL)
    | (refine ⟨trivial, ?_⟩; gi_at_call 10; refine (callsIn_wide.2 (Sk.early_c a n c HNN.out.1 HNN.out.2.1)).mono ?_; rintro e w2 ⟨rfl, h9⟩; obtain rfl := h9.symm; rw [HNN.out.2.2])
    | (refine ⟨trivial, ?_⟩; gi_at_call 11; refine (callsIn_wide.2 (Sk.PD.new (B := wb.heap.size) G1.out.size s)).mono ?_; rintro e w3 ⟨rfl, h3, g3⟩
       have HTW := Lib.hid (And.intro h3 (G1.out.trans (g3.mono G1.out.size)))
       generalize w1.heap.size = p at HTW h3 ⊢
       clear h3 g3 G1))
  obtain ⟨wl, hwl⟩ : ∃ W, W = ((w3.alloc (.cells #[.slice none 0 0] 32)).alloc (.cells #[.pointer (some ⟨w3.heap.size, 0, none⟩)] 30)) := ⟨_, rfl⟩
  have HTR := Lib.hid (Sk.Tri.new HTW.out.1 HTW.out.2 hwl rfl)
  rw [← hwl]
  clear hwl HTW
  generalize w3.heap.size = q at HTR ⊢
  gi_loopw [9] (fun i wr => ∃ j : Nat, j ≤ L.length ∧ i = .int .i64 j ∧ Sk.Tri wb wr p q (q + 1) (.cells #[.pointer (some ⟨q, 0, none⟩)] 30 (0, 0)) ((Sk.puts (L.take j)).map Sk.E.d) (Sk.puts (L.take j))) (fun i _ => L.length - (intOf i).toNat)
  case atStart => exact ⟨0, Nat.zero_le _, rfl, HTR.out⟩
  case round =>
    obtain ⟨j, hj, rfl, hT2⟩ := hrel
    have H2 := Lib.hid hT2
    clear hT2 HTR
    have hj0 : (0 : Int) ≤ (j : Int) := by omega
    by_cases hjl : j < L.length
    · have hji : (j : Int) < (L.length : Int) := by omega
      obtain ⟨x, hx⟩ : ∃ x, L[j]? = some x := ⟨_, List.getElem?_eq_getElem hjl⟩
      have hlen := Sk.puts_len L j hj
      have hlen1 := Sk.puts_len L (j + 1) hjl
      have hg := HD.out.got x (List.mem_of_getElem? hx)
      have hst := Sk.puts_step hx
      have H3 : Hid (Sk.Tri wb wr.drew p q (q + 1) (.cells #[.pointer (some ⟨q, 0, none⟩)] 30 (0, 0)) ((Sk.puts (L.take j)).map Sk.E.d) (Sk.puts (L.take j))) := Lib.hid (H2.out.later (Below.refl _ wr).drew)
      have CA := Lib.hid (H3.out.aput HTB.out hg (by rw [List.length_map]; have := HLL.out; omega))
      have CR : Hid (∀ W, Sk.Tri wb W p q (q + 1) (.cells #[.pointer (some ⟨q, 0, none⟩)] 30 (0, 0)) (Sk.pd ((Sk.puts (L.take j)).map Sk.E.d) x.d) (Sk.puts (L.take j)) → Calls Tryd.prog 13 #[.pointer (some ⟨q, 0, none⟩), .agg #[.bool x.gone, x.rv]] W fun e w' => e = .returned (.bool (!x.row.isEmpty)) ∧ Sk.Tri wb w' p q (q + 1) (.cells #[.pointer (some ⟨q, 0, none⟩)] 30 (0, 0)) ((Sk.puts (L.take (j + 1))).map Sk.E.d) (Sk.puts (L.take (j + 1))) ∧ ∃ ha hc, w'.cell? ⟨q, 0, none⟩ = some (.slice ha (Sk.puts (L.take (j + 1))).length hc)) := Lib.hid fun W h => by
        refine (Sk.Tri.rput h hg (by have := HLL.out; omega)).mono ?_
        rintro e w' ⟨he, h2, _⟩
        rw [Sk.pd_map, ← hst] at h2
        exact ⟨he, h2, h2.head⟩
      have hn1 : Hid ((Sk.puts (L.take (j + 1))).length ≤ 1000) := Lib.hid (by have := HLL.out; omega)
      have HAT : Hid (∀ W, Below wb.heap.size wb W → ∃ b o, a = some ⟨b, o, none⟩ ∧ W.cell? ⟨b, o + j * 2, none⟩ = some (.bool x.gone) ∧ W.cell? ⟨b, o + j * 2 + 1, none⟩ = some x.rv) := Lib.hid fun W g => HD.out.at_ W g j x hx
      obtain ⟨N1, hN1⟩ : ∃ N1, N1 = Sk.puts (L.take (j + 1)) := ⟨_, rfl⟩
      rw [← hN1] at CR hn1 hlen1 hst
      have HN1 := Lib.hid hN1
      obtain ⟨b, o, rfl, x0, x1⟩ := HAT.out wr.drew H3.out.below
      obtain ⟨ra, rc, hrv⟩ := hg.slice
      rw [hrv] at x1 CA CR HAT
      have HST : Hid (∀ W M N, Sk.Tri wb W p q (q + 1) (.cells #[.pointer (some ⟨q, 0, none⟩)] 30 (0, 0)) M N → W.cell? ⟨q + 1, 0, none⟩ = some (.pointer (some ⟨q, 0, none⟩)) ∧ W.cell? ⟨b, o + j * 2, none⟩ = some (.bool x.gone) ∧ W.cell? ⟨b, o + j * 2 + 1, none⟩ = some (.slice ra x.row.length rc)) := Lib.hid fun W M N h => by
        obtain ⟨b', o', e', y0, y1⟩ := HAT.out W h.below
        simp only [Option.some.injEq, Addr.mk.injEq, and_true] at e'
        obtain ⟨rfl, rfl⟩ := e'
        exact ⟨Sk.cell_blk h.at_, y0, y1⟩
      have HLJ : Hid (j < 400) := Lib.hid (by have := HLL.out; omega)
      have HS1 := Lib.hid hst
      generalize (!x.row.isEmpty) = be at CA CR
      have CLen : Hid (∀ W, Sk.Tri wb W p q (q + 1) (.cells #[.pointer (some ⟨q, 0, none⟩)] 30 (0, 0)) (N1.map Sk.E.d) N1 → Calls Tryd.prog 14 #[.pointer (some ⟨p, 0, none⟩)] W fun e w' => e = .returned (.int .i64 (N1.length : Int)) ∧ w' = W) := Lib.hid fun W h => by
        have := h.len
        rwa [List.length_map] at this
      have CBy : Hid (∀ W, Sk.Tri wb W p q (q + 1) (.cells #[.pointer (some ⟨q, 0, none⟩)] 30 (0, 0)) (N1.map Sk.E.d) N1 → Calls Tryd.prog 15 #[.pointer (some ⟨p, 0, none⟩)] W fun e w' => e = .returned (.int .i64 (wrap64 (Sk.bytes (N1.map Sk.E.d) : Int))) ∧ w' = W) := Lib.hid fun W h => h.bytes
      have CRB : Hid (∀ W, Sk.Tri wb W p q (q + 1) (.cells #[.pointer (some ⟨q, 0, none⟩)] 30 (0, 0)) (N1.map Sk.E.d) N1 → Calls Tryd.prog 16 #[.pointer (some ⟨q, 0, none⟩)] W fun e w' => e = .returned (.int .i64 (wrap64 (Sk.bytes (N1.map Sk.E.d) : Int))) ∧ w' = W) := Lib.hid fun W h => h.rbytes (by have := hn1.out; omega)
      generalize wrap64 (Sk.bytes (N1.map Sk.E.d) : Int) = nb at CBy CRB
      obtain ⟨nn, hnn⟩ : ∃ nn, nn = N1.length := ⟨_, rfl⟩
      rw [← hnn] at CLen CR
      have hl0 : ((nn : Int) != (nn : Int)) = false := by simp
      have hb1 : (nb != nb) = false := by simp
      have hb2 : (be != be) = false := by simp
      clear hx hg hrv hlen hlen1 hst hn1 HNN HLL H2 hnn hN1
      obtain ⟨q0, x0, x1⟩ := HST.out wr.drew _ _ H3.out
      gi_upto_region 8 with (fail)
      refine wpIn_wide.2 ?_
      refine wp_region_noPanic ?_
      refine wp_region_held_drew (S := fun wx => wx.cell? ⟨q + 1, 0, none⟩ = some (.pointer (some ⟨q, 0, none⟩)) ∧ wx.cell? ⟨b, o + j * 2, none⟩ = some (.bool x.gone) ∧ wx.cell? ⟨b, o + j * 2 + 1, none⟩ = some (.slice ra x.row.length rc)) (by kernel_rfl) (HST.out _ _ _ H3.out) (fun hHeld => ?_)
      refine wpAnyH_take (i := 0) (v := ?_) rfl (by kernel_rfl) (by kernel_rfl) (by kernel_rfl) (fun _ _ _ h => h) (Or.inl ⟨by rfl, ?_⟩) (by assumption) ?_
      rotate_left
      · (intro wx hSw; (try dsimp only at hSw); go_simp; (try with_reducible rfl))
      try simp only [Act.put, List.getElem_toArray, List.getElem_cons_zero, List.getElem_cons_succ, List.setIfInBounds_toArray, List.set_cons_zero, List.set_cons_succ]
      refine wpAnyH_take (i := 1) (v := ?_) rfl (by kernel_rfl) (by kernel_rfl) (by kernel_rfl) (fun _ _ _ h => h) (Or.inl ⟨by rfl, ?_⟩) (by assumption) ?_
      rotate_left
      · (intro wx hSw; (try dsimp only at hSw); go_simp; (try with_reducible rfl))
      try simp only [Act.put, List.getElem_toArray, List.getElem_cons_zero, List.getElem_cons_succ, List.setIfInBounds_toArray, List.set_cons_zero, List.set_cons_succ]
      refine wpAnyH_take (i := 2) (v := ?_) rfl (by kernel_rfl) (by kernel_rfl) (by kernel_rfl) (fun _ _ _ h => h) (Or.inl ⟨by rfl, ?_⟩) (by assumption) ?_
      rotate_left
      · (intro wx hSw; (try dsimp only at hSw); go_simp; (try with_reducible rfl))
      try simp only [Act.put, List.getElem_toArray, List.getElem_cons_zero, List.getElem_cons_succ, List.setIfInBounds_toArray, List.set_cons_zero, List.set_cons_succ]
      refine wpAnyH_take (i := 3) (v := ?_) rfl (by kernel_rfl) (by kernel_rfl) (by kernel_rfl) (fun _ _ _ h => h) (Or.inl ⟨by rfl, ?_⟩) (by assumption) ?_
      rotate_left
      · (intro wx hSw; (try dsimp only at hSw); go_simp; (try with_reducible rfl))
      try simp only [Act.put, List.getElem_toArray, List.getElem_cons_zero, List.getElem_cons_succ, List.setIfInBounds_toArray, List.set_cons_zero, List.set_cons_succ]
      refine wpAnyH_take (i := 4) (v := ?_) rfl (by kernel_rfl) (by kernel_rfl) (by kernel_rfl) (fun _ _ _ h => h) (Or.inl ⟨by rfl, ?_⟩) (by assumption) ?_
      rotate_left
      · (intro wx hSw; (try dsimp only at hSw); go_simp; (try with_reducible rfl))
      try simp only [Act.put, List.getElem_toArray, List.getElem_cons_zero, List.getElem_cons_succ, List.setIfInBounds_toArray, List.set_cons_zero, List.set_cons_succ]
      refine wpAnyH_take (i := 6) (v := ?_) rfl (by kernel_rfl) (by kernel_rfl) (by kernel_rfl) (fun _ _ _ h => h) (Or.inl ⟨by rfl, ?_⟩) (by assumption) ?_
      rotate_left
      · (intro wx hSw; (try dsimp only at hSw); go_simp; (try with_reducible rfl))
      try simp only [Act.put, List.getElem_toArray, List.getElem_cons_zero, List.getElem_cons_succ, List.setIfInBounds_toArray, List.set_cons_zero, List.set_cons_succ]
      refine wpAnyH_take (i := 7) (v := ?_) rfl (by kernel_rfl) (by kernel_rfl) (by kernel_rfl) (fun _ _ _ h => h) (Or.inl ⟨by rfl, ?_⟩) (by assumption) ?_
      rotate_left
      · (intro wx hSw; (try dsimp only at hSw); go_simp; (try with_reducible rfl))
      try simp only [Act.put, List.getElem_toArray, List.getElem_cons_zero, List.getElem_cons_succ, List.setIfInBounds_toArray, List.set_cons_zero, List.set_cons_succ]
      refine wpAnyH_take (i := 8) (v := ?_) rfl (by kernel_rfl) (by kernel_rfl) (by kernel_rfl) (fun _ _ _ h => h) (Or.inl ⟨by rfl, ?_⟩) (by assumption) ?_
      rotate_left
      · (intro wx hSw; (try dsimp only at hSw); go_simp; (try with_reducible rfl))
      try simp only [Act.put, List.getElem_toArray, List.getElem_cons_zero, List.getElem_cons_succ, List.setIfInBounds_toArray, List.set_cons_zero, List.set_cons_succ]
      refine wpAnyH_take (i := 9) (v := ?_) rfl (by kernel_rfl) (by kernel_rfl) (by kernel_rfl) (fun _ _ _ h => h) (Or.inl ⟨by rfl, ?_⟩) (by assumption) ?_
      rotate_left
      · (intro wx hSw; (try dsimp only at hSw); go_simp; (try with_reducible rfl))
      try simp only [Act.put, List.getElem_toArray, List.getElem_cons_zero, List.getElem_cons_succ, List.setIfInBounds_toArray, List.set_cons_zero, List.set_cons_succ]
      refine wpAnyH_take (i := 10) (v := ?_) rfl (by kernel_rfl) (by kernel_rfl) (by kernel_rfl) (fun _ _ _ h => h) (Or.inl ⟨by rfl, ?_⟩) (by assumption) ?_
      rotate_left
      · (intro wx hSw; (try dsimp only at hSw); go_simp; (try with_reducible rfl))
      try simp only [Act.put, List.getElem_toArray, List.getElem_cons_zero, List.getElem_cons_succ, List.setIfInBounds_toArray, List.set_cons_zero, List.set_cons_succ]
      refine Sk.held_one (i := 5) (o := ({ dst := some 35, op := Op.call { callee := Callee.value (Operand.func 12), args := #[Operand.tmp 30, Operand.tmp 34], argTypes := #[28, 37] }, type := 4, pos := "law.go:33", after := #[{ on := 0, ground := Ground.data }, { on := 4, ground := Ground.data }], guard := none } : Oper)) (by kernel_rfl) rfl (fun K hK => ?_)
      go_simp
      go_at_call 12
      (with_reducible refine (CA.out).mono ?_); rintro e w4 ⟨rfl, h4, g4⟩
      go_wp2_with fail
      refine hK.out _ _ (HST.out _ _ _ h4) (fun hHeld => ?_)
      clear hK K
      try simp only [Act.put, List.getElem_toArray, List.getElem_cons_zero, List.getElem_cons_succ, List.setIfInBounds_toArray, List.set_cons_zero, List.set_cons_succ]
      refine Sk.held_one (i := 11) (o := ({ dst := some 41, op := Op.call { callee := Callee.value (Operand.func 13), args := #[Operand.tmp 36, Operand.tmp 40], argTypes := #[30, 37] }, type := 4, pos := "law.go:33", after := #[{ on := 6, ground := Ground.data }, { on := 10, ground := Ground.data }, { on := 5, ground := Ground.chain }], guard := none } : Oper)) (by kernel_rfl) rfl (fun K hK => ?_)
      go_simp
      go_at_call 13
      (with_reducible refine (CR.out _ h4).mono ?_); rintro e w5 ⟨rfl, h5, hha, hhc, hh0⟩
      go_wp2_with fail
      refine hK.out _ _ (HST.out _ _ _ h5) (fun hHeld => ?_)
      clear hK K
      try simp only [Act.put, List.getElem_toArray, List.getElem_cons_zero, List.getElem_cons_succ, List.setIfInBounds_toArray, List.set_cons_zero, List.set_cons_succ]
      have hHeld2 := And.intro hh0 (HST.out _ _ _ h5)
      refine Sk.held_more (S' := fun wx => wx.cell? ⟨q, 0, none⟩ = some (.slice hha nn hhc) ∧ wx.cell? ⟨q + 1, 0, none⟩ = some (.pointer (some ⟨q, 0, none⟩)) ∧ wx.cell? ⟨b, o + j * 2, none⟩ = some (.bool x.gone) ∧ wx.cell? ⟨b, o + j * 2 + 1, none⟩ = some (.slice ra x.row.length rc)) (fun _ h => h.2) _ _ _ _ ?_
      refine wpAnyH_take (i := 12) (v := ?_) rfl (by kernel_rfl) (by kernel_rfl) (by kernel_rfl) (fun _ _ _ h => h) (Or.inl ⟨by rfl, ?_⟩) (by assumption) ?_
      rotate_left
      · (intro wx hSw; (try dsimp only at hSw); go_simp; (try with_reducible rfl))
      try simp only [Act.put, List.getElem_toArray, List.getElem_cons_zero, List.getElem_cons_succ, List.setIfInBounds_toArray, List.set_cons_zero, List.set_cons_succ]
      refine wpAnyH_take (i := 13) (v := ?_) rfl (by kernel_rfl) (by kernel_rfl) (by kernel_rfl) (fun _ _ _ h => h) (Or.inl ⟨by rfl, ?_⟩) (by assumption) ?_
      rotate_left
      · (intro wx hSw; (try dsimp only at hSw); go_simp; (try with_reducible rfl))
      try simp only [Act.put, List.getElem_toArray, List.getElem_cons_zero, List.getElem_cons_succ, List.setIfInBounds_toArray, List.set_cons_zero, List.set_cons_succ]
      refine wpAnyH_take (i := 14) (v := ?_) rfl (by kernel_rfl) (by kernel_rfl) (by kernel_rfl) (fun _ _ _ h => h) (Or.inl ⟨by rfl, ?_⟩) (by assumption) ?_
      rotate_left
      · (intro wx hSw; (try dsimp only at hSw); go_simp; (try with_reducible rfl))
      try simp only [Act.put, List.getElem_toArray, List.getElem_cons_zero, List.getElem_cons_succ, List.setIfInBounds_toArray, List.set_cons_zero, List.set_cons_succ]
      refine wpAnyH_take (i := 16) (v := ?_) rfl (by kernel_rfl) (by kernel_rfl) (by kernel_rfl) (fun _ _ _ h => h) (Or.inl ⟨by rfl, ?_⟩) (by assumption) ?_
      rotate_left
      · (intro wx hSw; (try dsimp only at hSw); go_simp; (try with_reducible rfl))
      try simp only [Act.put, List.getElem_toArray, List.getElem_cons_zero, List.getElem_cons_succ, List.setIfInBounds_toArray, List.set_cons_zero, List.set_cons_succ]
      refine wpAnyH_take (i := 17) (v := ?_) rfl (by kernel_rfl) (by kernel_rfl) (by kernel_rfl) (fun _ _ _ h => h) (Or.inl ⟨by rfl, ?_⟩) (by assumption) ?_
      rotate_left
      · (intro wx hSw; (try dsimp only at hSw); go_simp; (try with_reducible rfl))
      try simp only [Act.put, List.getElem_toArray, List.getElem_cons_zero, List.getElem_cons_succ, List.setIfInBounds_toArray, List.set_cons_zero, List.set_cons_succ]
      refine wpAnyH_take (i := 18) (v := ?_) rfl (by kernel_rfl) (by kernel_rfl) (by kernel_rfl) (fun _ _ _ h => h) (Or.inl ⟨by rfl, ?_⟩) (by assumption) ?_
      rotate_left
      · (intro wx hSw; (try dsimp only at hSw); go_simp; (try with_reducible rfl))
      try simp only [Act.put, List.getElem_toArray, List.getElem_cons_zero, List.getElem_cons_succ, List.setIfInBounds_toArray, List.set_cons_zero, List.set_cons_succ]
      refine wpAnyH_take (i := 19) (v := ?_) rfl (by kernel_rfl) (by kernel_rfl) (by kernel_rfl) (fun _ _ _ h => h) (Or.inl ⟨by rfl, ?_⟩) (by assumption) ?_
      rotate_left
      · (intro wx hSw; (try dsimp only at hSw); go_simp; (try with_reducible rfl))
      try simp only [Act.put, List.getElem_toArray, List.getElem_cons_zero, List.getElem_cons_succ, List.setIfInBounds_toArray, List.set_cons_zero, List.set_cons_succ]
      refine wpAnyH_take (i := 20) (v := ?_) rfl (by kernel_rfl) (by kernel_rfl) (by kernel_rfl) (fun _ _ _ h => h) (Or.inl ⟨by rfl, ?_⟩) (by assumption) ?_
      rotate_left
      · (intro wx hSw; (try dsimp only at hSw); go_simp; (try with_reducible rfl))
      try simp only [Act.put, List.getElem_toArray, List.getElem_cons_zero, List.getElem_cons_succ, List.setIfInBounds_toArray, List.set_cons_zero, List.set_cons_succ]
      refine Sk.held_one (i := 15) (o := ({ dst := some 45, op := Op.call { callee := Callee.value (Operand.func 14), args := #[Operand.tmp 44], argTypes := #[28] }, type := 3, pos := "law.go:33", after := #[{ on := 14, ground := Ground.data }, { on := 13, ground := Ground.chain }, { on := 13, ground := Ground.guard }], guard := some (13, false) } : Oper)) (by kernel_rfl) rfl (fun K hK => ?_)
      go_simp
      go_at_call 14
      (with_reducible refine (CLen.out _ h5).mono ?_); rintro e w6 ⟨rfl, h9⟩; obtain rfl := h9.symm
      go_wp2_with fail
      refine hK.out _ _ (hHeld2) (fun hHeld => ?_)
      clear hK K
      try simp only [Act.put, List.getElem_toArray, List.getElem_cons_zero, List.getElem_cons_succ, List.setIfInBounds_toArray, List.set_cons_zero, List.set_cons_succ]
      refine wpAnyH_take (i := 21) (v := ?_) rfl (by kernel_rfl) (by kernel_rfl) (by kernel_rfl) (fun _ _ _ h => h) (Or.inl ⟨by rfl, ?_⟩) (by assumption) ?_
      rotate_left
      · (intro wx hSw; (try dsimp only at hSw); go_simp; (try with_reducible rfl))
      try simp only [Act.put, List.getElem_toArray, List.getElem_cons_zero, List.getElem_cons_succ, List.setIfInBounds_toArray, List.set_cons_zero, List.set_cons_succ]
      refine wpAnyH_take (i := 22) (v := ?_) rfl (by kernel_rfl) (by kernel_rfl) (by kernel_rfl) (fun _ _ _ h => h) (Or.inl ⟨by rfl, ?_⟩) (by assumption) ?_
      rotate_left
      · (intro wx hSw; (try dsimp only at hSw); go_simp; (try with_reducible rfl))
      try simp only [Act.put, List.getElem_toArray, List.getElem_cons_zero, List.getElem_cons_succ, List.setIfInBounds_toArray, List.set_cons_zero, List.set_cons_succ]
      refine wpAnyH_take (i := 23) (v := ?_) rfl (by kernel_rfl) (by kernel_rfl) (by kernel_rfl) (fun _ _ _ h => h) (Or.inl ⟨by rfl, ?_⟩) (by assumption) ?_
      rotate_left
      · (intro wx hSw; (try dsimp only at hSw); go_simp; (try with_reducible rfl))
      try simp only [Act.put, List.getElem_toArray, List.getElem_cons_zero, List.getElem_cons_succ, List.setIfInBounds_toArray, List.set_cons_zero, List.set_cons_succ]
      refine wpAnyH_take (i := 24) (v := ?_) rfl (by kernel_rfl) (by kernel_rfl) (by kernel_rfl) (fun _ _ _ h => h) (Or.inl ⟨by rfl, ?_⟩) (by assumption) ?_
      rotate_left
      · (intro wx hSw; (try dsimp only at hSw); go_simp; (try with_reducible rfl))
      try simp only [Act.put, List.getElem_toArray, List.getElem_cons_zero, List.getElem_cons_succ, List.setIfInBounds_toArray, List.set_cons_zero, List.set_cons_succ]
      refine wpAnyH_take (i := 26) (v := ?_) rfl (by kernel_rfl) (by kernel_rfl) (by kernel_rfl) (fun _ _ _ h => h) (Or.inl ⟨by rfl, ?_⟩) (by assumption) ?_
      rotate_left
      · (intro wx hSw; (try dsimp only at hSw); go_simp; (try with_reducible rfl))
      try simp only [Act.put, List.getElem_toArray, List.getElem_cons_zero, List.getElem_cons_succ, List.setIfInBounds_toArray, List.set_cons_zero, List.set_cons_succ]
      refine Sk.held_one (i := 25) (o := ({ dst := some 55, op := Op.call { callee := Callee.value (Operand.func 15), args := #[Operand.tmp 54], argTypes := #[28] }, type := 3, pos := "law.go:33", after := #[{ on := 24, ground := Ground.data }, { on := 23, ground := Ground.chain }, { on := 23, ground := Ground.guard }], guard := some (23, false) } : Oper)) (by kernel_rfl) rfl (fun K hK => ?_)
      go_simp
      go_at_call 15
      (with_reducible refine (CBy.out _ h5).mono ?_); rintro e w6 ⟨rfl, h9⟩; obtain rfl := h9.symm
      go_wp2_with fail
      refine hK.out _ _ (hHeld2) (fun hHeld => ?_)
      clear hK K
      try simp only [Act.put, List.getElem_toArray, List.getElem_cons_zero, List.getElem_cons_succ, List.setIfInBounds_toArray, List.set_cons_zero, List.set_cons_succ]
      refine Sk.held_one (i := 27) (o := ({ dst := some 57, op := Op.call { callee := Callee.value (Operand.func 16), args := #[Operand.tmp 56], argTypes := #[30] }, type := 3, pos := "law.go:33", after := #[{ on := 26, ground := Ground.data }, { on := 25, ground := Ground.chain }, { on := 23, ground := Ground.guard }], guard := some (23, false) } : Oper)) (by kernel_rfl) rfl (fun K hK => ?_)
      go_simp
      go_at_call 16
      (with_reducible refine (CRB.out _ h5).mono ?_); rintro e w6 ⟨rfl, h9⟩; obtain rfl := h9.symm
      go_wp2_with fail
      refine hK.out _ _ (hHeld2) (fun hHeld => ?_)
      clear hK K
      try simp only [Act.put, List.getElem_toArray, List.getElem_cons_zero, List.getElem_cons_succ, List.setIfInBounds_toArray, List.set_cons_zero, List.set_cons_succ]
      refine wpAnyH_take (i := 28) (v := ?_) rfl (by kernel_rfl) (by kernel_rfl) (by kernel_rfl) (fun _ _ _ h => h) (Or.inl ⟨by rfl, ?_⟩) (by assumption) ?_
      rotate_left
      · (intro wx hSw; (try dsimp only at hSw); go_simp; (try with_reducible rfl))
      try simp only [Act.put, List.getElem_toArray, List.getElem_cons_zero, List.getElem_cons_succ, List.setIfInBounds_toArray, List.set_cons_zero, List.set_cons_succ]
      refine wpAnyH_take (i := 29) (v := ?_) rfl (by kernel_rfl) (by kernel_rfl) (by kernel_rfl) (fun _ _ _ h => h) (Or.inl ⟨by rfl, ?_⟩) (by assumption) ?_
      rotate_left
      · (intro wx hSw; (try dsimp only at hSw); go_simp; (try with_reducible rfl))
      try simp only [Act.put, List.getElem_toArray, List.getElem_cons_zero, List.getElem_cons_succ, List.setIfInBounds_toArray, List.set_cons_zero, List.set_cons_succ]
      refine wpAnyH_done (by kernel_rfl) ?_ _
      -- BEHIND
      refine NoPanic.normal ?_
      have H5 := Lib.hid h5
      clear h4 g4 h5 hh0 hHeld2 H3 HST HAT CA CR CLen CBy CRB q0 x0 x1 hl0 hb1 hb2
      have hw : IntKind.i64.wrap ((j : Int) + 1) = ((j + 1 : Nat) : Int) := by rw [IntKind.wrap_i64]; have := HLJ.out; omega
      gi_wp2
      exact ⟨⟨j + 1, by omega, by first | rfl | rw [hw], by rw [← HN1.out]; exact H5.out⟩, by simp [intOf]; omega⟩
    · obtain rfl : j = L.length := by omega
      have hji : ¬ (L.length : Int) < (L.length : Int) := by omega
      rw [List.take_length] at H2
      have HML := Lib.hid (Sk.puts_len L L.length (Nat.le_refl _))
      rw [List.take_length] at HML
      generalize Sk.puts L = N at H2 HML
      have HM4 : Hid (N.length ≤ 400) := Lib.hid (by have := HLL.out; have := HML.out; omega)
      clear hj hjl HD HNN HML HLL
      obtain ⟨yg, yr, yes, ya, yc, CG, CB⟩ := H2.out.get2 ⟨kn, ki, ks⟩ HZ.out (by have := HM4.out; omega)
      have CG := Lib.hid CG
      have CB := Lib.hid CB
      unfold Kn.V.val at CG CB
      obtain ⟨S, S', vv, h1, h2, h3, h5, h6⟩ := H2.out.all
      have HP := Lib.hid h1
      have HR := Lib.hid h2
      have HBB := Lib.hid H2.out.below
      have HAT := Lib.hid H2.out.at_
      obtain ⟨va, vc, rfl⟩ := h2.slice
      -- what stays in every world behind
      have HW : Hid (∀ W, Below wr.heap.size wr W → (W.cell? ⟨w.heap.size, 0, none⟩ = some (.bool kn) ∧ W.cell? ⟨w.heap.size, 1, none⟩ = some (.int .i64 ki) ∧ W.cell? ⟨w.heap.size, 2, none⟩ = some (.string ks)) ∧ W.cell? ⟨q + 1, 0, none⟩ = some (.pointer (some ⟨q, 0, none⟩)) ∧ W.cell? ⟨q, 0, none⟩ = some (.slice va N.length vc)) := Lib.hid fun W g => by
        obtain ⟨k0, k1, k2⟩ := (HC.out W (HBB.out.trans (g.mono HBB.out.size))).1
        exact ⟨⟨k0, k1, k2⟩, Sk.cell_blk (H2.out.later g).at_, Sk.cell_blk (HR.out.kept g).blk⟩
      obtain ⟨⟨k0, k1, k2⟩, _⟩ := HW.out wr (Below.refl _ _)
      have hyy : (yes != yes) = false := by simp
      have hss : Hid (Dd.same ⟨yg, yr⟩ ⟨yg, yr⟩ = true) := Lib.hid (Sk.same_self _)
      clear h1 h2 h3 h5 h6
      gi_wp2_with (first
        | (refine ⟨trivial, ?_⟩; gi_at_call 17; refine (callsIn_wide.2 CG.out).mono ?_; rintro e w6 ⟨ua, uc, rfl, hu6, g6⟩
           obtain ⟨w6a, hw6a⟩ : ∃ W, W = w6.alloc (.cells #[.bool yg, .slice ua yr.length uc] 37) := ⟨_, rfl⟩
           have HX6 : Hid (Below w6.heap.size w6 w6a ∧ w6a.heap.size = w6.heap.size + 1 ∧ w6a.heap[w6.heap.size]? = some (.cells #[.bool yg, .slice ua yr.length uc] 37 (0, 0))) := Lib.hid ⟨by rw [hw6a]; exact (Below.refl _ w6).alloc (Nat.le_refl _) _, by rw [hw6a]; simp, by rw [hw6a]; exact heap_alloc_new w6 _⟩
           have HB6 : Hid (Below wr.heap.size wr w6a) := Lib.hid (g6.trans (HX6.out.1.mono g6.size))
           have HU6 := Lib.hid hu6
           obtain ⟨⟨k0, k1, k2⟩, q0, _⟩ := HW.out w6a HB6.out
           have CB6 := Lib.hid (CB.out w6a HB6.out)
           have G6 := Lib.hid g6.size
           have HW6 := Lib.hid hw6a
           rw [hw6a] at k0 k1 k2 q0
           clear hw6a hu6 g6 CG CB)
        | (rw [← HW6.out]; refine ⟨trivial, ?_⟩; gi_at_call 18; refine (callsIn_wide.2 CB6.out).mono ?_; rintro e w7 ⟨rfl, hu7, g7⟩
           obtain ⟨w7a, hw7a⟩ : ∃ W, W = w7.alloc (.cells #[.bool yg, .slice ya yr.length yc] 37) := ⟨_, rfl⟩
           have HX7 : Hid (Below w7.heap.size w7 w7a ∧ w7a.heap[w7.heap.size]? = some (.cells #[.bool yg, .slice ya yr.length yc] 37 (0, 0))) := Lib.hid ⟨by rw [hw7a]; exact (Below.refl _ w7).alloc (Nat.le_refl _) _, by rw [hw7a]; exact heap_alloc_new w7 _⟩
           have HB67 : Hid (Below w6a.heap.size w6a w7a) := Lib.hid (g7.trans (HX7.out.1.mono g7.size))
           have HB7 : Hid (Below wr.heap.size wr w7a) := Lib.hid (HB6.out.trans (HB67.out.mono HB6.out.size))
           have CS := Lib.hid (Dd.rsame_c (.slice ua yr.length uc) (.slice ya yr.length yc) ⟨yg, yr⟩ ⟨yg, yr⟩ w7a ((HU6.out.later HX6.out.1).later HB67.out) (hu7.later HX7.out.1))
           rw [hss.out] at CS
           have CS : Hid (Calls Tryd.prog 19 #[.agg #[.bool yg, .slice ua yr.length uc], .agg #[.bool yg, .slice ya yr.length yc]] w7a fun e w' => e = .returned (.bool true) ∧ Below w7a.heap.size w7a w') := CS
           have e0 := cell_of_row _ _ 0 _ _ _ HX7.out.2
           have e1 := cell_of_row _ _ 1 _ _ _ HX7.out.2
           have hd6 := (HB67.out.block _ (by have := HX6.out.2.1; omega)).trans HX6.out.2.2
           have d0 := cell_of_row _ _ 0 _ _ _ hd6
           have d1 := cell_of_row _ _ 1 _ _ _ hd6
           have HW7 := Lib.hid hw7a
           rw [hw7a] at e0 e1 d0 d1
           simp only [List.getElem?_toArray, List.getElem?_cons_zero, List.getElem?_cons_succ] at e0 e1 d0 d1
           clear hd6 hw7a hu7 g7 k0 k1 k2 q0)
        | (rw [← HW7.out]; refine ⟨trivial, ?_⟩; gi_at_call 19; refine (callsIn_wide.2 CS.out).mono ?_; rintro e w8 ⟨rfl, g8⟩
           have G8 : Hid (Below wr.heap.size wr w8) := Lib.hid (HB7.out.trans (g8.mono HB7.out.size))
           clear g8 e0 e1 d0 d1 CS HX7 HB67 HX6 HW7 HW6 HU6 HB6 HB7 CB6)
        | (obtain ⟨w8n, hw8n⟩ : ∃ W, W = w8.alloc (.cells #[.int .i64 0] 3) := ⟨_, rfl⟩
           have HX8 : Hid (Below w8.heap.size w8 w8n ∧ w8n.heap.size = w8.heap.size + 1 ∧ w8n.heap[w8.heap.size]? = some (.cells #[.int .i64 0] 3 (0, 0))) := Lib.hid ⟨by rw [hw8n]; exact (Below.refl _ w8).alloc (Nat.le_refl _) _, by rw [hw8n]; simp, by rw [hw8n]; exact heap_alloc_new w8 _⟩
           rw [← hw8n]; clear hw8n
           refine ⟨trivial, ?_⟩; gi_at_call 20; refine (callsIn_wide.2 (Sk.all_c (some ⟨p, 0, none⟩) w8n.heap.size rfl)).mono ?_; rintro e w9 ⟨rfl, c9, g9⟩))
      have HX9 : Hid (Below wr.heap.size wr w9 ∧ w8.heap.size < w9.heap.size ∧ wr.heap.size ≤ w8.heap.size ∧ w9.heap[w8.heap.size]? = some (.cells #[.int .i64 0] 3 (0, 0))) := Lib.hid (by
        have hs9 := g9.size
        have s1 := HX8.out.2.1
        exact ⟨G8.out.trans ((HX8.out.1.mono G8.out.size).trans (g9.mono (by have := G8.out.size; omega))), by omega, G8.out.size, (g9.block _ (by omega)).trans HX8.out.2.2⟩)
      have HSEQ := Lib.hid ((HP.out.later HX9.out.1).all HP.out.lt HX9.out.1.size c9)
      clear HX8
      generalize w8.heap.size = n6 at HX9 c9 ⊢
      have HNF : Hid (∀ W, Below wr.heap.size w9 W → W.cell? ⟨q + 1, 0, none⟩ = some (.pointer (some ⟨q, 0, none⟩)) ∧ W.cell? ⟨q, 0, none⟩ = some (.slice va N.length vc)) := Lib.hid fun W g => (HW.out W (HX9.out.1.trans g)).2
      have HIT : Hid (∀ W, Below wr.heap.size w9 W → ∀ i y, N[i]? = some y → ∃ b ra rc, va = some ⟨b, 0, none⟩ ∧ (W.cell? ⟨b, i * 2, none⟩ = some (.bool y.gone) ∧ W.cell? ⟨b, i * 2 + 1, none⟩ = some (.slice ra y.row.length rc)) ∧ Kn.Vals W (.slice ra y.row.length rc) y.row) := Lib.hid fun W g i y hy => by
        obtain ⟨b, c', ra, rc, hv, _, h0, h1, h2⟩ := HR.out.item (HX9.out.1.trans g) hy
        simp only [Value.slice.injEq] at hv
        exact ⟨b, ra, rc, hv.1, ⟨h0, h1⟩, h2⟩
      have HBW : Hid (∀ W, Below wr.heap.size w9 W → W.heap[w.heap.size + 1]? = some (.cells #[.bool false] 4 (0, 0)) ∧ Below w.heap.size w W) := Lib.hid fun W g => by
        have := HC.out W (HBB.out.trans ((HX9.out.1.trans g).mono HBB.out.size))
        exact this.2
      have HFAR : Hid (w.heap.size + 1 < q ∧ w.heap.size + 1 < n6) := Lib.hid (by
        have h1 := HSB.out
        have h2 := HR.out.from_ q HR.out.mine
        have h3 := HBB.out.size
        have h4 := HX9.out.2.2.1
        exact ⟨by omega, by omega⟩)
      have HLE : Hid (w.heap.size ≤ w9.heap.size) := Lib.hid (HBW.out w9 (Below.refl _ _)).2.size
      clear c9 g9 G8 HP HR HW HBB HAT HC H2 hyy hss HTB
      refine Sk.range_wa (gf := 34) rfl (enters_of Tryd.func34 (by kernel_rfl) rfl)
        HSEQ.out (Below.refl _ _) HX9.out.1.size (fun x args W he => by obtain ⟨u, rfl, _⟩ := he; rfl)
        (fun s W => Below wr.heap.size w9 W ∧ W.heap[n6]? = some (.cells #[.int .i64 (s.1.length : Int)] 3 (0, 0)))
        (fun c s W => False)
        ?own ?ownx ⟨Below.refl _ _, HX9.out.2.2.2⟩
        (fun T s x a' W => ∃ (bx : Nat) (ua : Option Addr) (cu : Nat), a' = { tmps := (T.setIfInBounds 83 (.agg #[.bool x.gone, .slice ua x.row.length cu])).setIfInBounds 15 (.pointer (some ⟨bx, 0, none⟩)), defers := [] } ∧ w9.heap.size ≤ bx ∧ W.heap[bx]? = some (.cells #[.bool x.gone, .slice ua x.row.length cu] 37 (0, 0)) ∧
          (Sk.Rw wr.heap.size W (.slice ua x.row.length cu) x.row ∧ x.row ≠ [] ∧ (∀ v ∈ x.row, Kn.Z v) ∧ x.row.length ≤ 4398046511104) ∧ Below wr.heap.size w9 W ∧ W.heap[n6]? = some (.cells #[.int .i64 (s.1.length : Int)] 3 (0, 0)))
        ?ownA ?assign ?body ?done ?stop
      case own =>
        rintro s A' B' row ⟨h1, h3⟩ hg hr
        exact ⟨h1.grown hg (by have := h1.size; have := HX9.out.1.size; omega) fun k e => by have := (hr k e).1; have := HX9.out.1.size; omega, Sk.blk_kept h3 hg fun r e => (hr r e).2⟩
      case ownx =>
        rintro c s A' B' row h0 hg hr
        exact h0
      case ownA =>
        rintro s x a' u A' B' row ⟨bx, ua, cu, h0, hbx, hb, ⟨he, he2⟩, h1, h3⟩ hg hr
        exact ⟨bx, ua, cu, h0, hbx, Sk.blk_kept hb hg fun r e => (hr r e).2, ⟨Sk.Rw.own _ _ _ _ () _ _ row he hg hr, he2⟩, h1.grown hg (by have := h1.size; have := HX9.out.1.size; omega) fun k e => by have := (hr k e).1; have := HX9.out.1.size; omega, Sk.blk_kept h3 hg fun r e => (hr r e).2⟩
      case assign =>
        rintro l pre O x args W hI ⟨u, rfl, hu, hne, hz, hl⟩ hpx hbW
        obtain ⟨ua, cu, rfl⟩ : ∃ ua cu, u = .slice ua x.row.length cu := by
          rcases hu.form with ⟨e, e0⟩ | ⟨g, c, e, _⟩
          · exact absurd e0 hne
          · exact ⟨_, c, e⟩
        have HI := Lib.hid hI
        have HU := Lib.hid (And.intro hu (And.intro hne (And.intro hz hl)))
        have HW8 : Hid (w9.heap.size ≤ W.heap.size) := Lib.hid hbW.size
        clear hI hu hne hz hl hpx hbW
        gi_wp2
        have ha : Below W.heap.size W (W.alloc (.cells #[.bool x.gone, .slice ua x.row.length cu] 37)) := (Below.refl _ W).alloc (Nat.le_refl _) _
        have hlt : ∀ b o, W.heap[b]? = some o → b < W.heap.size := fun b o h => (Array.getElem?_eq_some_iff.1 h).1
        refine ⟨ha, W.heap.size, ua, cu, ⟨rfl, rfl, rfl⟩, HW8.out, heap_alloc_new W _, ⟨HU.out.1.kept ha, HU.out.2⟩, HI.out.1.trans (ha.mono (Nat.le_trans HX9.out.1.size HW8.out)), (ha.block _ (hlt _ _ HI.out.2)).trans HI.out.2⟩
      case body =>
        rintro l pre O x a' W hl hlr ⟨bx, ua, cu, rfl, hbx, hbk, ⟨hu, hne, hz, hlen⟩, h1, h3⟩ hpx hbW
        simp only [List.setIfInBounds_toArray, List.set_cons_succ, List.set_cons_zero]
        obtain ⟨y, hy, rfl⟩ : ∃ y, N[pre.length]? = some y ∧ y.d = x := by
          obtain ⟨t, ht⟩ := hpx
          have h9 : (N.map Sk.E.d)[pre.length]? = some x := by rw [← ht]; simp
          rw [List.getElem?_map, Option.map_eq_some_iff] at h9
          exact h9
        have hpl : pre.length < N.length := (List.getElem?_eq_some_iff.1 hy).1
        have hni : ¬ (N.length : Int) ≤ (pre.length : Int) := by omega
        have hn0 : (0 : Int) ≤ (pre.length : Int) := by omega
        have hnl : (pre.length : Int) < (N.length : Int) := by omega
        have hF4 := HM4.out
        have hw1 : IntKind.i64.wrap ((pre.length : Int) + 1) = (pre.length : Int) + 1 := by rw [IntKind.wrap_i64]; omega
        obtain ⟨fb, ra, rc, rfl, ⟨f0, f1⟩, hv⟩ := HIT.out W.drew h1.drew pre.length y hy
        obtain ⟨q1, q0⟩ := HNF.out W.drew h1.drew
        have hu2 : Sk.Rw wr.heap.size W.drew (.slice ua y.row.length cu) y.row := hu.kept (Below.refl _ W).drew
        have CS := Lib.hid (Dd.rsame_c (.slice ua y.row.length cu) (.slice ra y.row.length rc) y.d y.d W.drew hu2.vals hv)
        rw [Sk.same_self] at CS
        have CS : Hid (Calls Tryd.prog 19 #[.agg #[.bool y.gone, .slice ua y.row.length cu], .agg #[.bool y.gone, .slice ra y.row.length rc]] W.drew fun e w' => e = .returned (.bool true) ∧ Below W.drew.heap.size W.drew w') := CS
        have n0 : W.drew.cell? ⟨n6, 0, none⟩ = some (.int .i64 (pre.length : Int)) := by rw [show W.drew.cell? ⟨n6, 0, none⟩ = W.cell? ⟨n6, 0, none⟩ from rfl, cell_of_row _ _ _ _ _ _ h3]; rfl
        have b0 : W.drew.cell? ⟨bx, 0, none⟩ = some (.bool y.gone) := by rw [show W.drew.cell? ⟨bx, 0, none⟩ = W.cell? ⟨bx, 0, none⟩ from rfl, cell_of_row _ _ _ _ _ _ hbk]; rfl
        have b1 : W.drew.cell? ⟨bx, 1, none⟩ = some (.slice ua y.row.length cu) := by rw [show W.drew.cell? ⟨bx, 1, none⟩ = W.cell? ⟨bx, 1, none⟩ from rfl, cell_of_row _ _ _ _ _ _ hbk]; rfl
        have HI := Lib.hid (And.intro h1 h3)
        have hmx : Tryd.prog.follows .mixedOrders = true := by kernel_rfl
        generalize y.gone = yg at CS b0 f0
        generalize y.row.length = yl at CS b1 f1
        clear hl hlr hbx hbk hu hu2 hne hz hlen h1 h3 hpx hbW hv HIT HNF
        have HKP : Hid (∀ W', Below W.drew.heap.size W.drew W' → (fun wx : World => wx.cell? ⟨n6, 0, none⟩ = some (.int .i64 (pre.length : Int)) ∧ wx.cell? ⟨q + 1, 0, none⟩ = some (.pointer (some ⟨q, 0, none⟩)) ∧ wx.cell? ⟨q, 0, none⟩ = some (.slice (some ⟨fb, 0, none⟩) N.length vc) ∧ wx.cell? ⟨bx, 0, none⟩ = some (.bool yg) ∧ wx.cell? ⟨bx, 1, none⟩ = some (.slice ua yl cu) ∧ wx.cell? ⟨fb, pre.length * 2, none⟩ = some (.bool yg) ∧ wx.cell? ⟨fb, pre.length * 2 + 1, none⟩ = some (.slice ra yl rc)) W') := Lib.hid fun W' g =>
          ⟨(g.cell (World.block_lt_of_cell? _ _ n0)).trans n0, (g.cell (World.block_lt_of_cell? _ _ q1)).trans q1, (g.cell (World.block_lt_of_cell? _ _ q0)).trans q0, (g.cell (World.block_lt_of_cell? _ _ b0)).trans b0, (g.cell (World.block_lt_of_cell? _ _ b1)).trans b1, (g.cell (World.block_lt_of_cell? _ _ f0)).trans f0, (g.cell (World.block_lt_of_cell? _ _ f1)).trans f1⟩
        clear n0 q1 q0 b0 b1 f0 f1
        gi_upto_region 17 with (fail)
        refine Sk.region_round (S := fun wx => wx.cell? ⟨n6, 0, none⟩ = some (.int .i64 (pre.length : Int)) ∧ wx.cell? ⟨q + 1, 0, none⟩ = some (.pointer (some ⟨q, 0, none⟩)) ∧ wx.cell? ⟨q, 0, none⟩ = some (.slice (some ⟨fb, 0, none⟩) N.length vc) ∧ wx.cell? ⟨bx, 0, none⟩ = some (.bool yg) ∧ wx.cell? ⟨bx, 1, none⟩ = some (.slice ua yl cu) ∧ wx.cell? ⟨fb, pre.length * 2, none⟩ = some (.bool yg) ∧ wx.cell? ⟨fb, pre.length * 2 + 1, none⟩ = some (.slice ra yl rc)) (by kernel_rfl) (by kernel_rfl) (HKP.out _ (Below.refl _ _)) (fun hHeld => ?_)
        refine wpAnyH_take (i := 0) (v := ?_) rfl (by kernel_rfl) (by kernel_rfl) (by kernel_rfl) (fun _ _ _ h => h) (Or.inl ⟨by rfl, ?_⟩) (by assumption) ?_
        rotate_left
        · (intro wx hSw; (try dsimp only at hSw); go_simp; (try with_reducible rfl))
        try simp only [Act.put, List.getElem_toArray, List.getElem_cons_zero, List.getElem_cons_succ, List.setIfInBounds_toArray, List.set_cons_zero, List.set_cons_succ]
        refine wpAnyH_take (i := 1) (v := ?_) rfl (by kernel_rfl) (by kernel_rfl) (by kernel_rfl) (fun _ _ _ h => h) (Or.inl ⟨by rfl, ?_⟩) (by assumption) ?_
        rotate_left
        · (intro wx hSw; (try dsimp only at hSw); go_simp; (try with_reducible rfl))
        try simp only [Act.put, List.getElem_toArray, List.getElem_cons_zero, List.getElem_cons_succ, List.setIfInBounds_toArray, List.set_cons_zero, List.set_cons_succ]
        refine wpAnyH_take (i := 2) (v := ?_) rfl (by kernel_rfl) (by kernel_rfl) (by kernel_rfl) (fun _ _ _ h => h) (Or.inl ⟨by rfl, ?_⟩) (by assumption) ?_
        rotate_left
        · (intro wx hSw; (try dsimp only at hSw); go_simp; (try with_reducible rfl))
        try simp only [Act.put, List.getElem_toArray, List.getElem_cons_zero, List.getElem_cons_succ, List.setIfInBounds_toArray, List.set_cons_zero, List.set_cons_succ]
        refine wpAnyH_take (i := 3) (v := ?_) rfl (by kernel_rfl) (by kernel_rfl) (by kernel_rfl) (fun _ _ _ h => h) (Or.inl ⟨by rfl, ?_⟩) (by assumption) ?_
        rotate_left
        · (intro wx hSw; (try dsimp only at hSw); go_simp; (try with_reducible rfl))
        try simp only [Act.put, List.getElem_toArray, List.getElem_cons_zero, List.getElem_cons_succ, List.setIfInBounds_toArray, List.set_cons_zero, List.set_cons_succ]
        refine wpAnyH_take (i := 4) (v := ?_) rfl (by kernel_rfl) (by kernel_rfl) (by kernel_rfl) (fun _ _ _ h => h) (Or.inl ⟨by rfl, ?_⟩) (by assumption) ?_
        rotate_left
        · (intro wx hSw; (try dsimp only at hSw); go_simp; (try with_reducible rfl))
        try simp only [Act.put, List.getElem_toArray, List.getElem_cons_zero, List.getElem_cons_succ, List.setIfInBounds_toArray, List.set_cons_zero, List.set_cons_succ]
        refine wpAnyH_take (i := 5) (v := ?_) rfl (by kernel_rfl) (by kernel_rfl) (by kernel_rfl) (fun _ _ _ h => h) (Or.inl ⟨by rfl, ?_⟩) (by assumption) ?_
        rotate_left
        · (intro wx hSw; (try dsimp only at hSw); go_simp; (try with_reducible rfl))
        try simp only [Act.put, List.getElem_toArray, List.getElem_cons_zero, List.getElem_cons_succ, List.setIfInBounds_toArray, List.set_cons_zero, List.set_cons_succ]
        refine wpAnyH_take (i := 6) (v := ?_) rfl (by kernel_rfl) (by kernel_rfl) (by kernel_rfl) (fun _ _ _ h => h) (Or.inl ⟨by rfl, ?_⟩) (by assumption) ?_
        rotate_left
        · (intro wx hSw; (try dsimp only at hSw); go_simp; (try with_reducible rfl))
        try simp only [Act.put, List.getElem_toArray, List.getElem_cons_zero, List.getElem_cons_succ, List.setIfInBounds_toArray, List.set_cons_zero, List.set_cons_succ]
        refine wpAnyH_take (i := 7) (v := ?_) rfl (by kernel_rfl) (by kernel_rfl) (by kernel_rfl) (fun _ _ _ h => h) (Or.inl ⟨by rfl, ?_⟩) (by assumption) ?_
        rotate_left
        · (intro wx hSw; (try dsimp only at hSw); go_simp; (try with_reducible rfl))
        try simp only [Act.put, List.getElem_toArray, List.getElem_cons_zero, List.getElem_cons_succ, List.setIfInBounds_toArray, List.set_cons_zero, List.set_cons_succ]
        refine wpAnyH_take (i := 8) (v := ?_) rfl (by kernel_rfl) (by kernel_rfl) (by kernel_rfl) (fun _ _ _ h => h) (Or.inl ⟨by rfl, ?_⟩) (by assumption) ?_
        rotate_left
        · (intro wx hSw; (try dsimp only at hSw); go_simp; (try with_reducible rfl))
        try simp only [Act.put, List.getElem_toArray, List.getElem_cons_zero, List.getElem_cons_succ, List.setIfInBounds_toArray, List.set_cons_zero, List.set_cons_succ]
        refine wpAnyH_take (i := 9) (v := ?_) rfl (by kernel_rfl) (by kernel_rfl) (by kernel_rfl) (fun _ _ _ h => h) (Or.inl ⟨by rfl, ?_⟩) (by assumption) ?_
        rotate_left
        · (intro wx hSw; (try dsimp only at hSw); go_simp; (try with_reducible rfl))
        try simp only [Act.put, List.getElem_toArray, List.getElem_cons_zero, List.getElem_cons_succ, List.setIfInBounds_toArray, List.set_cons_zero, List.set_cons_succ]
        refine wpAnyH_take (i := 10) (v := ?_) rfl (by kernel_rfl) (by kernel_rfl) (by kernel_rfl) (fun _ _ _ h => h) (Or.inl ⟨by rfl, ?_⟩) (by assumption) ?_
        rotate_left
        · (intro wx hSw; (try dsimp only at hSw); go_simp; (try with_reducible rfl))
        try simp only [Act.put, List.getElem_toArray, List.getElem_cons_zero, List.getElem_cons_succ, List.setIfInBounds_toArray, List.set_cons_zero, List.set_cons_succ]
        refine wpAnyH_take (i := 11) (v := ?_) rfl (by kernel_rfl) (by kernel_rfl) (by kernel_rfl) (fun _ _ _ h => h) (Or.inl ⟨by rfl, ?_⟩) (by assumption) ?_
        rotate_left
        · (intro wx hSw; (try dsimp only at hSw); go_simp; (try with_reducible rfl))
        try simp only [Act.put, List.getElem_toArray, List.getElem_cons_zero, List.getElem_cons_succ, List.setIfInBounds_toArray, List.set_cons_zero, List.set_cons_succ]
        refine wpAnyH_take (i := 12) (v := ?_) rfl (by kernel_rfl) (by kernel_rfl) (by kernel_rfl) (fun _ _ _ h => h) (Or.inl ⟨by rfl, ?_⟩) (by assumption) ?_
        rotate_left
        · (intro wx hSw; (try dsimp only at hSw); go_simp; (try with_reducible rfl))
        try simp only [Act.put, List.getElem_toArray, List.getElem_cons_zero, List.getElem_cons_succ, List.setIfInBounds_toArray, List.set_cons_zero, List.set_cons_succ]
        refine wpAnyH_take (i := 13) (v := ?_) rfl (by kernel_rfl) (by kernel_rfl) (by kernel_rfl) (fun _ _ _ h => h) (Or.inl ⟨by rfl, ?_⟩) (by assumption) ?_
        rotate_left
        · (intro wx hSw; (try dsimp only at hSw); go_simp; (try with_reducible rfl))
        try simp only [Act.put, List.getElem_toArray, List.getElem_cons_zero, List.getElem_cons_succ, List.setIfInBounds_toArray, List.set_cons_zero, List.set_cons_succ]
        refine wpAnyH_take (i := 14) (v := ?_) rfl (by kernel_rfl) (by kernel_rfl) (by kernel_rfl) (fun _ _ _ h => h) (Or.inl ⟨by rfl, ?_⟩) (by assumption) ?_
        rotate_left
        · (intro wx hSw; (try dsimp only at hSw); go_simp; (try with_reducible rfl))
        try simp only [Act.put, List.getElem_toArray, List.getElem_cons_zero, List.getElem_cons_succ, List.setIfInBounds_toArray, List.set_cons_zero, List.set_cons_succ]
        refine wpAnyH_take (i := 15) (v := ?_) rfl (by kernel_rfl) (by kernel_rfl) (by kernel_rfl) (fun _ _ _ h => h) (Or.inl ⟨by rfl, ?_⟩) (by assumption) ?_
        rotate_left
        · (intro wx hSw; (try dsimp only at hSw); go_simp; (try with_reducible rfl))
        try simp only [Act.put, List.getElem_toArray, List.getElem_cons_zero, List.getElem_cons_succ, List.setIfInBounds_toArray, List.set_cons_zero, List.set_cons_succ]
        refine Sk.held_one (i := 16) (o := ({ dst := some 100, op := Op.call { callee := Callee.value (Operand.func 19), args := #[Operand.tmp 92, Operand.tmp 99], argTypes := #[37, 37] }, type := 4, pos := "law.go:44", after := #[{ on := 8, ground := Ground.data }, { on := 15, ground := Ground.data }, { on := 7, ground := Ground.chain }, { on := 7, ground := Ground.guard }], guard := some (7, false) } : Oper)) (by kernel_rfl) rfl (fun K hK => ?_)
        go_simp
        go_at_call 19
        (with_reducible refine (CS.out).mono ?_); rintro e w10 ⟨rfl, g10⟩
        go_wp2_with fail
        refine hK.out _ _ (HKP.out _ g10) (fun hHeld => ?_)
        clear hK K
        try simp only [Act.put, List.getElem_toArray, List.getElem_cons_zero, List.getElem_cons_succ, List.setIfInBounds_toArray, List.set_cons_zero, List.set_cons_succ]
        refine wpAnyH_take (i := 17) (v := ?_) rfl (by kernel_rfl) (by kernel_rfl) (by kernel_rfl) (fun _ _ _ h => h) (Or.inl ⟨by rfl, ?_⟩) (by assumption) ?_
        rotate_left
        · (intro wx hSw; (try dsimp only at hSw); go_simp; (try with_reducible rfl))
        try simp only [Act.put, List.getElem_toArray, List.getElem_cons_zero, List.getElem_cons_succ, List.setIfInBounds_toArray, List.set_cons_zero, List.set_cons_succ]
        refine wpAnyH_take (i := 18) (v := ?_) rfl (by kernel_rfl) (by kernel_rfl) (by kernel_rfl) (fun _ _ _ h => h) (Or.inl ⟨by rfl, ?_⟩) (by assumption) ?_
        rotate_left
        · (intro wx hSw; (try dsimp only at hSw); go_simp; (try with_reducible rfl))
        try simp only [Act.put, List.getElem_toArray, List.getElem_cons_zero, List.getElem_cons_succ, List.setIfInBounds_toArray, List.set_cons_zero, List.set_cons_succ]
        refine wpAnyH_done (by kernel_rfl) ?_ _
        refine Sk.Calm.normal ?_
        have hlt : ∀ b o, W.heap[b]? = some o → b < W.heap.size := fun b o h => (Array.getElem?_eq_some_iff.1 h).1
        have g10 : Below W.heap.size W w10 := (Below.refl _ W).drew.trans g10
        have hi1 : Below wr.heap.size w9 w10 := HI.out.1.trans (g10.mono (Nat.le_trans HX9.out.1.size HI.out.1.size))
        have hi3 := (g10.block _ (hlt _ _ HI.out.2)).trans HI.out.2
        have n1 := Sk.cell_blk hi3
        have f3 := frozen_of_row _ _ 0 _ _ hi3
        obtain ⟨w11, hw11⟩ : ∃ W, W = w10.setCell ⟨n6, 0, none⟩ (.int .i64 ((pre.length : Int) + 1)) := ⟨_, rfl⟩
        have hb11 : Below wr.heap.size w10 w11 := by rw [hw11]; exact (Below.refl _ w10).setCell (p := ⟨n6, 0, none⟩) (by show wr.heap.size ≤ n6; exact HX9.out.2.2.1) _
        have HR : Hid (Sk.Kp w9.heap.size O O W w11 ∧ Below wr.heap.size W w11 ∧ Below wr.heap.size w9 w11 ∧ w11.heap[n6]? = some (.cells #[.int .i64 (((pre ++ [y.d]).length : Nat) : Int)] 3 (0, 0))) := Lib.hid (by
          refine ⟨?_, (g10.mono (Nat.le_trans HX9.out.1.size HI.out.1.size)).trans hb11, hi1.trans hb11, ?_⟩
          · rw [hw11]
            exact (Sk.Kp.below g10).trans (Sk.Kp.set O w10 (.inl HX9.out.2.1) _)
          · rw [hw11, List.length_append, List.length_cons, List.length_nil]
            exact Sk.one_set _ hi3)
        clear hlt hi1 hi3 hb11 g10 HI CS hHeld hy HKP
        gi_wp2
        rw [← hw11]
        exact ⟨O, HR.out⟩
      case done =>
        rintro D O W hD ⟨h1, h3⟩ hK
        rw [List.length_map] at h3
        obtain ⟨hr6, hb6⟩ := HBW.out W h1
        obtain ⟨q1, q0⟩ := HNF.out W.drew h1.drew
        have n1 : W.drew.cell? ⟨n6, 0, none⟩ = some (.int .i64 (N.length : Int)) := Sk.cell_blk (W := W.drew) h3
        have r1 : W.drew.cell? ⟨w.heap.size + 1, 0, none⟩ = some (.bool false) := Sk.cell_blk (W := W.drew) hr6
        have f1 : W.drew.frozen? ⟨w.heap.size + 1, 0, none⟩ = false := frozen_of_row W.drew _ 0 _ _ hr6
        have HFIN : Hid ((W.drew.setCell ⟨w.heap.size + 1, 0, none⟩ (.bool true)).heap[D]? = some (.deferred (some [])) ∧ (W.drew.setCell ⟨w.heap.size + 1, 0, none⟩ (.bool true)).heap[w.heap.size + 1]? = some (.cells #[.bool true] 4 (0, 0)) ∧ Below w.heap.size w ((W.drew.setCell ⟨w.heap.size + 1, 0, none⟩ (.bool true)).putObj D (.deferred none))) := Lib.hid (by
          have hne : D ≠ w.heap.size + 1 := fun e => by rw [e] at hK; rw [hr6] at hK; cases hK
          have hk2 : (W.drew.setCell ⟨w.heap.size + 1, 0, none⟩ (.bool true)).heap[D]? = some (.deferred (some [])) := (Below.heap_setCell _ _ _ _ (by first | exact hne | exact hne.symm)).trans hK
          have hle : w.heap.size ≤ D := Nat.le_trans HLE.out hD
          exact ⟨hk2, Sk.one_set (W := W.drew) _ hr6, (hb6.drew.setCell (p := ⟨w.heap.size + 1, 0, none⟩) (by show w.heap.size ≤ w.heap.size + 1; omega) _).trans (belowK_b (Nat.le_refl _) _ D _ _ hle hk2 rfl rfl)⟩)
        have HS1 := Lib.hid (And.intro n1 (And.intro q1 q0))
        have HS2 : Hid ((W.drew.setCell ⟨w.heap.size + 1, 0, none⟩ (.bool true)).cell? ⟨n6, 0, none⟩ = some (.int .i64 (N.length : Int)) ∧ (W.drew.setCell ⟨w.heap.size + 1, 0, none⟩ (.bool true)).cell? ⟨q + 1, 0, none⟩ = some (.pointer (some ⟨q, 0, none⟩)) ∧ (W.drew.setCell ⟨w.heap.size + 1, 0, none⟩ (.bool true)).cell? ⟨q, 0, none⟩ = some (.slice va N.length vc)) := Lib.hid (by
          have hq := HFAR.out
          have hf : ∀ b, b ≠ w.heap.size + 1 → (W.drew.setCell ⟨w.heap.size + 1, 0, none⟩ (.bool true)).cell? ⟨b, 0, none⟩ = W.drew.cell? ⟨b, 0, none⟩ := fun b hb => by
            exact World.cell?_setCell_far _ _ _ _ (by first | exact hb.symm | exact hb)
          exact ⟨(hf _ (by omega)).trans n1, (hf _ (by omega)).trans q1, (hf _ (by omega)).trans q0⟩)
        have htt : ((N.length : Int) == (N.length : Int)) = true := by simp
        clear h1 h3 hK hr6 hb6 hD HX9 HIT HNF HSEQ HBW
        gi_upto_region 20 with (fail)
        refine wpIn_wide.2 ?_
        go_region_held3 (fun wx => wx.cell? ⟨n6, 0, none⟩ = some (.int .i64 (N.length : Int)) ∧ wx.cell? ⟨q + 1, 0, none⟩ = some (.pointer (some ⟨q, 0, none⟩)) ∧ wx.cell? ⟨q, 0, none⟩ = some (.slice va N.length vc)) (first | exact HS1.out | exact HS2.out) (fail)
        all_goals
          first | refine NoPanic.normal ?_ | skip
          gi_wp2
          exact Sk.done_cell rfl rfl HFIN.out.1 HFIN.out.2.1 ⟨rfl, HFIN.out.2.2⟩
      case stop =>
        rintro D c pre O W hD hpre hne h0 hK
        exact h0.elim
end Go.Proofs.YtfjhffldhpcdmaaDoor
