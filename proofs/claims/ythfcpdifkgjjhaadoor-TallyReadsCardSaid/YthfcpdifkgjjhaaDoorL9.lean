/-
  The walk of the law TallyReads.
-/
import Derived.Test.YthfcpdifkgjjhaaDoorR5
import Derived.Test.YthfcpdifkgjjhaaDoorL8
namespace Go.Proofs.YthfcpdifkgjjhaaDoor
open Go.RowKit
theorem Ty.RC.by {r : Nat} {w w' : World} {s : ByteArray} {a e : Nat} (h : Ty.RC r w s a e) {x : Option Nat} (hg : w.grownBy w' x) (hx : some r ≠ x) : Ty.RC r w' s a e := by
  unfold Ty.RC at h ⊢
  rw [hg.block r (lt_of_block h) hx]
  exact h
theorem Ty.RS.by {r : Nat} {w w' : World} {s : ByteArray} {l : List UInt8} {e : Nat} (h : Ty.RS r s w l e) {x : Option Nat} (hg : w.grownBy w' x) (hx : some r ≠ x) : Ty.RS r s w' l e := by
  obtain ⟨a, ha, hl, hR⟩ := h
  exact ⟨a, ha, hl, hR.by hg hx⟩
theorem Ty.RS.len {r : Nat} {w : World} {s : ByteArray} {l : List UInt8} {e : Nat} (h : Ty.RS r s w l e) : l.length ≤ s.size := by
  obtain ⟨a, ha, hl, _⟩ := h
  rw [← hl, Ty.len_drop]
  omega
theorem Ty.RS.lt {r : Nat} {w : World} {s : ByteArray} {l : List UInt8} {e : Nat} (h : Ty.RS r s w l e) : r < w.heap.size := by
  obtain ⟨_, _, _, hR⟩ := h
  exact hR.lt
set_option maxHeartbeats 400000 in
theorem Ty.rdone_q (r : Nat) (s : ByteArray) (hs : s.size ≤ 140737488351232) (a : Nat) (ha : a ≤ s.size) (l : List UInt8) (hl : s.data.toList.drop a = l) (er : Nat) (w : World) (hR : Ty.RC r w s a er) :
    Calls Tryd.prog 31 #[.pointer (some ⟨r, 0, none⟩)] w fun e w' => e = .returned (.int .i64 (Ty.fin l er : Int)) ∧ ∃ n, w' = w.drewN n := by
  obtain ⟨c0, c1, c2, _, _⟩ := hR.cells
  have hll : l.length = s.size - a := by rw [← hl, Ty.len_drop]
  clear hl
  by_cases he : er = 0
  · subst he
    by_cases hl : (0 : Int) < ((s.size - a : Nat) : Int)
    · have HF : Hid (Ty.fin l 0 = 5) := Lib.hid (by unfold Ty.fin; rw [if_pos ⟨rfl, by intro e; subst e; simp at hll; omega⟩])
      clear hll
      go_enter Tryd.func31, Tryd.ntmps31
      go_wp2_with fail
      refine (Ty.rleft_c r s a 0 ha hs _ hR).mono ?_
      rintro e w1 ⟨rfl, n1, rfl⟩
      go_wp2
      go_ret
      exact ⟨by rw [HF.out]; rfl, n1, rfl⟩
    · have HF : Hid (Ty.fin l 0 = 0) := Lib.hid (by unfold Ty.fin; rw [if_neg (by rintro ⟨_, h2⟩; exact h2 (List.eq_nil_of_length_eq_zero (by omega)))])
      clear hll
      go_enter Tryd.func31, Tryd.ntmps31
      go_wp2_with fail
      refine (Ty.rleft_c r s a 0 ha hs _ hR).mono ?_
      rintro e w1 ⟨rfl, n1, rfl⟩
      go_wp2
      go_ret
      exact ⟨by rw [HF.out]; rfl, n1, rfl⟩
  · have hne : ((er : Int) == 0) = false := by rw [beq_eq_false_iff_ne]; omega
    have HF : Hid (Ty.fin l er = er) := Lib.hid (by unfold Ty.fin; rw [if_neg (by rintro ⟨h1, _⟩; exact he h1)])
    clear he hll
    go_enter Tryd.func31, Tryd.ntmps31
    go_wp2
    go_ret
    exact ⟨by rw [HF.out]; rfl, 0, rfl⟩
theorem Ty.rleft_q (r : Nat) (s : ByteArray) (hs : s.size ≤ 140737488351232) (a : Nat) (ha : a ≤ s.size) (l : List UInt8) (hl : s.data.toList.drop a = l) (er : Nat) (w : World) (hR : Ty.RC r w s a er) :
    Calls Tryd.prog 28 #[.pointer (some ⟨r, 0, none⟩)] w fun e w' => e = .returned (.int .i64 (l.length : Int)) ∧ ∃ n, w' = w.drewN n := by
  have := Ty.rleft_c r s a er ha hs w hR
  rw [← Ty.len_drop, hl] at this
  exact this
theorem Ty.S_rfl (a : List UInt8) : ((Ty.S a).toList == (Ty.S a).toList) = true := by rw [Ty.S_beq]; simp
/-- The cells of the things. -/
def Ty.Row0 (b off : Nat) (L : List Ty.Thing) (w : World) : Prop := ∀ i t, L[i]? = some t → w.cell? ⟨b, off + i * 3, none⟩ = some (.int .i64 t.k) ∧ w.cell? ⟨b, off + i * 3 + 1, none⟩ = some (.int .i64 t.n) ∧ w.cell? ⟨b, off + i * 3 + 2, none⟩ = some (.string (Ty.S t.s)) ∧ Ty.I64 t.n
theorem Ty.Row0.later {b off : Nat} {L : List Ty.Thing} {w w' : World} (h : Ty.Row0 b off L w) {B : Nat} (hb : Below B w w') (hB : b < B) : Ty.Row0 b off L w' := fun i t ht => by
  obtain ⟨a1, a2, a3, a4⟩ := h i t ht
  exact ⟨(hb.cell (p := ⟨b, off + i * 3, none⟩) hB).trans a1, (hb.cell (p := ⟨b, off + i * 3 + 1, none⟩) hB).trans a2, (hb.cell (p := ⟨b, off + i * 3 + 2, none⟩) hB).trans a3, a4⟩
set_option maxRecDepth 100000 in
set_option maxHeartbeats 4000000 in
theorem Ty.reads_w (s : ByteArray) (hs : s.size ≤ 140737488351232) (b off len c : Nat) (L : List Ty.Thing) (hlen : L.length = len) (hm : len ≤ 9223372036854775807) (w : World) (hw : Ty.Tabs w) (hlt : b < w.heap.size) (hc : Ty.Row0 b off L w) :
    Calls Tryd.prog 4 #[.string s, .slice (some ⟨b, off, none⟩) len c] w fun e w' => e = .returned (.bool true) ∧ Below w.heap.size w w' := by
  have HL := Lib.hid hlen
  clear hlen
  go_enter Tryd.func4, Tryd.ntmps4
  go_wp2_with fail
  refine (Ty.lives_c _ hw).mono ?_
  rintro e w1 ⟨rfl, hb1⟩
  have hT1 := hw.below hb1 hw.two
  have hR1 := hc.later hb1 hlt
  have hlt1 : b < w1.heap.size := Nat.lt_of_lt_of_le hlt hb1.size
  clear hc hw hlt
  go_wp2_with fail
  refine (Ty.from_f s.data.toList _ hT1).mono ?_
  rintro e w2 ⟨rfl, hC, hT2, hg2⟩
  go_wp2_with fail
  have hRS : Ty.RS w2.heap.size s (w2.alloc (.cells #[.string s, .int .i64 0, .int .i64 0] 38)) s.data.toList 0 := ⟨0, Nat.zero_le _, rfl, heap_alloc_new w2 _⟩
  have hC2 := hC.by (World.grownBy_alloc w2 (.cells #[.string s, .int .i64 0, .int .i64 0] 38) none) (by intro e; cases e)
  have hb2 : Below w1.heap.size w1 (w2.alloc (.cells #[.string s, .int .i64 0, .int .i64 0] 38)) := (Ty.below_none hg2 (Nat.le_refl _)).alloc hg2.size _
  have hlr : w1.heap.size ≤ w1.heap.size := Nat.le_refl _
  have hlq : w1.heap.size ≤ w2.heap.size := hg2.size
  have hne : w1.heap.size < w2.heap.size := hC.lt
  generalize w2.alloc (.cells #[.string s, .int .i64 0, .int .i64 0] 38) = w3 at hRS hC2 hb2 ⊢
  clear hC hg2 hT2
  obtain ⟨cb, hcb⟩ : ∃ cb, cb = w1.heap.size := ⟨_, rfl⟩
  rw [← hcb] at hC2 hne hlr ⊢
  have hlr : w1.heap.size ≤ cb := by omega
  clear hcb
  generalize w2.heap.size = r at hRS hlq hne ⊢
  have hne1 : (some r : Option Nat) ≠ some cb := fun e => by have := Option.some.inj e; omega
  go_wp2_with fail
  go_loopw [7] (fun i wr => ∃ k : Nat, k ≤ len ∧ i = .int .i64 k ∧ ∃ l er, Ty.Cur cb wr l er ∧ Ty.RS r s wr l er ∧ Below w1.heap.size w1 wr) (fun i _ => len - (intOf i).toNat)
  case atStart => exact ⟨0, Nat.zero_le _, rfl, _, _, hC2, hRS, hb2⟩
  case round =>
    obtain ⟨k, hk, rfl, l, er, hC, hS, hb⟩ := hrel
    have hbs := hb.size
    by_cases hkl : k < len
    · obtain ⟨t, ht⟩ : ∃ t, L[k]? = some t := ⟨_, List.getElem?_eq_getElem (by rw [HL.out]; exact hkl)⟩
      obtain ⟨c0, c1, c2, ti⟩ := (hR1.later hb hlt1) k t ht
      have hTr := hT1.below hb hT1.two
      clear ht
      go_wp2_with fail
      refine (Ty.kind_c t.k t.n (Ty.S t.s) t.kd rfl _).mono ?_
      rintro e wk ⟨rfl, hbk⟩
      have hltr : b < wr.heap.size := Nat.lt_of_lt_of_le hlt1 hbs
      rw [← hbk.cell (p := ⟨b, off + k * 3 + 1, none⟩) hltr] at c1
      have hCk := hC.below hbk hC.lt
      have hSk : Ty.RS r s wk l er := by
        obtain ⟨a, ha, hl, hR⟩ := hS
        exact ⟨a, ha, hl, hR.below hbk hR.lt⟩
      have hTk := hTr.below hbk hTr.two
      have hbk1 := hb.trans (hbk.mono hbs)
      have hbs1 := hbk1.size
      have hbn : (some b : Option Nat) ≠ some cb := fun e => by have := Option.some.inj e; omega
      clear c0 c2 hbk hC hS hTr hbs hltr hb
      rcases Ty.kd_cases t with hq | hq | hq | hq
      · have hlc : l.length ≤ 9223372036854775807 := by have := hSk.len; omega
        go_wp2_with fail
        refine (Ty.cuint_c _ _ _ _ hTk hCk hlc).mono ?_
        rintro e w2 ⟨rfl, hC2, hg2⟩
        have hS2 := hSk.by hg2 hne1
        go_wp2_with fail
        refine (Ty.ruint_m r s hs _ _ _ hS2).mono ?_
        rintro e w3 ⟨rfl, hS3, hg3⟩
        have hC3 := hC2.by hg3 hne1
        have hb3 := hbk1.trans ((Ty.below_at hg2 hbs1 hlr).trans (Ty.below_at hg3 (Nat.le_trans hbs1 hg2.size) hlq))
        clear hC2 hS2 hg2 hg3 hlc
        generalize (Ty.rdU l er).2.1 = l2 at hC3 hS3
        generalize (Ty.rdU l er).2.2 = e2 at hC3 hS3
        obtain ⟨a, ha, hl, hR⟩ := hS3
        obtain ⟨_, _, d2, _, _⟩ := hR.cells
        go_wp2_with fail
        go_quiet ((first | (go_at_call 27; exact Calls.quiet_of_same (Ty.left_c _ _ _ _ (hC3.drewN _))) | (go_at_call 28; exact Calls.quiet_of (Ty.rleft_q r s hs a ha _ hl _ _ (hR.drewN _))) | (go_at_call 29; exact Calls.quiet_of_same (Ty.err_c _ _ _ _ (hC3.drewN _))) | (go_at_call 30; exact Calls.quiet_of_same (Ty.done_c _ _ _ _ (hC3.drewN _))) | (go_at_call 31; exact Calls.quiet_of (Ty.rdone_q r s hs a ha _ hl _ _ (hR.drewN _)))))
        go_wp2_with fail
        go_roundw
        case rel => exact ⟨k + 1, by omega, by simp, _, _, hC3.drewN _, ⟨a, ha, hl, hR.drewN _⟩, below_drewN hb3 _⟩
        case measure => simp [intOf]; omega
      · have hlc : l.length ≤ 9223372036854775807 := by have := hSk.len; omega
        go_wp2_with fail
        refine (Ty.cint_c _ _ _ _ hTk hCk hlc).mono ?_
        rintro e w2 ⟨rfl, hC2, hg2⟩
        have hS2 := hSk.by hg2 hne1
        go_wp2_with fail
        refine (Ty.rint_m r s hs _ _ _ hS2).mono ?_
        rintro e w3 ⟨rfl, hS3, hg3⟩
        have hC3 := hC2.by hg3 hne1
        have hb3 := hbk1.trans ((Ty.below_at hg2 hbs1 hlr).trans (Ty.below_at hg3 (Nat.le_trans hbs1 hg2.size) hlq))
        clear hC2 hS2 hg2 hg3 hlc
        generalize (Ty.rdU l er).2.1 = l2 at hC3 hS3
        generalize (Ty.rdU l er).2.2 = e2 at hC3 hS3
        obtain ⟨a, ha, hl, hR⟩ := hS3
        obtain ⟨_, _, d2, _, _⟩ := hR.cells
        go_wp2_with fail
        go_quiet ((first | (go_at_call 27; exact Calls.quiet_of_same (Ty.left_c _ _ _ _ (hC3.drewN _))) | (go_at_call 28; exact Calls.quiet_of (Ty.rleft_q r s hs a ha _ hl _ _ (hR.drewN _))) | (go_at_call 29; exact Calls.quiet_of_same (Ty.err_c _ _ _ _ (hC3.drewN _))) | (go_at_call 30; exact Calls.quiet_of_same (Ty.done_c _ _ _ _ (hC3.drewN _))) | (go_at_call 31; exact Calls.quiet_of (Ty.rdone_q r s hs a ha _ hl _ _ (hR.drewN _)))))
        go_wp2_with fail
        go_roundw
        case rel => exact ⟨k + 1, by omega, by simp, _, _, hC3.drewN _, ⟨a, ha, hl, hR.drewN _⟩, below_drewN hb3 _⟩
        case measure => simp [intOf]; omega
      · have hlc : Hid (l.length ≤ 9223372036854775807) := Lib.hid (by have := hSk.len; omega)
        have hzz := Ty.S_rfl (Ty.rdT t.n l er).1
        go_wp2_with fail
        go_region_with (first
          | (go_at_call 23; refine (Ty.ctext_c _ _ _ _ ti _ hTk.drew hCk.drew hlc.out).mono ?_; rintro e w2 ⟨rfl, hC2, hg2⟩; have c1' := hg2.cell c1 hbn; have hS2 := Ty.RS.by (w := wk.drew) hSk hg2 hne1)
          | (go_at_call 24; refine (Ty.rtext_m r s hs _ _ _ ti _ hS2).mono ?_; rintro e w3 ⟨rfl, hS3, hg3⟩; have hC3 := hC2.by hg3 hne1))
        all_goals
          have hb3 := hbk1.drew.trans ((Ty.below_at hg2 hbs1 hlr).trans (Ty.below_at hg3 (Nat.le_trans hbs1 hg2.size) hlq))
          try clear c1'
          clear hC2 hS2 hg2 hg3 hlc
          generalize (Ty.rdT t.n l er).2.1 = l2 at hC3 hS3
          generalize (Ty.rdT t.n l er).2.2 = e2 at hC3 hS3
          obtain ⟨a, ha, hl, hR⟩ := hS3
          obtain ⟨_, _, d2, _, _⟩ := hR.cells
          go_wp2_with fail
          go_quiet ((first | (go_at_call 27; exact Calls.quiet_of_same (Ty.left_c _ _ _ _ (hC3.drewN _))) | (go_at_call 28; exact Calls.quiet_of (Ty.rleft_q r s hs a ha _ hl _ _ (hR.drewN _))) | (go_at_call 29; exact Calls.quiet_of_same (Ty.err_c _ _ _ _ (hC3.drewN _))) | (go_at_call 30; exact Calls.quiet_of_same (Ty.done_c _ _ _ _ (hC3.drewN _))) | (go_at_call 31; exact Calls.quiet_of (Ty.rdone_q r s hs a ha _ hl _ _ (hR.drewN _)))))
          go_wp2_with fail
          go_roundw
          case rel => exact ⟨k + 1, by omega, by simp, _, _, hC3.drewN _, ⟨a, ha, hl, hR.drewN _⟩, below_drewN hb3 _⟩
          case measure => simp [intOf]; omega
      · have hlc : l.length ≤ 9223372036854775807 := by have := hSk.len; omega
        go_wp2_with fail
        refine (Ty.cbyte_c _ _ _ _ hCk hlc).mono ?_
        rintro e w2 ⟨rfl, hC2, hg2⟩
        have hS2 := hSk.by hg2 hne1
        go_wp2_with fail
        refine (Ty.rbyte_m r s hs _ _ _ hS2).mono ?_
        rintro e w3 ⟨rfl, hS3, hg3⟩
        have hC3 := hC2.by hg3 hne1
        have hb3 := hbk1.trans ((Ty.below_at hg2 hbs1 hlr).trans (Ty.below_at hg3 (Nat.le_trans hbs1 hg2.size) hlq))
        clear hC2 hS2 hg2 hg3 hlc
        generalize (Ty.rdB l er).2.1 = l2 at hC3 hS3
        generalize (Ty.rdB l er).2.2 = e2 at hC3 hS3
        obtain ⟨a, ha, hl, hR⟩ := hS3
        obtain ⟨_, _, d2, _, _⟩ := hR.cells
        go_wp2_with fail
        go_quiet ((first | (go_at_call 27; exact Calls.quiet_of_same (Ty.left_c _ _ _ _ (hC3.drewN _))) | (go_at_call 28; exact Calls.quiet_of (Ty.rleft_q r s hs a ha _ hl _ _ (hR.drewN _))) | (go_at_call 29; exact Calls.quiet_of_same (Ty.err_c _ _ _ _ (hC3.drewN _))) | (go_at_call 30; exact Calls.quiet_of_same (Ty.done_c _ _ _ _ (hC3.drewN _))) | (go_at_call 31; exact Calls.quiet_of (Ty.rdone_q r s hs a ha _ hl _ _ (hR.drewN _)))))
        go_wp2_with fail
        go_roundw
        case rel => exact ⟨k + 1, by omega, by simp, _, _, hC3.drewN _, ⟨a, ha, hl, hR.drewN _⟩, below_drewN hb3 _⟩
        case measure => simp [intOf]; omega
    · obtain rfl : k = len := by omega
      go_wp2
      go_ret
      exact ⟨rfl, hb1.trans (hb.mono hb1.size)⟩
end Go.Proofs.YthfcpdifkgjjhaaDoor
