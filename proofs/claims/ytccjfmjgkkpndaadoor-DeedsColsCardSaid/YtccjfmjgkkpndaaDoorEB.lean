/-
  Contracts of package deeds: the reader's flag, value and Done.
  Contracts of package deeds: the reader's value.
  Contracts of package deeds: the reader's deed.
-/
import Derived.Test.YtccjfmjgkkpndaaDoorEA
import Derived.Test.YtccjfmjgkkpndaaDoorUC
namespace Go.Proofs.YtccjfmjgkkpndaaDoor
open Go.RowKit
/-- From one world to the next only two blocks of those there were written. -/
structure Dd.By2 (r b : Nat) (w w' : World) : Prop where
  os : w'.os = w.os
  tape : w'.tape = w.tape
  output : w'.output = w.output
  size : w.heap.size ≤ w'.heap.size
  block : ∀ k, k < w.heap.size → k ≠ r → k ≠ b → w'.heap[k]? = w.heap[k]?
theorem Dd.By2.refl (r b : Nat) (w : World) : Dd.By2 r b w w := ⟨rfl, rfl, rfl, Nat.le_refl _, fun _ _ _ _ => rfl⟩
theorem Dd.By2.trans {r b : Nat} {u v w : World} (h : Dd.By2 r b u v) (k : Dd.By2 r b v w) : Dd.By2 r b u w :=
  ⟨k.os.trans h.os, k.tape.trans h.tape, k.output.trans h.output, Nat.le_trans h.size k.size, fun i hi h1 h2 => (k.block i (Nat.lt_of_lt_of_le hi h.size) h1 h2).trans (h.block i hi h1 h2)⟩
theorem Dd.By2.ofB {r b : Nat} {w w' : World} (h : w.grownBy w' (some b)) : Dd.By2 r b w w' :=
  ⟨h.os, h.tape, h.output, h.size, fun k hk _ h2 => h.block k hk (fun e => h2 (Option.some.inj e))⟩
theorem Dd.By2.ofBelow {r b : Nat} {w w' : World} (h : Below w.heap.size w w') : Dd.By2 r b w w' :=
  ⟨h.os, h.tape, h.output, h.size, fun k hk _ _ => h.block k hk⟩
theorem Dd.By2.set {r b : Nat} (w : World) (i : Nat) (u : Value) : Dd.By2 r b w (w.setCell ⟨r, i, none⟩ u) :=
  ⟨rfl, rfl, rfl, by simp [World.setCell], fun k _ h1 _ => Below.heap_setCell _ _ _ _ (by show k ≠ r; exact h1)⟩
theorem Dd.By2.cell {r b : Nat} {w w' : World} (h : Dd.By2 r b w w') {a : Addr} {v : Value} (hv : w.cell? a = some v) (h1 : a.block ≠ r) (h2 : a.block ≠ b) : w'.cell? a = some v :=
  (World.cell?_of_block (h.block a.block (World.block_lt_of_cell? w a hv) h1 h2)).trans hv
theorem Dd.By2.below {r b B : Nat} {w w' : World} (h : Dd.By2 r b w w') (hr : B ≤ r) (hb : B ≤ b) (hB : B ≤ w.heap.size) : Below B w w' :=
  ⟨h.os, h.tape, h.output, h.size, fun k hk => h.block k (by omega) (by omega) (by omega)⟩
/-- A reader lies in its block, its cursor in another. -/
structure Dd.Rdr (r b : Nat) (w : World) (s : Dd.St) : Prop where
  cur : Ty.Cur b w s.l s.e
  box : w.heap[r]? = some (.cells #[.pointer (some ⟨b, 0, none⟩), .bool s.wr] 58 (0, 0))
  ne : b ≠ r
  tabs : Ty.Tabs w
  gb : Ty.G ≤ b
  gr : Ty.G ≤ r
  short : s.l.length ≤ 9223372036854775807
theorem Dd.Rdr.lt {r b : Nat} {w : World} {s : Dd.St} (h : Dd.Rdr r b w s) : r < w.heap.size ∧ b < w.heap.size := ⟨lt_of_block h.box, h.cur.lt⟩
theorem Dd.Rdr.kept {r b : Nat} {w w' : World} {s : Dd.St} (h : Dd.Rdr r b w s) (g : Below w.heap.size w w') : Dd.Rdr r b w' s :=
  ⟨(g.block b h.lt.2).trans h.cur, (g.block r h.lt.1).trans h.box, h.ne, Ty.Tabs.below h.tabs g (Ty.Tabs.two h.tabs), h.gb, h.gr, h.short⟩
/-- A store into another block. -/
theorem Dd.Rdr.other {r b g i : Nat} {w : World} {s : Dd.St} (h : Dd.Rdr r b w s) (h1 : g ≠ r) (h2 : g ≠ b) (h3 : Ty.G ≤ g) (u : Value) : Dd.Rdr r b (w.setCell ⟨g, i, none⟩ u) s :=
  ⟨(Below.heap_setCell _ _ _ _ (by show b ≠ g; omega)).trans h.cur, (Below.heap_setCell _ _ _ _ (by show r ≠ g; omega)).trans h.box, h.ne, Ty.Tabs.by h.tabs (Ty.by_set w g i u) (fun k hk => by have := Option.some.inj hk; omega), h.gb, h.gr, h.short⟩
/-- The cursor was moved. -/
theorem Dd.Rdr.moved {r b : Nat} {w w' : World} {s : Dd.St} {l : List UInt8} {e : Nat} (h : Dd.Rdr r b w s) (hc : Ty.Cur b w' l e) (hg : w.grownBy w' (some b)) (hl : l.length ≤ s.l.length) : Dd.Rdr r b w' ⟨l, e, s.wr⟩ :=
  ⟨hc, (hg.block r h.lt.1 (fun e => h.ne (Option.some.inj e).symm)).trans h.box, h.ne, Ty.Tabs.by h.tabs hg (fun k hk => by have := Option.some.inj hk; have := h.gb; omega), h.gb, h.gr, Nat.le_trans hl h.short⟩
/-- The flag was set. -/
theorem Dd.Rdr.marked {r b : Nat} {w : World} {l : List UInt8} {e : Nat} {x : Bool} (h : Dd.Rdr r b w ⟨l, e, x⟩) (y : Bool) : Dd.Rdr r b (w.setCell ⟨r, 1, none⟩ (.bool y)) ⟨l, e, y⟩ :=
  ⟨(Below.heap_setCell _ _ _ _ (by show b ≠ r; exact h.ne)).trans h.cur, Ty.two_set1 h.box, h.ne, Ty.Tabs.by h.tabs (Ty.by_set w r 1 _) (fun k hk => by have := Option.some.inj hk; have := h.gr; omega), h.gb, h.gr, h.short⟩
/-- What a method of the reader leaves. -/
def Dd.Went (r b : Nat) (w : World) (v : Value) (s : Dd.St) (e : Ending) (w' : World) : Prop := e = .returned v ∧ Dd.Rdr r b w' s ∧ Dd.By2 r b w w'
set_option maxHeartbeats 1000000 in
set_option maxRecDepth 100000 in
theorem Dd.flag_c (r b : Nat) (s : Dd.St) (w : World) (h : Dd.Rdr r b w s) :
    Calls Tryd.prog 42 #[.pointer (some ⟨r, 0, none⟩)] w (Dd.Went r b w (.bool (Dd.stF s).1) (Dd.stF s).2) := by
  have HR := Lib.hid h
  obtain ⟨b0, b1, z0, z1⟩ := Dd.two h.box
  have cb := Ty.cbyte_c b s.l s.e w h.cur h.short
  have hle := (Dd.rdB_le s.l s.e).1
  unfold Dd.stF
  generalize Ty.rdB s.l s.e = R at cb hle ⊢
  obtain ⟨B, l2, e2⟩ := R
  simp only at cb hle ⊢
  obtain ⟨l, e, wr⟩ := s
  simp only at b0 b1 hle HR ⊢
  have hB : (1 < B ∧ (1 : Int) < (B : Int) ∧ ((B : Int) == 1) = false ∧ (B == 1) = false ∧ decide (1 < B) = true) ∨ (¬ 1 < B ∧ ¬ (1 : Int) < (B : Int) ∧ ((B : Int) == 1) = (B == 1) ∧ decide (1 < B) = false) := by
    by_cases h1 : 1 < B
    · exact .inl ⟨h1, by omega, by rw [beq_eq_false_iff_ne]; omega, by rw [beq_eq_false_iff_ne]; omega, by simp [h1]⟩
    · refine .inr ⟨h1, by omega, ?_, by simp [h1]⟩
      by_cases h2 : B = 1
      · rw [h2]; rfl
      · rw [beq_eq_false_iff_ne.2 h2, beq_eq_false_iff_ne.2 (by omega)]
  clear h
  rcases hB with ⟨_, i1, i2, i3, i4⟩ | ⟨_, i1, i2, i4⟩
  · rw [i3, i4]
    cases wr
    all_goals
      go_enter Tryd.func42, Tryd.ntmps42
      go_wp2_with fail
      with_reducible refine cb.mono ?_
      rintro e9 w1 ⟨rfl, hc, hg⟩
      have HR1 := Lib.hid (HR.out.moved hc hg hle)
      have HG := Lib.hid hg
      obtain ⟨c0, c1, f0, f1⟩ := Dd.two HR1.out.box
      clear b0 b1 z0 z1 hc hg
      go_wp2
      go_ret
      exact ⟨rfl, HR1.out.marked true, (Dd.By2.ofB HG.out).trans (Dd.By2.set _ _ _)⟩
  · rw [i4]
    have HD : Hid (decide ((1 : Int) < (B : Int)) = false) := Lib.hid (decide_eq_false i1)
    cases wr
    · go_enter Tryd.func42, Tryd.ntmps42
      go_wp2_with fail
      with_reducible refine cb.mono ?_
      rintro e9 w1 ⟨rfl, hc, hg⟩
      have HR1 := Lib.hid (HR.out.moved hc hg hle)
      have HG := Lib.hid hg
      obtain ⟨c0, c1, f0, f1⟩ := Dd.two HR1.out.box
      clear b0 b1 z0 z1 hc hg
      go_wp2
      go_ret
      rw [HD.out]
      exact ⟨rfl, HR1.out.marked false, (Dd.By2.ofB HG.out).trans (Dd.By2.set _ _ _)⟩
    · go_enter Tryd.func42, Tryd.ntmps42
      go_wp2_with fail
      with_reducible refine cb.mono ?_
      rintro e9 w1 ⟨rfl, hc, hg⟩
      have HR1 := Lib.hid (HR.out.moved hc hg hle)
      have HG := Lib.hid hg
      obtain ⟨c0, c1, f0, f1⟩ := Dd.two HR1.out.box
      clear b0 b1 z0 z1 hc hg
      go_wp2
      go_ret
      exact ⟨rfl, HR1.out.marked true, (Dd.By2.ofB HG.out).trans (Dd.By2.set _ _ _)⟩
set_option maxHeartbeats 400000 in
theorem Dd.done_c (r b : Nat) (s : Dd.St) (w : World) (h : Dd.Rdr r b w s) :
    Calls Tryd.prog 28 #[.pointer (some ⟨r, 0, none⟩)] w fun e w' => e = .returned (.int .i64 ((s.done : Nat) : Int)) ∧ w' = w := by
  obtain ⟨b0, b1, z0, z1⟩ := Dd.two h.box
  have cd := Ty.done_c b s.l s.e w h.cur
  obtain ⟨l, e, wr⟩ := s
  unfold Dd.St.done
  simp only at b0 b1 cd ⊢
  clear h
  cases wr
  · rw [if_neg (by decide)]
    generalize Ty.fin l e = F at cd ⊢
    go_enter Tryd.func28, Tryd.ntmps28
    go_wp2_with fail
    with_reducible refine cd.mono ?_
    rintro e9 w1 ⟨rfl, rfl⟩
    go_wp2
    go_ret
    exact ⟨rfl, rfl⟩
  · rw [if_pos rfl]
    go_enter Tryd.func28, Tryd.ntmps28
    go_wp2
    go_ret
    exact ⟨rfl, rfl⟩
end Go.Proofs.YtccjfmjgkkpndaaDoor

namespace Go.Proofs.YtccjfmjgkkpndaaDoor
open Go.RowKit
/-- A function's one result that lies in a cell. -/
theorem Dd.results_cell {fn : Func} {p : Tmp} {ty : TypeId} (h : fn.results = #[.cell p ty]) (tmps : Array Value) (P : Program) (w : World) :
    (results fn tmps).run P w = ((asAddr (tmps.getD p undef)).run P w).andThen fun a w1 => (loadVar ty a).run P w1 := by
  simp only [results, h]
  simp [Sem.run_bind, Result.andThen]
theorem Dd.stV_plain {c : Kn.C} {s : Dd.St} (h : c.null = false) : Dd.stV c s = Dd.stP c s := by unfold Dd.stV; rw [h, if_neg (by decide)]
theorem Dd.stV_nul {c : Kn.C} {s : Dd.St} (h : c.null = true) (hb : (Dd.stF s).1 = true) : Dd.stV c s = (Cl.nul, (Dd.stF s).2) := by unfold Dd.stV; rw [if_pos h, if_pos hb]
theorem Dd.stV_there {c : Kn.C} {s : Dd.St} (h : c.null = true) (hb : (Dd.stF s).1 = false) : Dd.stV c s = Dd.stP c (Dd.stF s).2 := by unfold Dd.stV; rw [if_pos h, hb, if_neg (by decide)]
theorem Dd.stP_str {c : Kn.C} {s : Dd.St} (h : c.k = 2) : Dd.stP c s = (Cl.ofS (Ty.rdT 64 s.l s.e).1, ⟨(Ty.rdT 64 s.l s.e).2.1, (Ty.rdT 64 s.l s.e).2.2, s.wr⟩) := by unfold Dd.stP; rw [if_pos h]
theorem Dd.stP_num {c : Kn.C} {s : Dd.St} (h : c.k ≠ 2) : Dd.stP c s = (Cl.ofN (Ty.zag ((Ty.rdU s.l s.e).1 : Int)), ⟨(Ty.rdU s.l s.e).2.1, (Ty.rdU s.l s.e).2.2, s.wr⟩) := by unfold Dd.stP; rw [if_neg h]
theorem Dd.rdT_le (l : List UInt8) (e : Nat) : (Ty.rdT 64 l e).2.1.length ≤ l.length ∧ (Ty.rdT 64 l e).1.length ≤ l.length := by
  have h := Ty.txt_len l 64
  unfold Ty.rdT
  split
  · exact ⟨Nat.le_refl _, Nat.zero_le _⟩
  · exact ⟨by simp only [List.length_drop]; omega, h⟩
theorem Dd.rdU_le (l : List UInt8) (e : Nat) : (Ty.rdU l e).2.1.length ≤ l.length := by
  unfold Ty.rdU
  split
  · exact Nat.le_refl _
  · simp only [List.length_drop]; omega
/-- A whole value stored in a block that is new since w. -/
theorem Dd.by2_put3 {r b q : Nat} {w w1 : World} (hq : w.heap.size ≤ q) (g : Dd.By2 r b w w1) (x y z : Value) : Dd.By2 r b w (((w1.setCell ⟨q, 0, none⟩ x).setCell ⟨q, 1, none⟩ y).setCell ⟨q, 2, none⟩ z) :=
  ⟨g.os, g.tape, g.output, by have := g.size; simpa [World.setCell] using this, fun k hk h1 h2 =>
    (((Below.heap_setCell _ _ _ _ (by show k ≠ q; omega)).trans (Below.heap_setCell _ _ _ _ (by show k ≠ q; omega))).trans (Below.heap_setCell _ _ _ _ (by show k ≠ q; omega))).trans (g.block k hk h1 h2)⟩
theorem Dd.rdr_put3 {r b q : Nat} {w : World} {s : Dd.St} (h : Dd.Rdr r b w s) (hr : r < q) (hb : b < q) (x y z : Value) : Dd.Rdr r b (((w.setCell ⟨q, 0, none⟩ x).setCell ⟨q, 1, none⟩ y).setCell ⟨q, 2, none⟩ z) s :=
  have hG : Ty.G ≤ q := by have := h.gr; omega
  ((h.other (by omega) (by omega) hG x).other (by omega) (by omega) hG y).other (by omega) (by omega) hG z
set_option maxHeartbeats 2000000 in
set_option maxRecDepth 100000 in
theorem Dd.value_c (r b : Nat) (s : Dd.St) (c : Kn.C) (w : World) (h : Dd.Rdr r b w s) (hm : s.l.length ≤ 140737488351232) :
    Calls Tryd.prog 43 #[.pointer (some ⟨r, 0, none⟩), c.val] w (Dd.Went r b w (Dd.stV c s).1.val (Dd.stV c s).2) := by
  obtain ⟨ck, cn⟩ := c
  have hgr : Below w.heap.size w ((w.alloc (.cells #[.int .i64 ck, .bool cn] 39)).alloc (.cells #[.bool false, .int .i64 0, .string ⟨#[]⟩] 43)) := ((Below.refl _ w).alloc (Nat.le_refl _) _).alloc (by simp) _
  have HR := Lib.hid (h.kept hgr)
  have HG := Lib.hid (Dd.By2.ofBelow (r := r) (b := b) hgr)
  have hlt := h.lt
  have hb2 := (Below.refl _ (w.alloc (.cells #[.int .i64 ck, .bool cn] 39))).alloc (Nat.le_refl _) (.cells #[.bool false, .int .i64 0, .string ⟨#[]⟩] 43)
  have x0 := (hb2.cell (p := ⟨w.heap.size, 0, none⟩) (by simp)).trans (Kn.cell_new w #[.int .i64 ck, .bool cn] 39 0 _ rfl)
  have x1 := (hb2.cell (p := ⟨w.heap.size, 1, none⟩) (by simp)).trans (Kn.cell_new w #[.int .i64 ck, .bool cn] 39 1 _ rfl)
  simp only [List.getElem_toArray, List.getElem_cons_zero, List.getElem_cons_succ] at x0 x1
  have y := heap_alloc_new (w.alloc (.cells #[.int .i64 ck, .bool cn] 39)) (.cells #[.bool false, .int .i64 0, .string ⟨#[]⟩] 43)
  rw [World.size_alloc] at y
  have HY := Lib.hid y
  have hys := lt_of_block y
  obtain ⟨b0, b1, z0, z1⟩ := Dd.two HR.out.box
  have HM := Lib.hid hm
  have hk : (((ck == 2) = true) ∧ ck = 2) ∨ ((ck == 2) = false ∧ ck ≠ 2) := by
    by_cases h : ck = 2
    · left; exact ⟨by rw [h]; rfl, h⟩
    · right; exact ⟨by rw [beq_eq_false_iff_ne]; exact h, h⟩
  clear h hgr hb2 y z0 z1 hm
  unfold Kn.C.val Kn.V.val
  cases cn
  · have HM2 := HM
    rcases hk with ⟨hk, rfl⟩ | ⟨hk, hk1⟩
    · have HE := Lib.hid ((Dd.stV_plain (c := ⟨2, false⟩) (s := s) rfl).trans (Dd.stP_str rfl))
      go_enter Tryd.func43, Tryd.ntmps43
      go_wp2_with fail
      generalize hwo : World.alloc _ _ = wo at HR HG HY hys x0 x1 b0 b1 ⊢
      clear hwo
      have hne : w.heap.size ≠ r ∧ w.heap.size ≠ b ∧ w.heap.size + 1 ≠ r ∧ w.heap.size + 1 ≠ b := by omega
      have ct := Ty.ctext_c b s.l s.e 64 (by omega) wo HR.out.tabs HR.out.cur HR.out.short
      have hle := Dd.rdT_le s.l s.e
      with_reducible refine ct.mono ?_
      rintro e2 w2 ⟨rfl, hc2, hg2⟩
      have HR2 := Lib.hid (HR.out.moved hc2 hg2 hle.1)
      have HY2 := Lib.hid ((hg2.block _ (lt_of_block HY.out) (fun e => by have := Option.some.inj e; omega)).trans HY.out)
      have HG2 := Lib.hid (HG.out.trans (Dd.By2.ofB hg2))
      have hsz : (Ty.S (Ty.rdT 64 s.l s.e).1).size ≤ 140737488355328 := by rw [Ty.size_S]; have := HM2.out; omega
      clear ct hc2 hg2 hle
      go_wp2_with fail
      with_reducible refine (Tx.clone_c _ w2 hsz).mono ?_
      rintro e3 w3 ⟨rfl, hg3⟩
      have HR9 := Lib.hid (HR2.out.kept hg3)
      have hy3 := (hg3.block _ (lt_of_block HY2.out)).trans HY2.out
      have HG9 := Lib.hid (HG2.out.trans (Dd.By2.ofBelow hg3))
      obtain ⟨q0, q1, q2, f0, f1, f2⟩ := Dd.three hy3
      clear hg3 hy3 hsz
      go_wp2
      have HP := Lib.hid (Dd.by2_put3 (q := w.heap.size + 1) (by omega) HG9.out (.bool false) (.int .i64 0) (.string (Ty.S (Ty.rdT 64 s.l s.e).1)))
      have HQ := Lib.hid (Dd.rdr_put3 (q := w.heap.size + 1) HR9.out (by omega) (by omega) (.bool false) (.int .i64 0) (.string (Ty.S (Ty.rdT 64 s.l s.e).1)))
      (try simp only [Exit.inBlock, Exit.then])
      refine bodyPost_ret (v := .agg #[.bool false, .int .i64 0, .string (Ty.S (Ty.rdT 64 s.l s.e).1)]) ?_ rfl ⟨by rw [HE.out]; rfl, by rw [HE.out]; exact HQ.out, HP.out⟩
      rw [Dd.results_cell rfl]
      go_simp
    · have HE := Lib.hid ((Dd.stV_plain (c := ⟨ck, false⟩) (s := s) rfl).trans (Dd.stP_num hk1))
      clear hk1
      go_enter Tryd.func43, Tryd.ntmps43
      go_wp2_with fail
      generalize hwo : World.alloc _ _ = wo at HR HG HY hys x0 x1 b0 b1 ⊢
      clear hwo
      have hne : w.heap.size ≠ r ∧ w.heap.size ≠ b ∧ w.heap.size + 1 ≠ r ∧ w.heap.size + 1 ≠ b := by omega
      have ct := Ty.cint_c b s.l s.e wo HR.out.tabs HR.out.cur HR.out.short
      have hle := Dd.rdU_le s.l s.e
      with_reducible refine ct.mono ?_
      rintro e2 w2 ⟨rfl, hc2, hg2⟩
      have HR9 := Lib.hid (HR.out.moved hc2 hg2 hle)
      have hy3 := (hg2.block _ (lt_of_block HY.out) (fun e => by have := Option.some.inj e; omega)).trans HY.out
      have HG9 := Lib.hid (HG.out.trans (Dd.By2.ofB hg2))
      obtain ⟨q0, q1, q2, f0, f1, f2⟩ := Dd.three hy3
      clear ct hc2 hg2 hle hy3
      go_wp2
      have HP := Lib.hid (Dd.by2_put3 (q := w.heap.size + 1) (by omega) HG9.out (.bool false) (.int .i64 (Ty.zag ((Ty.rdU s.l s.e).1 : Int))) (.string ⟨#[]⟩))
      have HQ := Lib.hid (Dd.rdr_put3 (q := w.heap.size + 1) HR9.out (by omega) (by omega) (.bool false) (.int .i64 (Ty.zag ((Ty.rdU s.l s.e).1 : Int))) (.string ⟨#[]⟩))
      (try simp only [Exit.inBlock, Exit.then])
      refine bodyPost_ret (v := .agg #[.bool false, .int .i64 (Ty.zag ((Ty.rdU s.l s.e).1 : Int)), .string ⟨#[]⟩]) ?_ rfl ⟨by rw [HE.out]; rfl, by rw [HE.out]; exact HQ.out, HP.out⟩
      rw [Dd.results_cell rfl]
      go_simp
  · have HM2 : Hid ((Dd.stF s).2.l.length ≤ 140737488351232) := Lib.hid (Nat.le_trans (Dd.stF_le s) HM.out)
    cases hB : (Dd.stF s).1
    · have HB := Lib.hid hB
      rcases hk with ⟨hk, rfl⟩ | ⟨hk, hk1⟩
      · have HE := Lib.hid ((Dd.stV_there (c := ⟨2, true⟩) (s := s) rfl hB).trans (Dd.stP_str rfl))
        clear hB
        go_enter Tryd.func43, Tryd.ntmps43
        go_wp2_with fail
        generalize hwo : World.alloc _ _ = wo at HR HG HY hys x0 x1 b0 b1 ⊢
        clear hwo
        have hne : w.heap.size ≠ r ∧ w.heap.size ≠ b ∧ w.heap.size + 1 ≠ r ∧ w.heap.size + 1 ≠ b := by omega
        have cf := Dd.flag_c r b s wo HR.out
        rw [HB.out] at cf
        with_reducible refine cf.mono ?_
        rintro e1 w1 ⟨rfl, hR1, hG1⟩
        have HY1 := Lib.hid ((hG1.block _ hys hne.2.2.1 hne.2.2.2).trans HY.out)
        replace x0 := hG1.cell x0 hne.1 hne.2.1
        have HG1 := Lib.hid (HG.out.trans hG1)
        have HR1 := Lib.hid hR1
        obtain ⟨p0, _, _, _⟩ := Dd.two hR1.box
        clear cf hR1 hG1 x1 b0 b1
        go_wp2_with fail
        have ct := Ty.ctext_c b (Dd.stF s).2.l (Dd.stF s).2.e 64 (by omega) w1 HR1.out.tabs HR1.out.cur HR1.out.short
        have hle := Dd.rdT_le (Dd.stF s).2.l (Dd.stF s).2.e
        with_reducible refine ct.mono ?_
        rintro e2 w2 ⟨rfl, hc2, hg2⟩
        have HR2 := Lib.hid (HR1.out.moved hc2 hg2 hle.1)
        have HY2 := Lib.hid ((hg2.block _ (lt_of_block HY1.out) (fun e => by have := Option.some.inj e; omega)).trans HY1.out)
        have HG2 := Lib.hid (HG1.out.trans (Dd.By2.ofB hg2))
        have hsz : (Ty.S (Ty.rdT 64 (Dd.stF s).2.l (Dd.stF s).2.e).1).size ≤ 140737488355328 := by rw [Ty.size_S]; have := HM2.out; omega
        clear ct hc2 hg2 hle
        go_wp2_with fail
        with_reducible refine (Tx.clone_c _ w2 hsz).mono ?_
        rintro e3 w3 ⟨rfl, hg3⟩
        have HR9 := Lib.hid (HR2.out.kept hg3)
        have hy3 := (hg3.block _ (lt_of_block HY2.out)).trans HY2.out
        have HG9 := Lib.hid (HG2.out.trans (Dd.By2.ofBelow hg3))
        obtain ⟨q0, q1, q2, f0, f1, f2⟩ := Dd.three hy3
        clear hg3 hy3 hsz
        go_wp2
        have HP := Lib.hid (Dd.by2_put3 (q := w.heap.size + 1) (by omega) HG9.out (.bool false) (.int .i64 0) (.string (Ty.S (Ty.rdT 64 (Dd.stF s).2.l (Dd.stF s).2.e).1)))
        have HQ := Lib.hid (Dd.rdr_put3 (q := w.heap.size + 1) HR9.out (by omega) (by omega) (.bool false) (.int .i64 0) (.string (Ty.S (Ty.rdT 64 (Dd.stF s).2.l (Dd.stF s).2.e).1)))
        (try simp only [Exit.inBlock, Exit.then])
        refine bodyPost_ret (v := .agg #[.bool false, .int .i64 0, .string (Ty.S (Ty.rdT 64 (Dd.stF s).2.l (Dd.stF s).2.e).1)]) ?_ rfl ⟨by rw [HE.out]; rfl, by rw [HE.out]; exact HQ.out, HP.out⟩
        rw [Dd.results_cell rfl]
        go_simp
      · have HE := Lib.hid ((Dd.stV_there (c := ⟨ck, true⟩) (s := s) rfl hB).trans (Dd.stP_num hk1))
        clear hB hk1
        go_enter Tryd.func43, Tryd.ntmps43
        go_wp2_with fail
        generalize hwo : World.alloc _ _ = wo at HR HG HY hys x0 x1 b0 b1 ⊢
        clear hwo
        have hne : w.heap.size ≠ r ∧ w.heap.size ≠ b ∧ w.heap.size + 1 ≠ r ∧ w.heap.size + 1 ≠ b := by omega
        have cf := Dd.flag_c r b s wo HR.out
        rw [HB.out] at cf
        with_reducible refine cf.mono ?_
        rintro e1 w1 ⟨rfl, hR1, hG1⟩
        have HY1 := Lib.hid ((hG1.block _ hys hne.2.2.1 hne.2.2.2).trans HY.out)
        replace x0 := hG1.cell x0 hne.1 hne.2.1
        have HG1 := Lib.hid (HG.out.trans hG1)
        have HR1 := Lib.hid hR1
        obtain ⟨p0, _, _, _⟩ := Dd.two hR1.box
        clear cf hR1 hG1 x1 b0 b1
        go_wp2_with fail
        have ct := Ty.cint_c b (Dd.stF s).2.l (Dd.stF s).2.e w1 HR1.out.tabs HR1.out.cur HR1.out.short
        have hle := Dd.rdU_le (Dd.stF s).2.l (Dd.stF s).2.e
        with_reducible refine ct.mono ?_
        rintro e2 w2 ⟨rfl, hc2, hg2⟩
        have HR9 := Lib.hid (HR1.out.moved hc2 hg2 hle)
        have hy3 := (hg2.block _ (lt_of_block HY1.out) (fun e => by have := Option.some.inj e; omega)).trans HY1.out
        have HG9 := Lib.hid (HG1.out.trans (Dd.By2.ofB hg2))
        obtain ⟨q0, q1, q2, f0, f1, f2⟩ := Dd.three hy3
        clear ct hc2 hg2 hle hy3
        go_wp2
        have HP := Lib.hid (Dd.by2_put3 (q := w.heap.size + 1) (by omega) HG9.out (.bool false) (.int .i64 (Ty.zag ((Ty.rdU (Dd.stF s).2.l (Dd.stF s).2.e).1 : Int))) (.string ⟨#[]⟩))
        have HQ := Lib.hid (Dd.rdr_put3 (q := w.heap.size + 1) HR9.out (by omega) (by omega) (.bool false) (.int .i64 (Ty.zag ((Ty.rdU (Dd.stF s).2.l (Dd.stF s).2.e).1 : Int))) (.string ⟨#[]⟩))
        (try simp only [Exit.inBlock, Exit.then])
        refine bodyPost_ret (v := .agg #[.bool false, .int .i64 (Ty.zag ((Ty.rdU (Dd.stF s).2.l (Dd.stF s).2.e).1 : Int)), .string ⟨#[]⟩]) ?_ rfl ⟨by rw [HE.out]; rfl, by rw [HE.out]; exact HQ.out, HP.out⟩
        rw [Dd.results_cell rfl]
        go_simp
    · have HB := Lib.hid hB
      have HE := Lib.hid (Dd.stV_nul (c := ⟨ck, true⟩) (s := s) rfl hB)
      clear hB
      go_enter Tryd.func43, Tryd.ntmps43
      go_wp2_with fail
      generalize hwo : World.alloc _ _ = wo at HR HG HY hys x0 x1 b0 b1 ⊢
      clear hwo
      have hne : w.heap.size ≠ r ∧ w.heap.size ≠ b ∧ w.heap.size + 1 ≠ r ∧ w.heap.size + 1 ≠ b := by omega
      have cf := Dd.flag_c r b s wo HR.out
      rw [HB.out] at cf
      with_reducible refine cf.mono ?_
      rintro e1 w1 ⟨rfl, hR1, hG1⟩
      have HY1 := Lib.hid ((hG1.block _ hys hne.2.2.1 hne.2.2.2).trans HY.out)
      have HG1 := Lib.hid (HG.out.trans hG1)
      have HR1 := Lib.hid hR1
      clear cf hR1 hG1 x1 b0 b1
      have HR9 := HR1
      have HG9 := HG1
      obtain ⟨q0, q1, q2, f0, f1, f2⟩ := Dd.three HY1.out
      go_wp2
      have HP := Lib.hid (Dd.by2_put3 (q := w.heap.size + 1) (by omega) HG9.out (.bool true) (.int .i64 0) (.string ⟨#[]⟩))
      have HQ := Lib.hid (Dd.rdr_put3 (q := w.heap.size + 1) HR9.out (by omega) (by omega) (.bool true) (.int .i64 0) (.string ⟨#[]⟩))
      (try simp only [Exit.inBlock, Exit.then])
      refine bodyPost_ret (v := .agg #[.bool true, .int .i64 0, .string ⟨#[]⟩]) ?_ rfl ⟨by rw [HE.out]; rfl, by rw [HE.out]; exact HQ.out, HP.out⟩
      rw [Dd.results_cell rfl]
      go_simp
end Go.Proofs.YtccjfmjgkkpndaaDoor

namespace Go.Proofs.YtccjfmjgkkpndaaDoor
open Go.RowKit
theorem Dd.run_makeR (n : Nat) (hn : n ≤ 8796093022208) (w : World) : (Instr.makeSlice 24 (.int .i64 (n : Int)) (.int .i64 (n : Int))).run Tryd.prog w = .ok (.slice (some ⟨w.heap.size, 0, none⟩) n n) (w.alloc (.cells (madeCells #[.bool false, .int .i64 0, .string ⟨#[]⟩] (n * 3)) 43)) := by
  obtain ⟨i0, hi, hz0, hz1, hz2⟩ := info_parts Cl.infoV
  have := Go.run_make (P := Tryd.prog) w 24 43 i0 _ Tryd.underlying24 hi hz0 .i64 .i64 n n (by omega) (Int.le_refl _) (by rw [hz2]; omega) (by omega)
  rw [hz1, Int.toNat_natCast] at this
  exact this
theorem Dd.By2.new {r b q i : Nat} {w w1 : World} (g : Dd.By2 r b w w1) (hq : w.heap.size ≤ q) (u : Value) : Dd.By2 r b w (w1.setCell ⟨q, i, none⟩ u) :=
  ⟨g.os, g.tape, g.output, by have := g.size; simpa [World.setCell] using this, fun k hk h1 h2 => (Below.heap_setCell _ _ _ _ (by show k ≠ q; omega)).trans (g.block k hk h1 h2)⟩
theorem Dd.row_by2 {r b g n : Nat} {w w' : World} {F : Nat → Kn.V} (h : Cl.Row w g n F) (k : Dd.By2 r b w w') (hr : g ≠ r) (hb : g ≠ b) : Cl.Row w' g n F :=
  World.rowIs.of_block h (k.block g h.lt hr hb)
theorem Dd.heap_set3 {w : World} {j g : Nat} (h : j ≠ g) (a b c : Nat) (x y z : Value) : (((w.setCell ⟨g, a, none⟩ x).setCell ⟨g, b, none⟩ y).setCell ⟨g, c, none⟩ z).heap[j]? = w.heap[j]? :=
  (Below.heap_setCell _ _ _ _ (by show j ≠ g; exact h)).trans ((Below.heap_setCell _ _ _ _ (by show j ≠ g; exact h)).trans (Below.heap_setCell _ _ _ _ (by show j ≠ g; exact h)))
theorem Dd.rdr_set3 {r b q : Nat} {w : World} {s : Dd.St} (h : Dd.Rdr r b w s) (hr : r < q) (hb : b < q) (i j k : Nat) (x y z : Value) : Dd.Rdr r b (((w.setCell ⟨q, i, none⟩ x).setCell ⟨q, j, none⟩ y).setCell ⟨q, k, none⟩ z) s :=
  have hG : Ty.G ≤ q := by have := h.gr; omega
  ((h.other (by omega) (by omega) hG x).other (by omega) (by omega) hG y).other (by omega) (by omega) hG z
/-- What deed leaves. -/
def Dd.GotD (r b : Nat) (w : World) (B : Bool) (R : List Kn.V × Dd.St) (e : Ending) (w' : World) : Prop :=
  ∃ u, e = .returned (.agg #[.bool B, u]) ∧ Kn.Vals w' u R.1 ∧ Dd.Fresh (w.heap.size + 1) u ∧ Dd.Rdr r b w' R.2 ∧ Dd.By2 r b w w'
set_option maxHeartbeats 4000000 in
set_option maxRecDepth 100000 in
theorem Dd.deed_c (r b : Nat) (st : Dd.St) (v : Value) (s : List Kn.C) (w0 w : World) (hs : Dd.Cols w0 v s) (g0 : Below w0.heap.size w0 w) (hr : w0.heap.size ≤ r) (hb : w0.heap.size ≤ b) (hrt : Kn.right s = true) (h : Dd.Rdr r b w st) (hm : st.l.length ≤ 140737488351232) :
    Calls Tryd.prog 27 #[.pointer (some ⟨r, 0, none⟩), v] w (Dd.GotD r b w (Dd.stF st).1 (Dd.stR (Dd.cols s (Dd.stF st).1) (Dd.stF st).2)) := by
  have hA : Below w.heap.size w (w.alloc (.cells #[.bool false, .slice none 0 0] 26)) := (Below.refl _ _).alloc (Nat.le_refl _) _
  have HY : Hid ((w.alloc (.cells #[.bool false, .slice none 0 0] 26)).heap[w.heap.size]? = some (.cells #[.bool false, .slice none 0 0] 26 (0, 0))) := Lib.hid (heap_alloc_new w _)
  have cf := Dd.flag_c r b st _ (h.kept hA)
  have HG0 := Lib.hid (Dd.By2.ofBelow (r := r) (b := b) hA)
  have hlt := h.lt
  have HGR : Hid (Ty.G ≤ w.heap.size) := Lib.hid (Ty.Tabs.two h.tabs)
  have hle := Nat.le_trans (Dd.stF_le st) hm
  have HS := Lib.hid hs
  have HW0 := Lib.hid g0
  have HRB := Lib.hid (And.intro hr hb)
  have hl := Kn.right_len hrt
  generalize Dd.stF st = F at cf hle ⊢
  obtain ⟨B, s1⟩ := F
  simp only at cf hle ⊢
  have CC := Lib.hid fun wz (h : Dd.Cols wz v s) => Dd.columnsOf_c v s B wz h hl.1
  obtain ⟨hc1, hc6⟩ := Dd.cols_len hrt B
  generalize Dd.cols s B = cs at CC hc1 hc6 ⊢
  have HLE := Lib.hid hle
  have hmk := Dd.run_makeR cs.length (by omega)
  clear hs g0 hr hb hrt h hm hA hl hle
  go_enter Tryd.func27, Tryd.ntmps27
  go_wp2_with fail
  generalize hwo : w.alloc _ = wA at HY cf HG0 ⊢
  clear hwo
  with_reducible refine cf.mono ?_
  rintro e w1 ⟨rfl, hR1, hG1⟩
  have HR1 := Lib.hid hR1
  have HG1 := Lib.hid (HG0.out.trans hG1)
  have HY1 := Lib.hid ((hG1.block w.heap.size (lt_of_block HY.out) (by omega) (by omega)).trans HY.out)
  have HB1 : Hid (Below w0.heap.size w0 w1) := Lib.hid (HW0.out.trans (HG1.out.below HRB.out.1 HRB.out.2 HW0.out.size))
  clear cf hR1 hG1
  go_wp2_with fail
  with_reducible refine (CC.out w1 (HS.out.later HB1.out)).mono ?_
  rintro e w2 ⟨⟨u, rfl, hC⟩, h2⟩
  subst w2
  obtain ⟨a, cp, rfl, _⟩ := (hC w1 (HS.out.later HB1.out)).1.is
  have HC : Hid (∀ W, Below w0.heap.size w0 W → cs = [] ∨ ∃ b2 o2, a = some ⟨b2, o2, none⟩ ∧ b2 < W.heap.size ∧ ∀ i x, cs[i]? = some x → W.cell? ⟨b2, o2 + i * 2, none⟩ = some (.int .i64 x.k) ∧ W.cell? ⟨b2, o2 + i * 2 + 1, none⟩ = some (.bool x.null)) := Lib.hid fun W hW => by
    obtain ⟨a', c', e, h⟩ := (hC W (HS.out.later hW)).1.is
    simp only [Value.slice.injEq, true_and] at e
    obtain ⟨rfl, _⟩ := e
    rcases h with h | ⟨b2, o2, h1, h2, _, h3⟩
    · exact .inl h
    · exact .inr ⟨b2, o2, h1, h2, h3⟩
  clear hC CC
  go_wp2_with fail
  have hR := Cl.Row.start (w := w1) (n := cs.length)
  have hB : Below w1.heap.size w1 (w1.alloc (.cells (madeCells #[.bool false, .int .i64 0, .string ⟨#[]⟩] (cs.length * 3)) 43)) := (Below.refl _ _).alloc (Nat.le_refl _) _
  have HRM := Lib.hid (HR1.out.kept hB)
  have HYM := Lib.hid ((hB.block w.heap.size (lt_of_block HY1.out)).trans HY1.out)
  have HGM := Lib.hid (HG1.out.trans (Dd.By2.ofBelow hB))
  have hs1 := HG1.out.size
  have hy1 := lt_of_block HY1.out
  have hbs := hB.size
  have hgl := hR.lt
  obtain ⟨g, hg⟩ : ∃ g, g = w1.heap.size := ⟨_, rfl⟩
  generalize w1.alloc _ = w2 at hR hgl HRM HYM HGM ⊢
  rw [← hg] at hR hgl ⊢
  have hwg : w.heap.size < g := by omega
  have hrq : r < w.heap.size ∧ b < w.heap.size := hlt
  clear hmk HY HY1 hB hbs hs1 hy1 hg HB1 HG1 HR1
  go_loopw [20] (fun i wr => ∃ (k : Nat) (M : List Kn.V) (s2 : Dd.St), k ≤ cs.length ∧ i = .int .i64 k ∧ Dd.stR (cs.take k) s1 = (M, s2) ∧ M.length = k ∧ Dd.Rdr r b wr s2 ∧ Cl.Row wr g cs.length (Cl.fo M) ∧ wr.heap[w.heap.size]? = some (.cells #[.bool false, .slice none 0 0] 26 (0, 0)) ∧ Dd.By2 r b w wr ∧ s2.l.length ≤ 140737488351232) (fun i _ => cs.length - (intOf i).toNat)
  case atStart => exact ⟨0, [], s1, Nat.zero_le _, rfl, rfl, rfl, HRM.out, hR, HYM.out, HGM.out, HLE.out⟩
  case round =>
    obtain ⟨k, M, s2, hk, rfl, hM, hMk, hRk, hRow, hYk, hGk, hSl⟩ := hrel
    have HM := Lib.hid hM
    have HRK := Lib.hid hRk
    have HROW := Lib.hid hRow
    have HYK := Lib.hid hYk
    have HGK := Lib.hid hGk
    have HSL := Lib.hid hSl
    have HMK := Lib.hid hMk
    have hk0 : (0 : Int) ≤ (k : Int) := by omega
    have hgr : g < wr.heap.size := hRow.lt
    clear hR hgl HRM HYM HGM hM hMk hRk hRow hYk hGk hSl
    by_cases hlk : k < cs.length
    · obtain ⟨⟨ck, cn⟩, hc⟩ : ∃ c, cs[k]? = some c := ⟨_, List.getElem?_eq_getElem hlk⟩
      rcases HC.out wr (HW0.out.trans (HGK.out.below HRB.out.1 HRB.out.2 HW0.out.size)) with h | ⟨b2, o2, rfl, hbl, h⟩
      · exact absurd hlk (by rw [h]; simp)
      · obtain ⟨e0, e1⟩ := h k _ hc
        have HST := Lib.hid (Dd.stR_step hc HM.out)
        have HSV := Lib.hid (Nat.le_trans (Dd.stV_le ⟨ck, cn⟩ s2) HSL.out)
        have hkl : (k : Int) < (cs.length : Int) := by omega
        have hA : Below wr.heap.size wr (wr.alloc (.cells #[.int .i64 ck, .bool cn] 39)) := (Below.refl _ _).alloc (Nat.le_refl _) _
        have cv := Dd.value_c r b s2 ⟨ck, cn⟩ _ (HRK.out.kept hA) HSL.out
        have HRA := Lib.hid (HROW.out.below hA)
        have HYA := Lib.hid ((hA.block w.heap.size (by omega)).trans HYK.out)
        have HGA := Lib.hid (HGK.out.trans (Dd.By2.ofBelow hA))
        generalize Dd.stV ⟨ck, cn⟩ s2 = R at cv HST HSV
        obtain ⟨⟨xn, xi, xs⟩, s3⟩ := R
        unfold Dd.Went at cv
        simp only at e0 e1 cv HST HSV
        clear h hc hA
        go_wp2_with fail
        generalize hwo : wr.alloc _ = wo at cv HRA HYA HGA ⊢
        clear hwo
        with_reducible refine cv.mono ?_
        rintro e w5 ⟨rfl, hR5, hG5⟩
        have HR5 := Lib.hid hR5
        have HROW5 := Lib.hid (Dd.row_by2 HRA.out hG5 (by omega) (by omega))
        have HY5 := Lib.hid ((hG5.block w.heap.size (lt_of_block HYA.out) (by omega) (by omega)).trans HYA.out)
        have HG5 := Lib.hid (HGA.out.trans hG5)
        have r0 := HROW5.out.c0 hlk
        have r1 := HROW5.out.c1 hlk
        have r2 := HROW5.out.c2 hlk
        have f0 := World.rowIs.frozen HROW5.out (k * 3)
        have f1 := World.rowIs.frozen HROW5.out (k * 3 + 1)
        have f2 := World.rowIs.frozen HROW5.out (k * 3 + 2)
        clear cv hR5 hG5 e0 e1 hgr
        go_wp2
        go_roundw
        case rel => exact ⟨k + 1, M ++ [⟨xn, xi, xs⟩], s3, by omega, by simp, HST.out, by rw [List.length_append, HMK.out]; rfl, Dd.rdr_set3 HR5.out (by omega) (by omega) _ _ _ _ _ _, HROW5.out.snoc_v HMK.out ⟨xn, xi, xs⟩,
          (Dd.heap_set3 (by omega) _ _ _ _ _ _).trans HY5.out, ((HG5.out.new (by omega) _).new (by omega) _).new (by omega) _, HSV.out⟩
        case measure => simp [intOf]; omega
    · obtain rfl : k = cs.length := by omega
      have hkl : ¬ (cs.length : Int) < (cs.length : Int) := by omega
      obtain ⟨y0, y1, z0, z1⟩ := Dd.two HYK.out
      have HMM : Hid (Dd.stR cs s1 = (M, s2)) := Lib.hid (by have := HM.out; rwa [List.take_length] at this)
      go_wp2
      have HV := Lib.hid (HROW.out.done (cap := cs.length) HMK.out (by omega))
      have HFR : Hid (Dd.Fresh (w.heap.size + 1) (.slice (some ⟨g, 0, none⟩) cs.length cs.length)) := Lib.hid fun j hj => by have : g = j := Option.some.inj hj; omega
      have HGG : Hid (Ty.G ≤ w.heap.size) := HGR
      (try simp only [Exit.inBlock, Exit.then])
      refine bodyPost_ret (v := .agg #[.bool B, .slice (some ⟨g, 0, none⟩) cs.length cs.length]) ?_ rfl
        ⟨_, rfl, by rw [HMM.out]; exact Dd.vals_put (Dd.vals_put HV.out HFR.out (by omega) _) HFR.out (by omega) _, HFR.out, by rw [HMM.out]; exact (HRK.out.other (by omega) (by omega) HGG.out _).other (by omega) (by omega) HGG.out _, (HGK.out.new (by omega) _).new (by omega) _⟩
      rw [Dd.results_cell rfl]
      go_simp
end Go.Proofs.YtccjfmjgkkpndaaDoor
