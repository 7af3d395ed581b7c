import Derived.Test.YteaglaijkafphaaDoorZAJ
import Derived.Deep.RegionHeld3
import Derived.Deep.OwnRows
import Derived.Deep.RegionLaw
import Derived.Test.YteaglaijkafphaaDoorZAE
import Derived.Test.YteaglaijkafphaaDoorZAH
namespace Go.Proofs.YteaglaijkafphaaDoor
section
open Go Go.RowKit
def Mf.Oi (base : Nat) (w : World) (v : Value) (L : List Int) : Prop := Dk.Own 3 1 Mf.ic base w v L
theorem Mf.Oi.is {base : Nat} {w : World} {v : Value} {L : List Int} (h : Mf.Oi base w v L) : Mf.Is w v L := Mf.At.of (Dk.Own.at Mf.ic_len h)
theorem Mf.Oi.nil (base : Nat) (w : World) : Mf.Oi base w (.slice none 0 0) [] := Dk.Own.nil base w
theorem Mf.step_int {base : Nat} {w0 : World} {v : Value} {M : List Int} (K : List Int) (hb : base ≤ w0.heap.size) (hown : Mf.Oi base w0 v M) (hl : M.length + K.length ≤ 1500000000000)
 {ops : Array Oper} {o : Oper} {a : Act} {Kx : Act → World → Prop} {Q : Exit → Act → World → Prop} {E : Prop} (s x : Operand) (u : Value) (hgd : o.guard = none)
 (ho : o.op = .call { callee := .builtin .append, args := #[s, x], argTypes := #[32, 32] })
 (hs : a.eval s = v) (hx : a.eval x = u) (hu : Dk.Src Mf.ic w0 u K)
 (h : ∀ v' w', Mf.Oi base w' v' (M ++ K) → Ty.Grew w0 w' v v' → Kx (a.put o.dst v') w') :
 if Region.wanted o (yielded ops a.tmps) = true then Oper.wp Tryd.prog o a w0 Kx Q else E :=
 Dk.step_appendB 32 _ 8 Tryd.underlying32 Mf.infoI rfl (by decide) Mf.ic_len Mf.ic_one K hb hown (by omega) (by omega) s x u hgd ho hs hx hu h
abbrev Mf.z4 : Array Value := #[.slice none 0 0, .slice none 0 0, .int .i64 0, .int .i64 0]
structure Mf.XB (r b q : Nat) (w0 w : World) (vd va : Value) (f n : Int) (D : List Int) (A : List Mf.P) (s : Mf.St) : Prop where
 rdr : Mf.Rdr r b w s
 by2 : Mf.By2 r b w0 w
 box : w.heap[q + 1]? = some (.cells #[vd, va, .int .i64 f, .int .i64 n] 37 (0, 0))
 res : w.heap[q]? = some (.cells Mf.z4 37 (0, 0))
 dr : Mf.Oi (q + 2) w vd D
 ad : Mf.Ow (q + 2) w va A
 hq : w0.heap.size ≤ q
 hr : r < q
 hb : b < q
 size : q + 2 ≤ w.heap.size
theorem Mf.XB.by {r b q : Nat} {w0 w w' : World} {vd va : Value} {f n : Int} {D : List Int} {A : List Mf.P} {s s' : Mf.St} (h : Mf.XB r b q w0 w vd va f n D A s) (h1 : Mf.Rdr r b w' s') (h2 : Mf.By2 r b w w') : Mf.XB r b q w0 w' vd va f n D A s' :=
 ⟨h1, h.by2.trans h2, (h2.block (q + 1) (lt_of_block h.box) (by have := h.hr; omega) (by have := h.hb; omega)).trans h.box, (h2.block q (lt_of_block h.res) (by have := h.hr; omega) (by have := h.hb; omega)).trans h.res,
  Dk.Own.same h.dr fun j hj => h2.block j (World.ownsRow.lt h.dr j hj).2 (by have := (World.ownsRow.lt h.dr j hj).1; have := h.hr; omega) (by have := (World.ownsRow.lt h.dr j hj).1; have := h.hb; omega),
  Dk.Own.same h.ad fun j hj => h2.block j (World.ownsRow.lt h.ad j hj).2 (by have := (World.ownsRow.lt h.ad j hj).1; have := h.hr; omega) (by have := (World.ownsRow.lt h.ad j hj).1; have := h.hb; omega),
  h.hq, h.hr, h.hb, Nat.le_trans h.size h2.size⟩
theorem Mf.XB.went {r b q : Nat} {w0 w w' : World} {vd va v : Value} {f n : Int} {D : List Int} {A : List Mf.P} {s s' : Mf.St} {e : Ending} (h : Mf.XB r b q w0 w vd va f n D A s) (g : Mf.Went r b w v s' e w') : Mf.XB r b q w0 w' vd va f n D A s' := h.by g.2.1 g.2.2
theorem Mf.XB.kept {r b q : Nat} {w0 w w' : World} {vd va : Value} {f n : Int} {D : List Int} {A : List Mf.P} {s : Mf.St} (h : Mf.XB r b q w0 w vd va f n D A s) (g : Below w.heap.size w w') : Mf.XB r b q w0 w' vd va f n D A s := h.by (h.rdr.kept g) (Mf.By2.ofBelow g)
theorem Mf.XB.drops {r b q : Nat} {w0 w w' : World} {vd va v' : Value} {f n : Int} {D : List Int} {A : List Mf.P} {D' : List Int} {s : Mf.St} (h : Mf.XB r b q w0 w vd va f n D A s) (hg : Ty.Grew w w' vd v') (ho : Mf.Oi (q + 2) w' v' D') :
 Mf.XB r b q w0 (w'.setCell ⟨q + 1, 0, none⟩ v') v' va f n D' A s := by
 have hoff : ∀ j, j < q + 2 → some j ≠ vd.ownBlock := fun j hj e => by have := (World.ownsRow.lt h.dr j e.symm).1; omega
 have hw : ∀ j, j < q + 2 → j ≠ q + 1 → (w'.setCell ⟨q + 1, 0, none⟩ v').heap[j]? = w.heap[j]? := fun j hj hne =>
  (Below.heap_setCell _ _ _ _ (by show j ≠ q + 1; exact hne)).trans (hg.by_.block j (by have := h.size; omega) (hoff j hj))
 have hr := h.hr
 have hb := h.hb
 have hq := h.hq
 have hG := h.rdr.gr
 have hGb := h.rdr.gb
 have hsz := h.size
 have hot : Mf.Ow (q + 2) (w'.setCell ⟨q + 1, 0, none⟩ v') va A := Dk.Own.same h.ad fun j hj => (Below.heap_setCell _ _ _ _ (by show j ≠ q + 1; have := (World.ownsRow.lt h.ad j hj).1; omega)).trans (hg.by_.block j (World.ownsRow.lt h.ad j hj).2 fun e => by
  obtain ⟨c1, e1⟩ := Dk.Own.typed h.dr j e.symm
  obtain ⟨c2, e2⟩ := Dk.Own.typed h.ad j hj
  exact Mf.apart_of e1 e2 (by decide) rfl)
 have hnew : Mf.Oi (q + 2) (w'.setCell ⟨q + 1, 0, none⟩ v') v' D' := Dk.Own.same ho fun j hj => Below.heap_setCell _ _ _ _ (by show j ≠ q + 1; have := (World.ownsRow.lt ho j hj).1; omega)
 refine ⟨⟨(hw b (by omega) (by omega)).trans h.rdr.cur, (hw r (by omega) (by omega)).trans h.rdr.box, h.rdr.ne, Ty.Tabs.kept h.rdr.tabs (by have := hg.by_.size; simp only [World.setCell, Array.size_modify]; exact this) (fun k hk => hw k (by omega) (by omega)), h.rdr.gb, h.rdr.gr, h.rdr.short⟩, ?_, ?_, (hw q (by omega) (by omega)).trans h.res, hnew, hot, h.hq, h.hr, h.hb, by have := hg.by_.size; simp only [World.setCell, Array.size_modify]; omega⟩
 ·exact Mf.By2.new ⟨hg.by_.os.trans h.by2.os, hg.by_.tape.trans h.by2.tape, hg.by_.output.trans h.by2.output, Nat.le_trans h.by2.size hg.by_.size, fun k hk h1 h2 => (hg.by_.block k (Nat.lt_of_lt_of_le hk h.by2.size) (hoff k (by omega))).trans (h.by2.block k hk h1 h2)⟩ (by omega) v'
 ·exact heap_setCell_same _ _ 0 _ _ _ ((hg.by_.block (q + 1) (by omega) (hoff _ (by omega))).trans h.box)
theorem Mf.XB.adds {r b q : Nat} {w0 w w' : World} {vd va v' : Value} {f n : Int} {D : List Int} {A : List Mf.P} {A' : List Mf.P} {s : Mf.St} (h : Mf.XB r b q w0 w vd va f n D A s) (hg : Ty.Grew w w' va v') (ho : Mf.Ow (q + 2) w' v' A') :
 Mf.XB r b q w0 (w'.setCell ⟨q + 1, 1, none⟩ v') vd v' f n D A' s := by
 have hoff : ∀ j, j < q + 2 → some j ≠ va.ownBlock := fun j hj e => by have := (World.ownsRow.lt h.ad j e.symm).1; omega
 have hw : ∀ j, j < q + 2 → j ≠ q + 1 → (w'.setCell ⟨q + 1, 1, none⟩ v').heap[j]? = w.heap[j]? := fun j hj hne =>
  (Below.heap_setCell _ _ _ _ (by show j ≠ q + 1; exact hne)).trans (hg.by_.block j (by have := h.size; omega) (hoff j hj))
 have hr := h.hr
 have hb := h.hb
 have hq := h.hq
 have hG := h.rdr.gr
 have hGb := h.rdr.gb
 have hsz := h.size
 have hot : Mf.Oi (q + 2) (w'.setCell ⟨q + 1, 1, none⟩ v') vd D := Dk.Own.same h.dr fun j hj => (Below.heap_setCell _ _ _ _ (by show j ≠ q + 1; have := (World.ownsRow.lt h.dr j hj).1; omega)).trans (hg.by_.block j (World.ownsRow.lt h.dr j hj).2 fun e => by
  obtain ⟨c1, e1⟩ := Dk.Own.typed h.ad j e.symm
  obtain ⟨c2, e2⟩ := Dk.Own.typed h.dr j hj
  exact Mf.apart_of e1 e2 (by decide) rfl)
 have hnew : Mf.Ow (q + 2) (w'.setCell ⟨q + 1, 1, none⟩ v') v' A' := Dk.Own.same ho fun j hj => Below.heap_setCell _ _ _ _ (by show j ≠ q + 1; have := (World.ownsRow.lt ho j hj).1; omega)
 refine ⟨⟨(hw b (by omega) (by omega)).trans h.rdr.cur, (hw r (by omega) (by omega)).trans h.rdr.box, h.rdr.ne, Ty.Tabs.kept h.rdr.tabs (by have := hg.by_.size; simp only [World.setCell, Array.size_modify]; exact this) (fun k hk => hw k (by omega) (by omega)), h.rdr.gb, h.rdr.gr, h.rdr.short⟩, ?_, ?_, (hw q (by omega) (by omega)).trans h.res, hot, hnew, h.hq, h.hr, h.hb, by have := hg.by_.size; simp only [World.setCell, Array.size_modify]; omega⟩
 ·exact Mf.By2.new ⟨hg.by_.os.trans h.by2.os, hg.by_.tape.trans h.by2.tape, hg.by_.output.trans h.by2.output, Nat.le_trans h.by2.size hg.by_.size, fun k hk h1 h2 => (hg.by_.block k (Nat.lt_of_lt_of_le hk h.by2.size) (hoff k (by omega))).trans (h.by2.block k hk h1 h2)⟩ (by omega) v'
 ·exact heap_setCell_same _ _ 1 _ _ _ ((hg.by_.block (q + 1) (by omega) (hoff _ (by omega))).trans h.box)
theorem Mf.XB.num {r b q i : Nat} {w0 w : World} {vd va : Value} {f n f' n' : Int} {D : List Int} {A : List Mf.P} {s : Mf.St} {x : Value} (h : Mf.XB r b q w0 w vd va f n D A s) (hb : (w.setCell ⟨q + 1, i, none⟩ x).heap[q + 1]? = some (.cells #[vd, va, .int .i64 f', .int .i64 n'] 37 (0, 0))) :
 Mf.XB r b q w0 (w.setCell ⟨q + 1, i, none⟩ x) vd va f' n' D A s :=
 ⟨h.rdr.other (by have := h.hr; omega) (by have := h.hb; omega) (by have := h.hr; have := h.rdr.gr; omega) x, h.by2.new (by have := h.hq; omega) x, hb, (Below.heap_setCell _ _ _ _ (by show q ≠ q + 1; omega)).trans h.res,
  Dk.Own.same h.dr fun j hj => Below.heap_setCell _ _ _ _ (by show j ≠ q + 1; have := (World.ownsRow.lt h.dr j hj).1; omega), Dk.Own.same h.ad fun j hj => Below.heap_setCell _ _ _ _ (by show j ≠ q + 1; have := (World.ownsRow.lt h.ad j hj).1; omega), h.hq, h.hr, h.hb, by have := h.size; simp only [World.setCell, Array.size_modify]; exact this⟩
theorem Mf.sC_nat (most : Nat) (s : Mf.St) : ∃ n : Nat, (Mf.sC most s).1 = (n : Int) ∧ n ≤ most := by
 unfold Mf.sC
 split
 ·exact ⟨0, rfl, Nat.zero_le _⟩
 ·exact ⟨_, rfl, by omega⟩
end
section
open Go Go.RowKit
theorem Mf.sets_heap {q j : Nat} (hj : j ≠ q) : ∀ (L : List (Nat × Value)) (w : World), (Mf.sets q w L).heap[j]? = w.heap[j]?
 | [], _ => rfl
 | x :: L, w => (Mf.sets_heap hj L _).trans (Below.heap_setCell _ _ _ _ (by show j ≠ q; exact hj))
theorem Mf.sX_is {s s1 s2 s3 s4 s5 s6 : Mf.St} {n m f x : Int} {D : List Int} {A : List Mf.P} (h1 : Mf.sC 1000 s = (n, s1)) (h2 : Mf.sL (Mf.sC 999999999) n.toNat s1 = (D, s2)) (h3 : Mf.sC 1000 s2 = (m, s3)) (h4 : Mf.sL Mf.sP m.toNat s3 = (A, s4)) (h5 : Mf.sC 999999999 s4 = (f, s5)) (h6 : Mf.sC 999999999 s5 = (x, s6)) :
 Mf.sX s = ((n, m, ⟨D, A, f, x⟩), s6) := by
 unfold Mf.sX Mf.sb Mf.sp
 simp only [h1, h2, h3, h4, h5, h6]
theorem Mf.num_c (r b : Nat) (s : Mf.St) (most : Nat) (w : World) (h : Mf.Rdr r b w s) (hm : most ≤ 999999999) (x : Int) (s' : Mf.St) (hx : Mf.sC most s = (x, s')) (z : Int) (hz : z = (most : Int)) :
 Calls Tryd.prog 51 #[.pointer (some ⟨r, 0, none⟩), .int .i64 z] w (Mf.Went r b w (.int .i64 x) s') := by
 subst hz
 have := Mf.number_c r b s most w h hm
 rw [hx] at this
 exact this
def Mf.GotE (r b : Nat) (w : World) (X : (Int × Int × Mf.E) × Mf.St) (e : Ending) (w' : World) : Prop :=
 ∃ vd va, e = .returned (.agg #[vd, va, .int .i64 X.1.2.2.floor, .int .i64 X.1.2.2.next]) ∧ Mf.Oi w.heap.size w' vd X.1.2.2.drop ∧ Mf.Ow w.heap.size w' va X.1.2.2.add ∧ Mf.Rdr r b w' X.2 ∧ Mf.By2 r b w w'
set_option maxHeartbeats 8000000 in
set_option maxRecDepth 100000 in
theorem Mf.edit_c (r b : Nat) (s : Mf.St) (w : World) (h : Mf.Rdr r b w s) :
 Calls Tryd.prog 29 #[.pointer (some ⟨r, 0, none⟩)] w (Mf.GotE r b w (Mf.sX s)) := by
 obtain ⟨⟨n, s1⟩, h1⟩ : ∃ x, Mf.sC 1000 s = x := ⟨_, rfl⟩
 obtain ⟨N, hN, hN9⟩ := Mf.sC_nat 1000 s
 rw [h1] at hN
 simp only at hN
 subst hN
 obtain ⟨⟨D, s2⟩, h2⟩ : ∃ x, Mf.sL (Mf.sC 999999999) N s1 = x := ⟨_, rfl⟩
 obtain ⟨⟨m, s3⟩, h3⟩ : ∃ x, Mf.sC 1000 s2 = x := ⟨_, rfl⟩
 obtain ⟨K, hK, hK9⟩ := Mf.sC_nat 1000 s2
 rw [h3] at hK
 simp only at hK
 subst hK
 obtain ⟨⟨A, s4⟩, h4⟩ : ∃ x, Mf.sL Mf.sP K s3 = x := ⟨_, rfl⟩
 obtain ⟨⟨fl, s5⟩, h5⟩ : ∃ x, Mf.sC 999999999 s4 = x := ⟨_, rfl⟩
 obtain ⟨⟨nx, s6⟩, h6⟩ : ∃ x, Mf.sC 999999999 s5 = x := ⟨_, rfl⟩
 rw [Mf.sX_is h1 (by rw [Int.toNat_natCast]; exact h2) h3 (by rw [Int.toNat_natCast]; exact h4) h5 h6]
 have K1 := Lib.hid fun (W : World) (g : Mf.Rdr r b W s) => Mf.num_c r b s 1000 W g (by decide) _ _ h1 1000 rfl
 have K3 := Lib.hid fun (W : World) (g : Mf.Rdr r b W s2) => Mf.num_c r b s2 1000 W g (by decide) _ _ h3 1000 rfl
 have K5 := Lib.hid fun (W : World) (g : Mf.Rdr r b W s4) => Mf.num_c r b s4 999999999 W g (by decide) _ _ h5 999999999 rfl
 have K6 := Lib.hid fun (W : World) (g : Mf.Rdr r b W s5) => Mf.num_c r b s5 999999999 W g (by decide) _ _ h6 999999999 rfl
 have H2 := Lib.hid h2
 have H4 := Lib.hid h4
 have hlt := h.lt
 obtain ⟨w2, hw2⟩ : ∃ w2, w2 = (w.alloc (.cells Mf.z4 37)).alloc (.cells Mf.z4 37) := ⟨_, rfl⟩
 have hA1 : Below w.heap.size w (w.alloc (.cells Mf.z4 37)) := (Below.refl _ _).alloc (Nat.le_refl _) _
 have hA : Below w.heap.size w w2 := by rw [hw2]; exact hA1.alloc hA1.size _
 have hsz : (w.alloc (.cells Mf.z4 37)).heap.size = w.heap.size + 1 := World.size_alloc ..
 have hb1 := heap_alloc_new (w.alloc (.cells Mf.z4 37)) (.cells Mf.z4 37)
 rw [hsz, ← hw2] at hb1
 have hb0 : w2.heap[w.heap.size]? = some (.cells Mf.z4 37 (0, 0)) := by
  rw [hw2]
  exact (((Below.refl _ (w.alloc (.cells Mf.z4 37))).alloc (Nat.le_refl _) (.cells Mf.z4 37)).block w.heap.size (by rw [hsz]; omega)).trans (heap_alloc_new w _)
 have X2 := Lib.hid (Mf.XB.mk (vd := .slice none 0 0) (va := .slice none 0 0) (f := 0) (n := 0) (h.kept hA) (Mf.By2.ofBelow (r := r) (b := b) hA) hb1 hb0 (Mf.Oi.nil _ _) (Mf.Ow.nil _ _) (Nat.le_refl _) hlt.1 hlt.2 (by rw [hw2, World.size_alloc, hsz]; omega))
 unfold Mf.z4 at hw2
 have hN0 : (N : Int) ≤ 1000 := by omega
 have hK0 : (K : Int) ≤ 1000 := by omega
 clear h h1 h2 h3 h4 h5 h6 hA1 hA hsz hb1 hb0
 go_enter Tryd.func29, Tryd.ntmps29
 go_wp2_with fail
 rw [← hw2]
 clear hw2
 with_reducible refine (K1.out w2 X2.out.rdr).mono ?_
 rintro e w3 hg
 have X3 := Lib.hid (X2.out.went hg)
 obtain ⟨rfl, -, -⟩ := hg
 clear K1 X2
 go_wp2_with fail
 go_loopw [6] (fun i wr => ∃ (k : Nat) (vd : Value) (M : List Int) (sk : Mf.St), k ≤ N ∧ i = .int .i64 k ∧ Mf.XB r b w.heap.size w wr vd (.slice none 0 0) 0 0 M [] sk ∧ (M ++ (Mf.sL (Mf.sC 999999999) (N - k) sk).1, (Mf.sL (Mf.sC 999999999) (N - k) sk).2) = (D, s2) ∧ M.length = k) (fun i _ => N - (intOf i).toNat)
 case atStart => exact ⟨0, _, [], s1, Nat.zero_le _, rfl, X3.out, H2.out, rfl⟩
 case round =>
  obtain ⟨k, vd, M, sk, hk, rfl, hX, hq, hl⟩ := hrel
  have hk0 : (0 : Int) ≤ (k : Int) := by omega
  have XR := Lib.hid hX
  by_cases hkl : k < N
  ·obtain ⟨⟨x, sx⟩, hx⟩ : ∃ x, Mf.sC 999999999 sk = x := ⟨_, rfl⟩
   have hst := Mf.sL_step (Mf.sC 999999999) hkl sk M
   rw [hx] at hst
   have HNX : Hid ((M ++ [x] ++ (Mf.sL (Mf.sC 999999999) (N - (k + 1)) sx).1, (Mf.sL (Mf.sC 999999999) (N - (k + 1)) sx).2) = (D, s2)) := Lib.hid (hst.symm.trans hq)
   have HLN := Lib.hid hl
   have hki : (k : Int) < (N : Int) := by omega
   have HDR : Hid (Below wr.heap.size wr wr.drew) := Lib.hid (Kn.below_drewN (Below.refl _ _) 1)
   have CN := Lib.hid (Mf.num_c r b sk 999999999 wr.drew (hX.rdr.kept HDR.out) (by decide) _ _ hx 999999999 rfl)
   have XD := Lib.hid (hX.kept HDR.out)
   have e0 := (Mf.quad XD.out.box).1.1
   clear hst hx hq hl hX
   go_wp2_with fail
   go_region_law
    (first
     | (go_simp; go_at_call 51; (with_reducible refine CN.out.mono ?_); rintro e w4 hg; have XE := Lib.hid (XD.out.went hg); obtain ⟨rfl, -, -⟩ := hg; have XA := Lib.hid (XE.out.kept ((Below.refl w4.heap.size w4).alloc (Nat.le_refl _) (.cells #[.int .i64 x] 3))); have e1 := (Mf.quad XE.out.box).1.1; have e2 := (Mf.quad XA.out.box).1.1; have HSR := Lib.hid (Dk.src_one (enc := Mf.ic) w4 x #[.int .i64 x] rfl 3); have HSZ := Lib.hid XA.out.size)
     | (refine Mf.step_int [x] HSZ.out XA.out.dr (by have := HLN.out; simp only [List.length_singleton]; omega) _ _ _ (by rfl) (by rfl) (by rfl) (by rfl) HSR.out ?_
        intro v5 w5 o5 g5
        obtain ⟨gv, cv, rfl, -, -⟩ := Dk.Own.form1 o5
        have X5 := Lib.hid (XA.out.drops g5 o5)
        have hbx := (g5.by_.block (w.heap.size + 1) (lt_of_block XA.out.box) (fun e => by have := (World.ownsRow.lt XA.out.dr _ e.symm).1; omega)).trans XA.out.box
        have hrs := (g5.by_.block w.heap.size (lt_of_block XA.out.res) (fun e => by have := (World.ownsRow.lt XA.out.dr _ e.symm).1; omega)).trans XA.out.res
        have HS4 := Lib.hid (Mf.quad hrs).1.2.2.1
        obtain ⟨⟨y0, -⟩, z0, -⟩ := Mf.quad hbx
        clear o5 g5 hbx hrs))
   all_goals
    go_wp2
    go_roundw
    case rel => exact ⟨k + 1, _, _, _, by omega, by simp, X5.out, HNX.out, by rw [List.length_append, HLN.out]; rfl⟩
    case measure => simp [intOf]; omega
  ·obtain rfl : k = N := by omega
   have hki : ¬ (k : Int) < (k : Int) := by omega
   rw [Nat.sub_self] at hq
   have hq2 : M = D ∧ sk = s2 := by simpa [Mf.sL, Mf.sp] using hq
   obtain ⟨rfl, rfl⟩ := hq2
   have c3 := K3.out wr hX.rdr
   clear hk hkl hk0 hq hX hN0 H2 K3
   go_wp2_with fail
   with_reducible refine c3.mono ?_
   rintro e w4 hg
   have X4 := Lib.hid (XR.out.went hg)
   obtain ⟨rfl, -, -⟩ := hg
   clear c3 XR
   go_wp2_with fail
   go_loopw [18] (fun i wr => ∃ (k : Nat) (va : Value) (P : List Mf.P) (sk : Mf.St), k ≤ K ∧ i = .int .i64 k ∧ Mf.XB r b w.heap.size w wr vd va 0 0 M P sk ∧ (P ++ (Mf.sL Mf.sP (K - k) sk).1, (Mf.sL Mf.sP (K - k) sk).2) = (A, s4) ∧ P.length = k) (fun i _ => K - (intOf i).toNat)
   case atStart => exact ⟨0, _, [], s3, Nat.zero_le _, rfl, X4.out, H4.out, rfl⟩
   case round =>
    obtain ⟨k2, va, P, sk2, hk, rfl, hX, hq, hl⟩ := hrel
    have hk0 : (0 : Int) ≤ (k2 : Int) := by omega
    have XR := Lib.hid hX
    by_cases hkl : k2 < K
    ·obtain ⟨⟨x, sx⟩, hx⟩ : ∃ x, Mf.sP sk2 = x := ⟨_, rfl⟩
     have hst := Mf.sL_step Mf.sP hkl sk2 P
     rw [hx] at hst
     have HNX : Hid ((P ++ [x] ++ (Mf.sL Mf.sP (K - (k2 + 1)) sx).1, (Mf.sL Mf.sP (K - (k2 + 1)) sx).2) = (A, s4)) := Lib.hid (hst.symm.trans hq)
     have HLN := Lib.hid hl
     have hki : (k2 : Int) < (K : Int) := by omega
     have HDR : Hid (Below wr.heap.size wr wr.drew) := Lib.hid (Kn.below_drewN (Below.refl _ _) 1)
     have cn := Mf.part_c r b sk2 wr.drew (hX.rdr.kept HDR.out)
     rw [hx] at cn
     have XD := Lib.hid (hX.kept HDR.out)
     have e0 := (Mf.quad XD.out.box).1.2.1
     obtain ⟨id, lv, ⟨an, ai, sa⟩, ⟨bn, bi, sb⟩⟩ := x
     unfold Mf.P.val Mf.cs at cn
     simp only at cn
     have CN := Lib.hid cn
     clear hst hx hq hl hX cn
     go_wp2_with fail
     go_region_law
      (first
       | (go_simp; go_at_call 52; (with_reducible refine CN.out.mono ?_); rintro e w4 hg; have XE := Lib.hid (XD.out.went hg); obtain ⟨rfl, -, -⟩ := hg; have XA := Lib.hid (XE.out.kept ((Below.refl w4.heap.size w4).alloc (Nat.le_refl _) (.cells #[.int .i64 id, .int .i64 lv, .bool an, .int .i64 ai, .string sa, .bool bn, .int .i64 bi, .string sb] 44))); have e1 := (Mf.quad XE.out.box).1.2.1; have e2 := (Mf.quad XA.out.box).1.2.1; have HSR := Lib.hid (Dk.src_one (enc := Mf.pc) w4 ⟨id, lv, ⟨an, ai, sa⟩, ⟨bn, bi, sb⟩⟩ #[.int .i64 id, .int .i64 lv, .bool an, .int .i64 ai, .string sa, .bool bn, .int .i64 bi, .string sb] rfl 44); have HSZ := Lib.hid XA.out.size)
       | (refine Mf.step_part [⟨id, lv, ⟨an, ai, sa⟩, ⟨bn, bi, sb⟩⟩] HSZ.out XA.out.ad (by have := HLN.out; simp only [List.length_singleton]; omega) _ _ _ (by rfl) (by rfl) (by rfl) (by rfl) HSR.out ?_
          intro v5 w5 o5 g5
          obtain ⟨gv, cv, rfl, -, -⟩ := Dk.Own.form1 o5
          have X5 := Lib.hid (XA.out.adds g5 o5)
          have hbx := (g5.by_.block (w.heap.size + 1) (lt_of_block XA.out.box) (fun e => by have := (World.ownsRow.lt XA.out.ad _ e.symm).1; omega)).trans XA.out.box
          have hrs := (g5.by_.block w.heap.size (lt_of_block XA.out.res) (fun e => by have := (World.ownsRow.lt XA.out.ad _ e.symm).1; omega)).trans XA.out.res
          have HS4 := Lib.hid (Mf.quad hrs).1.2.2.1
          obtain ⟨⟨-, y0, -⟩, -, z0, -⟩ := Mf.quad hbx
          clear o5 g5 hbx hrs))
     all_goals
      go_wp2
      go_roundw
      case rel => exact ⟨k2 + 1, _, _, _, by omega, by simp, X5.out, HNX.out, by rw [List.length_append, HLN.out]; rfl⟩
      case measure => simp [intOf]; omega
    ·obtain rfl : k2 = K := by omega
     have hki : ¬ (k2 : Int) < (k2 : Int) := by omega
     rw [Nat.sub_self] at hq
     have hq2 : P = A ∧ sk2 = s4 := by simpa [Mf.sL, Mf.sp] using hq
     obtain ⟨rfl, rfl⟩ := hq2
     have c5 := K5.out wr hX.rdr
     clear hk hkl hk0 hq hX hK0 H4 K5
     go_wp2_with fail
     with_reducible refine c5.mono ?_
     rintro e w5 hg
     have X5 := Lib.hid (XR.out.went hg)
     obtain ⟨rfl, -, -⟩ := hg
     obtain ⟨⟨b0, b1, b2, b3⟩, f0, f1, f2, f3⟩ := Mf.quad X5.out.box
     have X6 := Lib.hid (X5.out.num (i := 2) (x := .int .i64 fl) (f' := fl) (n' := 0) (heap_setCell_same _ _ 2 _ _ _ X5.out.box))
     obtain ⟨w6, hw6⟩ : ∃ w6, w6 = w5.setCell ⟨w.heap.size + 1, 2, none⟩ (.int .i64 fl) := ⟨_, rfl⟩
     rw [← hw6] at X6
     clear c5 XR
     go_wp2_with fail
     rw [← hw6]
     clear hw6 b0 b1 b2 b3 f0 f1 f2 f3 X5
     with_reducible refine (K6.out w6 X6.out.rdr).mono ?_
     rintro e w7 hg
     have X7 := Lib.hid (X6.out.went hg)
     obtain ⟨rfl, -, -⟩ := hg
     obtain ⟨⟨b0, b1, b2, b3⟩, f0, f1, f2, f3⟩ := Mf.quad X7.out.box
     have X8 := Lib.hid (X7.out.num (i := 3) (x := .int .i64 nx) (f' := fl) (n' := nx) (heap_setCell_same _ _ 3 _ _ _ X7.out.box))
     obtain ⟨w8, hw8⟩ : ∃ w8, w8 = w7.setCell ⟨w.heap.size + 1, 3, none⟩ (.int .i64 nx) := ⟨_, rfl⟩
     rw [← hw8] at X8
     obtain ⟨ad, nd, cd, rfl⟩ : ∃ a n c, vd = .slice a n c := by
      obtain ⟨a, c, e, -⟩ := X8.out.dr.is
      exact ⟨_, _, _, e⟩
     obtain ⟨aa, na, ca, rfl⟩ : ∃ a n c, va = .slice a n c := X8.out.ad.ps.form3
     obtain ⟨⟨d0, d1, d2, d3⟩, -⟩ := Mf.quad X8.out.box
     obtain ⟨⟨y0, y1, y2, y3⟩, z0, z1, z2, z3⟩ := Mf.quad X8.out.res
     have HP := Lib.hid (Mf.By2.sets (q := w.heap.size) (Nat.le_refl _) [(0, .slice ad nd cd), (1, .slice aa na ca), (2, .int .i64 fl), (3, .int .i64 nx)] X8.out.by2)
     have HQ := Lib.hid (Mf.Rdr.sets (q := w.heap.size) hlt.1 hlt.2 [(0, .slice ad nd cd), (1, .slice aa na ca), (2, .int .i64 fl), (3, .int .i64 nx)] X8.out.rdr)
     have HD : Hid (Mf.Oi w.heap.size (Mf.sets w.heap.size w8 [(0, .slice ad nd cd), (1, .slice aa na ca), (2, .int .i64 fl), (3, .int .i64 nx)]) (.slice ad nd cd) M) := Lib.hid (World.ownsRow.mono (Dk.Own.same X8.out.dr fun j hj => Mf.sets_heap (by have := (World.ownsRow.lt X8.out.dr j hj).1; omega) _ _) (by omega))
     have HA : Hid (Mf.Ow w.heap.size (Mf.sets w.heap.size w8 [(0, .slice ad nd cd), (1, .slice aa na ca), (2, .int .i64 fl), (3, .int .i64 nx)]) (.slice aa na ca) P) := Lib.hid (World.ownsRow.mono (Dk.Own.same X8.out.ad fun j hj => Mf.sets_heap (by have := (World.ownsRow.lt X8.out.ad j hj).1; omega) _ _) (by omega))
     rw [hw8] at d0 d1 d2 d3 y0 y1 y2 y3 z0 z1 z2 z3 HP HQ HD HA
     clear hw8 X6 X7
     go_wp2
     (try simp only [Exit.inBlock, Exit.then])
     refine bodyPost_ret (v := .agg #[.slice ad nd cd, .slice aa na ca, .int .i64 fl, .int .i64 nx]) ?_ rfl ⟨_, _, rfl, HD.out, HA.out, HQ.out, HP.out⟩
     rw [Mf.results_cell rfl]
     go_simp
end
section
open Go.RowKit
set_option maxHeartbeats 1000000 in
theorem Ty.rtext_m (r : Nat) (s : ByteArray) (hs : s.size ≤ 140737488351232) (l : List UInt8) (er : Nat) (most : Int) (hm : -9223372036854775808 ≤ most ∧ most ≤ 9223372036854775807) (w : World) (h : Ty.RS r s w l er) :
 Calls Tryd.prog 60 #[.pointer (some ⟨r, 0, none⟩), .int .i64 most] w (Ty.RLeft r s w (.string (Ty.S (Ty.rdT most l er).1)) (Ty.rdT most l er).2.1 (Ty.rdT most l er).2.2) := by
 obtain ⟨a, ha, hl, hR⟩ := h
 obtain ⟨c0, c1, c2, _, _⟩ := hR.cells
 have HL := Lib.hid hl
 by_cases he : er = 0
 ·subst he
  obtain ⟨n, sz, e1, hn⟩ : ∃ n sz e1, Ty.num l = (n, sz, e1) := ⟨_, _, _, rfl⟩
  have hll : l.length = s.size - a := by rw [← hl, Ty.len_drop]
  have hz : a + sz ≤ s.size := by have := Ty.num_size l; rw [hn] at this; simp only at this; omega
  have hz9 : sz ≤ 9 := by have := Ty.num_size9 l; rw [hn] at this; exact this
  have E1 : (Ty.num l).1 = n := by rw [hn]
  have E2 : (Ty.num l).2.1 = sz := by rw [hn]
  have E3 : (Ty.num l).2.2 = e1 := by rw [hn]
  have HN := Lib.hid hn
  obtain ⟨hm1, hm2⟩ := hm
  clear hn hl
  by_cases h1 : e1 = 0
  ·subst h1
   by_cases h2 : most < 0 ∨ (¬ most < 0 ∧ most < (n : Int))
   ·have HT := Lib.hid (Ty.rdT_of (Ty.txt_long (most := most) E3 (by rw [E1]; omega)))
    rw [HT.out]
    clear E1 E2 E3 hll
    rcases h2 with h2 | ⟨h2, h3⟩
    all_goals
     go_enter Tryd.func60, Tryd.ntmps60
     go_wp2_with fail
     refine (Ty.peek_c r s a 0 ha hs _ hR).mono ?_
     rintro e w1 ⟨rfl, hR1, g1⟩
     rw [HL.out]
     unfold Ty.numV
     rw [HN.out]
     go_wp2_with fail
     refine (Ty.fail_c r s a 3 _ hR1).mono ?_
     rintro e w2 ⟨rfl, hR2, g2⟩
     go_wp2
     go_ret
     exact ⟨rfl, ⟨a, ha, HL.out, hR2⟩, Ty.by_trans (Ty.by_some g1 r) g2⟩
   ·have h2a : ¬ most < 0 := by omega
    have h2b : ¬ most < (n : Int) := by omega
    by_cases h3 : ((s.size - a : Nat) : Int) - (sz : Int) < (n : Int)
    ·have HT := Lib.hid (Ty.rdT_of (Ty.txt_short (most := most) E3 (by rw [E1]; omega) (by rw [E1, E2, hll]; omega)))
     rw [HT.out]
     have hle : (sz : Int) ≤ ((s.size - a : Nat) : Int) := by omega
     clear E1 E2 E3 hll h2
     go_enter Tryd.func60, Tryd.ntmps60
     go_wp2_with fail
     refine (Ty.peek_c r s a 0 ha hs _ hR).mono ?_
     rintro e w1 ⟨rfl, hR1, g1⟩
     rw [HL.out]
     unfold Ty.numV
     rw [HN.out]
     go_wp2_with fail
     refine (Ty.rleft_o r s a 0 ha hs _ hR1).mono ?_
     rintro e w2 ⟨rfl, hR2, g2⟩
     go_wp2_with fail
     refine (Ty.fail_c r s a 2 _ hR2).mono ?_
     rintro e w3 ⟨rfl, hR3, g3⟩
     go_wp2
     go_ret
     exact ⟨rfl, ⟨a, ha, HL.out, hR3⟩, Ty.by_trans (Ty.by_some g1 r) (Ty.by_trans (Ty.by_some g2 r) g3)⟩
    ·have HT := Lib.hid (Ty.rdT_of (Ty.txt_whole (most := most) E3 (by rw [E1]; omega) (by rw [E1, E2, hll]; omega)))
     have hle : (sz : Int) ≤ ((s.size - a : Nat) : Int) := by omega
     have hend : a + sz + n ≤ s.size := by omega
     have w1' : IntKind.i64.wrap ((a : Int) + (sz : Int)) = (a : Int) + (sz : Int) := IntWalk.i64_in _ (by omega)
     have w2' : IntKind.i64.wrap (n : Int) = (n : Int) := IntWalk.i64_in _ (by omega)
     have w3' : IntKind.i64.wrap ((a : Int) + (sz : Int) + (n : Int)) = (a : Int) + (sz : Int) + (n : Int) := IntWalk.i64_in _ (by omega)
     have z1 : 0 ≤ (a : Int) + (sz : Int) := by omega
     have z2 : (a : Int) + (sz : Int) ≤ (a : Int) + (sz : Int) + (n : Int) := by omega
     have z3 : (a : Int) + (sz : Int) + (n : Int) ≤ (s.size : Int) := by omega
     have t1 : ((a : Int) + (sz : Int)).toNat = a + sz := by omega
     have t2 : ((a : Int) + (sz : Int) + (n : Int)).toNat = a + sz + n := by omega
     have F1 := Lib.hid E1
     have F2 := Lib.hid E2
     clear E1 E2 E3 hll h2
     go_enter Tryd.func60, Tryd.ntmps60
     go_wp2_with fail
     refine (Ty.peek_c r s a 0 ha hs _ hR).mono ?_
     rintro e w1 ⟨rfl, hR1, g1⟩
     rw [HL.out]
     unfold Ty.numV
     rw [HN.out]
     go_wp2_with fail
     refine (Ty.rleft_o r s a 0 ha hs _ hR1).mono ?_
     rintro e w2 ⟨rfl, hR2, g2⟩
     clear c0 c1 c2
     obtain ⟨c0, c1, c2, f1, _⟩ := hR2.cells
     go_wp2_with fail
     go_quiet (fail)
     go_wp2
     go_ret
     have ex : s.extract (a + sz) (a + sz + n) = Ty.S ((l.drop sz).take n) := by rw [Ty.extract_S, Ty.drop_at, HL.out, Nat.add_sub_cancel_left]
     have ec : ((a : Int) + ((sz : Int) + (n : Int))) = ((a + (sz + n) : Nat) : Int) := by omega
     rw [HT.out, F1.out, F2.out, ec]
     exact ⟨congrArg (fun x => Ending.returned (.string x)) ex, ⟨a + (sz + n), by omega, by rw [Ty.drop_at, HL.out], Ty.rc_set1 (hR2.drewN nq)⟩, Ty.by_trans (Ty.by_some g1 r) (Ty.by_trans (Ty.by_some g2 r) (Ty.by_trans (Ty.by_drewN _ _ _) (Ty.by_set _ _ _ _)))⟩
  ·have hne : ((e1 : Int) != 0) = true := by rw [bne_iff_ne]; omega
   have HT := Lib.hid (Ty.rdT_of (Ty.txt_bad (most := most) (by rw [E3]; exact h1)))
   rw [HT.out]
   have F3 := Lib.hid E3
   clear h1 E1 E2 E3 hll
   go_enter Tryd.func60, Tryd.ntmps60
   go_wp2_with fail
   refine (Ty.peek_c r s a 0 ha hs _ hR).mono ?_
   rintro e w1 ⟨rfl, hR1, g1⟩
   rw [HL.out]
   unfold Ty.numV
   rw [HN.out]
   go_wp2_with fail
   refine (Ty.fail_c r s a e1 _ hR1).mono ?_
   rintro e w2 ⟨rfl, hR2, g2⟩
   go_wp2
   go_ret
   exact ⟨rfl, ⟨a, ha, HL.out, by rw [F3.out]; exact hR2⟩, Ty.by_trans (Ty.by_some g1 r) g2⟩
 ·have hne : ((er : Int) != 0) = true := by rw [bne_iff_ne]; omega
  have HR : Hid (Ty.rdT most l er = ([], l, er)) := Lib.hid (by simp [Ty.rdT, he])
  rw [HR.out]
  clear he hl
  go_enter Tryd.func60, Tryd.ntmps60
  go_wp2
  go_ret
  exact ⟨rfl, ⟨a, ha, HL.out, hR⟩, Ty.by_refl _ _⟩
end
section
open Go Go.RowKit
theorem Mf.rs_stay {r : Nat} {t : ByteArray} {w w' : World} {l : List UInt8} {e : Nat} (h : Ty.RS r t w l e) (g : w'.heap[r]? = w.heap[r]?) : Ty.RS r t w' l e := by
 obtain ⟨a, ha, hl, hR⟩ := h
 refine ⟨a, ha, hl, ?_⟩
 unfold Ty.RC at hR ⊢
 rw [g]
 exact hR
theorem Mf.rs_lt {r : Nat} {t : ByteArray} {w : World} {l : List UInt8} {e : Nat} (h : Ty.RS r t w l e) : r < w.heap.size := by
 obtain ⟨a, ha, hl, hR⟩ := h
 unfold Ty.RC at hR
 exact lt_of_block hR
def Mf.Rent (r : Nat) (t : ByteArray) (w : World) (v : Value) (c : Mf.Ct) (e : Ending) (w' : World) : Prop := e = .returned v ∧ Ty.RS r t w' c.1 c.2 ∧ Mf.By2 r r w w'
set_option maxHeartbeats 1000000 in
set_option maxRecDepth 100000 in
theorem Mf.rcount_c (r : Nat) (t : ByteArray) (ht : t.size ≤ 140737488351232) (c : Mf.Ct) (w : World) (h : Ty.RS r t w c.1 c.2) :
 Calls Tryd.prog 37 #[.pointer (some ⟨r, 0, none⟩)] w (Mf.Rent r t w (.int .i64 (Mf.dC c).1) (Mf.dC c).2) := by
 have cu := Ty.ruint_m r t ht c.1 c.2 w h
 have hU := Ty.rdU_u64 c.1 c.2
 unfold Mf.dC
 generalize Ty.rdU c.1 c.2 = U at cu hU ⊢
 obtain ⟨n, l1, e1⟩ := U
 unfold Ty.U64 at hU
 simp only at cu hU ⊢
 clear h
 by_cases hn : 999999999 < n
 ·rw [if_pos hn]
  have hgt : (999999999 : Int) < (n : Int) := by omega
  go_enter Tryd.func37, Tryd.ntmps37
  go_wp2_with fail
  with_reducible refine cu.mono ?_
  rintro e9 w1 ⟨rfl, hc, hg⟩
  have HC := Lib.hid hc
  have HG := Lib.hid hg
  clear hc hg cu
  go_wp2
  go_ret
  exact ⟨rfl, HC.out, Mf.By2.ofB HG.out⟩
 ·rw [if_neg hn]
  have hgt : ¬ (999999999 : Int) < (n : Int) := by omega
  have hwn : IntKind.i64.wrap (n : Int) = (n : Int) := by rw [IntKind.wrap_i64]; omega
  go_enter Tryd.func37, Tryd.ntmps37
  go_wp2_with fail
  with_reducible refine cu.mono ?_
  rintro e9 w1 ⟨rfl, hc, hg⟩
  have HC := Lib.hid hc
  have HG := Lib.hid hg
  clear hc hg cu
  go_wp2
  go_ret
  exact ⟨rfl, HC.out, Mf.By2.ofB HG.out⟩
set_option maxHeartbeats 2000000 in
set_option maxRecDepth 100000 in
theorem Mf.rbound_c (r : Nat) (t : ByteArray) (ht : t.size ≤ 140737488351232) (c : Mf.Ct) (w : World) (h : Ty.RS r t w c.1 c.2) :
 Calls Tryd.prog 38 #[.pointer (some ⟨r, 0, none⟩)] w (Mf.Rent r t w (Mf.dV c).1.val (Mf.dV c).2) := by
 have hlt := Mf.rs_lt h
 obtain ⟨w0, hw0⟩ : ∃ w0, w0 = w.alloc (.cells #[.bool false, .int .i64 0, .string ⟨#[]⟩] 42) := ⟨_, rfl⟩
 have g0 : Below w.heap.size w w0 := by rw [hw0]; exact (Below.refl _ w).alloc (Nat.le_refl _) _
 have hy : w0.heap[w.heap.size]? = some (.cells #[.bool false, .int .i64 0, .string ⟨#[]⟩] 42 (0, 0)) := by rw [hw0]; exact heap_alloc_new w _
 have HY := Lib.hid hy
 have HG := Lib.hid (Mf.By2.ofBelow (r := r) (b := r) g0)
 unfold Mf.dV Mf.sb Mf.dI Mf.dT Mf.sp Kn.V.val
 have ci := Ty.rint_m r t ht c.1 c.2 w0 (Mf.rs_stay h (g0.block r hlt))
 generalize Ty.rdU c.1 c.2 = U at ci ⊢
 obtain ⟨n, l1, e1⟩ := U
 simp only at ci ⊢
 have CT := Lib.hid fun (W : World) (hc : Ty.RS r t W l1 e1) => Ty.rtext_m r t ht l1 e1 64 (by omega) W hc
 generalize Ty.rdT 64 l1 e1 = T at CT ⊢
 obtain ⟨x, l2, e2⟩ := T
 simp only at CT ⊢
 clear h g0 hy
 go_enter Tryd.func38, Tryd.ntmps38
 go_wp2_with fail
 rw [← hw0]
 clear hw0
 with_reducible refine ci.mono ?_
 rintro e9 w1 ⟨rfl, hc, hg⟩
 have HG1 := Lib.hid (HG.out.trans (Mf.By2.ofB hg))
 have HY1 := Lib.hid ((hg.block _ (lt_of_block HY.out) (fun e => by have := Option.some.inj e; omega)).trans HY.out)
 have ct := CT.out w1 hc
 clear hc hg ci CT HY HG
 go_wp2_with fail
 with_reducible refine ct.mono ?_
 rintro e9 w2 ⟨rfl, hc, hg⟩
 have HC := Lib.hid hc
 have HG9 := Lib.hid (HG1.out.trans (Mf.By2.ofB hg))
 have hy3 := (hg.block _ (lt_of_block HY1.out) (fun e => by have := Option.some.inj e; omega)).trans HY1.out
 obtain ⟨⟨q0, q1, q2⟩, f0, f1, f2⟩ := Mf.three hy3
 have HP := Lib.hid (Mf.By2.sets (q := w.heap.size) (Nat.le_refl _) [(0, .bool false), (1, .int .i64 (Ty.zag (n : Int))), (2, .string (Ty.S x))] HG9.out)
 have HQ : Hid (Ty.RS r t (Mf.sets w.heap.size w2 [(0, .bool false), (1, .int .i64 (Ty.zag (n : Int))), (2, .string (Ty.S x))]) l2 e2) := Lib.hid (Mf.rs_stay hc (Mf.sets_heap (by omega) _ _))
 clear hc hg ct hy3
 go_wp2
 (try simp only [Exit.inBlock, Exit.then])
 refine bodyPost_ret (v := .agg #[.bool false, .int .i64 (Ty.zag (n : Int)), .string (Ty.S x)]) ?_ rfl ⟨rfl, HQ.out, HP.out⟩
 rw [Mf.results_cell rfl]
 go_simp
end
section
open Go Go.RowKit
def Mf.sc (x : Value × Int × Int) : List Value := [x.1, .int .i64 x.2.1, .int .i64 x.2.2]
abbrev Mf.T3 := (Option Addr × Nat × Nat) × Int × Int
def Mf.sc3 (x : Mf.T3) : List Value := [.slice x.1.1 x.1.2.1 x.1.2.2, .int .i64 x.2.1, .int .i64 x.2.2]
def Mf.Os (base : Nat) (w : World) (v : Value) (L : List Mf.T3) : Prop := Dk.Own 25 3 Mf.sc3 base w v L
theorem Mf.Os.nil (base : Nat) (w : World) : Mf.Os base w (.slice none 0 0) [] := Dk.Own.nil base w
theorem Mf.wpList_int {base : Nat} {w0 : World} {v : Value} {M : List Int} (K : List Int) (hown : Mf.Oi base w0 v M) (hb : base ≤ w0.heap.size) (hl : M.length + K.length ≤ 1000000000000) {u : Value} (hu : Dk.Src Mf.ic w0 u K)
 {ops : Array Oper} {rest : List Oper} {o : Oper} {a : Act} {Q : Exit → Act → World → Prop} (s x : Operand) (hgd : Region.wanted o (yielded ops a.tmps) = true)
 (ho : o.op = .call { callee := .builtin .append, args := #[s, x], argTypes := #[32, 32] })
 (hs : a.eval s = v) (hx : a.eval x = u)
 (h : ∀ v' w', Mf.Oi base w' v' (M ++ K) → Ty.Grew w0 w' v v' → wpList Tryd.prog ops Q rest (a.put o.dst v') w') :
 wpList Tryd.prog ops Q (o :: rest) a w0 :=
 Dk.wpList_append 32 _ 8 Tryd.underlying32 Mf.infoI rfl (by decide) Mf.ic_len Mf.ic_one K hown hb (by omega) (by omega) hu s x hgd ho hs hx h
def Mf.Rd3 (base : Nat) (w : World) (L : List Mf.T3) (S : List Mf.S) : Prop := L.length = S.length ∧ ∀ (i : Nat) (x : Mf.T3) (s : Mf.S), L[i]? = some x → S[i]? = some s → x.2 = (s.floor, s.next) ∧ Mf.Ow base w (.slice x.1.1 x.1.2.1 x.1.2.2) s.parts
theorem Mf.Rd3.nil (base : Nat) (w : World) : Mf.Rd3 base w [] [] := ⟨rfl, fun _ _ _ h => nomatch h⟩
theorem Mf.Rd3.snoc {base : Nat} {w : World} {L : List Mf.T3} {S : List Mf.S} (h : Mf.Rd3 base w L S) {x : Mf.T3} {s : Mf.S} (hx : x.2 = (s.floor, s.next)) (hp : Mf.Ow base w (.slice x.1.1 x.1.2.1 x.1.2.2) s.parts) : Mf.Rd3 base w (L ++ [x]) (S ++ [s]) := by
 refine ⟨by simp [h.1], fun i y t hy ht => ?_⟩
 by_cases hi : i < L.length
 ·rw [List.getElem?_append_left hi] at hy
  rw [List.getElem?_append_left (by rw [← h.1]; exact hi)] at ht
  exact h.2 i y t hy ht
 ·have hl : i = L.length := by
   have := (List.getElem?_eq_some_iff.1 hy).1
   rw [List.length_append, List.length_singleton] at this
   omega
  subst hl
  rw [List.getElem?_append_right (Nat.le_refl _), Nat.sub_self] at hy
  rw [List.getElem?_append_right (by rw [h.1]; exact Nat.le_refl _), h.1, Nat.sub_self] at ht
  obtain rfl : x = y := by simpa using hy
  obtain rfl : s = t := by simpa using ht
  exact ⟨hx, hp⟩
theorem Mf.Rd3.stay {base : Nat} {w w' : World} {L : List Mf.T3} {S : List Mf.S} (h : Mf.Rd3 base w L S) (g : ∀ (j : Nat) (cs : Array Value), base ≤ j → w.heap[j]? = some (.cells cs 44 (0, 0)) → w'.heap[j]? = w.heap[j]?) : Mf.Rd3 base w' L S :=
 ⟨h.1, fun i x s hx hs => ⟨(h.2 i x s hx hs).1, Dk.Own.same (h.2 i x s hx hs).2 fun j hj => by
  obtain ⟨cs, hc⟩ := Dk.Own.typed (h.2 i x s hx hs).2 j hj
  exact g j cs (World.ownsRow.lt (h.2 i x s hx hs).2 j hj).1 hc⟩⟩
theorem Mf.Rd3.kept {base : Nat} {w w' : World} {L : List Mf.T3} {S : List Mf.S} (h : Mf.Rd3 base w L S) (g : Below w.heap.size w w') : Mf.Rd3 base w' L S := h.stay fun j _ _ hc => g.block j (lt_of_block hc)
theorem Mf.Rd3.set {base p i : Nat} {w : World} {u : Value} {L : List Mf.T3} {S : List Mf.S} (h : Mf.Rd3 base w L S) (hp : p < base) : Mf.Rd3 base (w.setCell ⟨p, i, none⟩ u) L S :=
 h.stay fun j _ hj _ => Below.heap_setCell _ _ _ _ (by show j ≠ p; omega)
end
section
open Go Go.RowKit
structure Mf.XR (r q p : Nat) (t : ByteArray) (w0 w : World) (vd va : Value) (f n : Int) (D : List Int) (A : List Mf.P) (c : Mf.Ct) : Prop where
 rs : Ty.RS r t w c.1 c.2
 below : Below w0.heap.size w0 w
 box : w.heap[p]? = some (.cells #[vd, va, .int .i64 f, .int .i64 n] 37 (0, 0))
 res : w.heap[q]? = some (.cells Mf.z4 37 (0, 0))
 dr : Mf.Oi (p + 1) w vd D
 ad : Mf.Ow (p + 1) w va A
 o1 : w0.heap.size ≤ q
 o2 : q < r
 o3 : r < p
 size : p + 1 ≤ w.heap.size
theorem Mf.XR.by {r q p : Nat} {t : ByteArray} {w0 w w' : World} {vd va : Value} {f n : Int} {D : List Int} {A : List Mf.P} {c c' : Mf.Ct} (h : Mf.XR r q p t w0 w vd va f n D A c) (h1 : Ty.RS r t w' c'.1 c'.2) (h2 : Mf.By2 r r w w') : Mf.XR r q p t w0 w' vd va f n D A c' :=
 have o1 := h.o1
 have o2 := h.o2
 have o3 := h.o3
 ⟨h1, h.below.trans (h2.below (by omega) (by omega) h.below.size), (h2.block p (lt_of_block h.box) (by omega) (by omega)).trans h.box, (h2.block q (lt_of_block h.res) (by omega) (by omega)).trans h.res,
  Dk.Own.same h.dr fun j hj => h2.block j (World.ownsRow.lt h.dr j hj).2 (by have := (World.ownsRow.lt h.dr j hj).1; omega) (by have := (World.ownsRow.lt h.dr j hj).1; omega),
  Dk.Own.same h.ad fun j hj => h2.block j (World.ownsRow.lt h.ad j hj).2 (by have := (World.ownsRow.lt h.ad j hj).1; omega) (by have := (World.ownsRow.lt h.ad j hj).1; omega),
  h.o1, h.o2, h.o3, Nat.le_trans h.size h2.size⟩
theorem Mf.XR.went {r q p : Nat} {t : ByteArray} {w0 w w' : World} {vd va v : Value} {f n : Int} {D : List Int} {A : List Mf.P} {c c' : Mf.Ct} {e : Ending} (h : Mf.XR r q p t w0 w vd va f n D A c) (g : Mf.Rent r t w v c' e w') : Mf.XR r q p t w0 w' vd va f n D A c' := h.by g.2.1 g.2.2
theorem Mf.XR.kept {r q p : Nat} {t : ByteArray} {w0 w w' : World} {vd va : Value} {f n : Int} {D : List Int} {A : List Mf.P} {c : Mf.Ct} (h : Mf.XR r q p t w0 w vd va f n D A c) (g : Below w.heap.size w w') : Mf.XR r q p t w0 w' vd va f n D A c := h.by (Mf.rs_stay h.rs (g.block r (Mf.rs_lt h.rs))) (Mf.By2.ofBelow g)
theorem Mf.XR.drops {r q p : Nat} {t : ByteArray} {w0 w w' : World} {vd va v' : Value} {f n : Int} {D : List Int} {A : List Mf.P} {D' : List Int} {c : Mf.Ct} (h : Mf.XR r q p t w0 w vd va f n D A c) (hg : Ty.Grew w w' vd v') (ho : Mf.Oi (p + 1) w' v' D') :
 Mf.XR r q p t w0 (w'.setCell ⟨p, 0, none⟩ v') v' va f n D' A c := by
 have hoff : ∀ j, j < p + 1 → some j ≠ vd.ownBlock := fun j hj e => by have := (World.ownsRow.lt h.dr j e.symm).1; omega
 have hsz := h.size
 have hw : ∀ j, j < p → (w'.setCell ⟨p, 0, none⟩ v').heap[j]? = w.heap[j]? := fun j hj =>
  (Below.heap_setCell _ _ _ _ (by show j ≠ p; omega)).trans (hg.by_.block j (by omega) (hoff j (by omega)))
 have o1 := h.o1
 have o2 := h.o2
 have o3 := h.o3
 have hot : Mf.Ow (p + 1) (w'.setCell ⟨p, 0, none⟩ v') va A := Dk.Own.same h.ad fun j hj => (Below.heap_setCell _ _ _ _ (by show j ≠ p; have := (World.ownsRow.lt h.ad j hj).1; omega)).trans (hg.by_.block j (World.ownsRow.lt h.ad j hj).2 fun e => by
  obtain ⟨c1, e1⟩ := Dk.Own.typed h.dr j e.symm
  obtain ⟨c2, e2⟩ := Dk.Own.typed h.ad j hj
  exact Mf.apart_of e1 e2 (by decide) rfl)
 have hnew : Mf.Oi (p + 1) (w'.setCell ⟨p, 0, none⟩ v') v' D' := Dk.Own.same ho fun j hj => Below.heap_setCell _ _ _ _ (by show j ≠ p; have := (World.ownsRow.lt ho j hj).1; omega)
 exact ⟨Mf.rs_stay h.rs (hw r o3), Mf.below1 (h.below.trans ⟨hg.by_.os, hg.by_.tape, hg.by_.output, hg.by_.size, fun j hj => hg.by_.block j (by omega) (hoff j (by omega))⟩) (by omega) _ _,
  heap_setCell_same _ _ 0 _ _ _ ((hg.by_.block p (by omega) (hoff _ (by omega))).trans h.box), (hw q (by omega)).trans h.res, hnew, hot, h.o1, h.o2, h.o3, by have := hg.by_.size; simp only [World.setCell, Array.size_modify]; omega⟩
theorem Mf.XR.adds {r q p : Nat} {t : ByteArray} {w0 w w' : World} {vd va v' : Value} {f n : Int} {D : List Int} {A : List Mf.P} {A' : List Mf.P} {c : Mf.Ct} (h : Mf.XR r q p t w0 w vd va f n D A c) (hg : Ty.Grew w w' va v') (ho : Mf.Ow (p + 1) w' v' A') :
 Mf.XR r q p t w0 (w'.setCell ⟨p, 1, none⟩ v') vd v' f n D A' c := by
 have hoff : ∀ j, j < p + 1 → some j ≠ va.ownBlock := fun j hj e => by have := (World.ownsRow.lt h.ad j e.symm).1; omega
 have hsz := h.size
 have hw : ∀ j, j < p → (w'.setCell ⟨p, 1, none⟩ v').heap[j]? = w.heap[j]? := fun j hj =>
  (Below.heap_setCell _ _ _ _ (by show j ≠ p; omega)).trans (hg.by_.block j (by omega) (hoff j (by omega)))
 have o1 := h.o1
 have o2 := h.o2
 have o3 := h.o3
 have hot : Mf.Oi (p + 1) (w'.setCell ⟨p, 1, none⟩ v') vd D := Dk.Own.same h.dr fun j hj => (Below.heap_setCell _ _ _ _ (by show j ≠ p; have := (World.ownsRow.lt h.dr j hj).1; omega)).trans (hg.by_.block j (World.ownsRow.lt h.dr j hj).2 fun e => by
  obtain ⟨c1, e1⟩ := Dk.Own.typed h.ad j e.symm
  obtain ⟨c2, e2⟩ := Dk.Own.typed h.dr j hj
  exact Mf.apart_of e1 e2 (by decide) rfl)
 have hnew : Mf.Ow (p + 1) (w'.setCell ⟨p, 1, none⟩ v') v' A' := Dk.Own.same ho fun j hj => Below.heap_setCell _ _ _ _ (by show j ≠ p; have := (World.ownsRow.lt ho j hj).1; omega)
 exact ⟨Mf.rs_stay h.rs (hw r o3), Mf.below1 (h.below.trans ⟨hg.by_.os, hg.by_.tape, hg.by_.output, hg.by_.size, fun j hj => hg.by_.block j (by omega) (hoff j (by omega))⟩) (by omega) _ _,
  heap_setCell_same _ _ 1 _ _ _ ((hg.by_.block p (by omega) (hoff _ (by omega))).trans h.box), (hw q (by omega)).trans h.res, hot, hnew, h.o1, h.o2, h.o3, by have := hg.by_.size; simp only [World.setCell, Array.size_modify]; omega⟩
theorem Mf.XR.num {r q p i : Nat} {t : ByteArray} {w0 w : World} {vd va : Value} {f n f' n' : Int} {D : List Int} {A : List Mf.P} {c : Mf.Ct} {x : Value} (h : Mf.XR r q p t w0 w vd va f n D A c) (hb : (w.setCell ⟨p, i, none⟩ x).heap[p]? = some (.cells #[vd, va, .int .i64 f', .int .i64 n'] 37 (0, 0))) :
 Mf.XR r q p t w0 (w.setCell ⟨p, i, none⟩ x) vd va f' n' D A c :=
 have o1 := h.o1
 have o2 := h.o2
 have o3 := h.o3
 ⟨Mf.rs_stay h.rs (Below.heap_setCell _ _ _ _ (by show r ≠ p; omega)), Mf.below1 h.below (by omega) _ _, hb, (Below.heap_setCell _ _ _ _ (by show q ≠ p; omega)).trans h.res,
  Dk.Own.same h.dr fun j hj => Below.heap_setCell _ _ _ _ (by show j ≠ p; have := (World.ownsRow.lt h.dr j hj).1; omega), Dk.Own.same h.ad fun j hj => Below.heap_setCell _ _ _ _ (by show j ≠ p; have := (World.ownsRow.lt h.ad j hj).1; omega), h.o1, h.o2, h.o3, by have := h.size; simp only [World.setCell, Array.size_modify]; exact this⟩
theorem Mf.XR.err {r q p : Nat} {t : ByteArray} {w0 w : World} {vd va : Value} {f n : Int} {D : List Int} {A : List Mf.P} {c : Mf.Ct} (h : Mf.XR r q p t w0 w vd va f n D A c) : w.cell? ⟨r, 2, none⟩ = some (.int .i64 (c.2 : Int)) := by
 obtain ⟨a, _, _, hR⟩ := h.rs
 exact hR.cells.2.2.1
structure Mf.XZ (r q p : Nat) (t : ByteArray) (w0 w : World) (vd va : Value) (f n : Int) (D : List Int) (A : List Mf.P) (c : Mf.Ct) (x0 x1 x2 x3 : Value) : Prop where
 rs : Ty.RS r t w c.1 c.2
 below : Below w0.heap.size w0 w
 box : w.heap[p]? = some (.cells #[vd, va, .int .i64 f, .int .i64 n] 37 (0, 0))
 res : w.heap[q]? = some (.cells #[x0, x1, x2, x3] 37 (0, 0))
 dr : Mf.Oi (p + 1) w vd D
 ad : Mf.Ow (p + 1) w va A
 o1 : w0.heap.size ≤ q
 o2 : q < r
 o3 : r < p
 size : p + 1 ≤ w.heap.size
theorem Mf.XZ.of {r q p : Nat} {t : ByteArray} {w0 w : World} {vd va : Value} {f n : Int} {D : List Int} {A : List Mf.P} {c : Mf.Ct} (h : Mf.XR r q p t w0 w vd va f n D A c) : Mf.XZ r q p t w0 w vd va f n D A c (.slice none 0 0) (.slice none 0 0) (.int .i64 0) (.int .i64 0) :=
 ⟨h.rs, h.below, h.box, h.res, h.dr, h.ad, h.o1, h.o2, h.o3, h.size⟩
theorem Mf.XZ.by {r q p : Nat} {t : ByteArray} {w0 w w' : World} {vd va : Value} {f n : Int} {D : List Int} {A : List Mf.P} {c c' : Mf.Ct} {x0 x1 x2 x3 : Value} (h : Mf.XZ r q p t w0 w vd va f n D A c x0 x1 x2 x3) (h1 : Ty.RS r t w' c'.1 c'.2) (h2 : Mf.By2 r r w w') : Mf.XZ r q p t w0 w' vd va f n D A c' x0 x1 x2 x3 :=
 have o1 := h.o1
 have o2 := h.o2
 have o3 := h.o3
 ⟨h1, h.below.trans (h2.below (by omega) (by omega) h.below.size), (h2.block p (lt_of_block h.box) (by omega) (by omega)).trans h.box, (h2.block q (lt_of_block h.res) (by omega) (by omega)).trans h.res,
  Dk.Own.same h.dr fun j hj => h2.block j (World.ownsRow.lt h.dr j hj).2 (by have := (World.ownsRow.lt h.dr j hj).1; omega) (by have := (World.ownsRow.lt h.dr j hj).1; omega),
  Dk.Own.same h.ad fun j hj => h2.block j (World.ownsRow.lt h.ad j hj).2 (by have := (World.ownsRow.lt h.ad j hj).1; omega) (by have := (World.ownsRow.lt h.ad j hj).1; omega),
  h.o1, h.o2, h.o3, Nat.le_trans h.size h2.size⟩
theorem Mf.XZ.went {r q p : Nat} {t : ByteArray} {w0 w w' : World} {vd va v : Value} {f n : Int} {D : List Int} {A : List Mf.P} {c c' : Mf.Ct} {x0 x1 x2 x3 : Value} {e : Ending} (h : Mf.XZ r q p t w0 w vd va f n D A c x0 x1 x2 x3) (g : Ty.RLeft r t w v c'.1 c'.2 e w') : Mf.XZ r q p t w0 w' vd va f n D A c' x0 x1 x2 x3 := h.by g.2.1 (Mf.By2.ofB g.2.2)
theorem Mf.XZ.kept {r q p : Nat} {t : ByteArray} {w0 w w' : World} {vd va : Value} {f n : Int} {D : List Int} {A : List Mf.P} {c : Mf.Ct} {x0 x1 x2 x3 : Value} (h : Mf.XZ r q p t w0 w vd va f n D A c x0 x1 x2 x3) (g : Below w.heap.size w w') : Mf.XZ r q p t w0 w' vd va f n D A c x0 x1 x2 x3 := h.by (Mf.rs_stay h.rs (g.block r (Mf.rs_lt h.rs))) (Mf.By2.ofBelow g)
theorem Mf.XZ.set {r q p i : Nat} {t : ByteArray} {w0 w : World} {vd va : Value} {f n : Int} {D : List Int} {A : List Mf.P} {c : Mf.Ct} {x0 x1 x2 x3 y0 y1 y2 y3 : Value} (x : Value) (h : Mf.XZ r q p t w0 w vd va f n D A c x0 x1 x2 x3) (hb : (w.setCell ⟨q, i, none⟩ x).heap[q]? = some (.cells #[y0, y1, y2, y3] 37 (0, 0))) :
 Mf.XZ r q p t w0 (w.setCell ⟨q, i, none⟩ x) vd va f n D A c y0 y1 y2 y3 :=
 have o1 := h.o1
 have o2 := h.o2
 have o3 := h.o3
 ⟨Mf.rs_stay h.rs (Below.heap_setCell _ _ _ _ (by show r ≠ q; omega)), Mf.below1 h.below (by omega) _ _, (Below.heap_setCell _ _ _ _ (by show p ≠ q; omega)).trans h.box, hb,
  Dk.Own.same h.dr fun j hj => Below.heap_setCell _ _ _ _ (by show j ≠ q; have := (World.ownsRow.lt h.dr j hj).1; omega), Dk.Own.same h.ad fun j hj => Below.heap_setCell _ _ _ _ (by show j ≠ q; have := (World.ownsRow.lt h.ad j hj).1; omega), h.o1, h.o2, h.o3, by have := h.size; simp only [World.setCell, Array.size_modify]; exact this⟩
theorem Mf.XZ.store {r q p : Nat} {t : ByteArray} {w0 w : World} {vd va : Value} {f n : Int} {D : List Int} {A : List Mf.P} {c : Mf.Ct} {x0 x1 x2 x3 : Value} (h : Mf.XZ r q p t w0 w vd va f n D A c x0 x1 x2 x3) :
 Mf.XZ r q p t w0 ((((w.setCell ⟨q, 0, none⟩ vd).setCell ⟨q, 1, none⟩ va).setCell ⟨q, 2, none⟩ (.int .i64 f)).setCell ⟨q, 3, none⟩ (.int .i64 n)) vd va f n D A c vd va (.int .i64 f) (.int .i64 n) := by
 have h1 := h.set (i := 0) (y0 := vd) (y1 := x1) (y2 := x2) (y3 := x3) vd (heap_setCell_same _ _ 0 _ _ _ h.res)
 have h2 := h1.set (i := 1) (y0 := vd) (y1 := va) (y2 := x2) (y3 := x3) va (heap_setCell_same _ _ 1 _ _ _ h1.res)
 have h3 := h2.set (i := 2) (y0 := vd) (y1 := va) (y2 := .int .i64 f) (y3 := x3) (.int .i64 f) (heap_setCell_same _ _ 2 _ _ _ h2.res)
 exact h3.set (i := 3) (y0 := vd) (y1 := va) (y2 := .int .i64 f) (y3 := .int .i64 n) (.int .i64 n) (heap_setCell_same _ _ 3 _ _ _ h3.res)
end
section
open Go Go.RowKit
theorem Mf.dC_le (c : Mf.Ct) : (Mf.dC c).1 ≤ 999999999 := by
 unfold Mf.dC
 simp only
 split <;> omega
def Mf.GotR (w : World) (X : (Int × Int × Mf.E) × Mf.Ct) (e : Ending) (w' : World) : Prop :=
 ∃ (ok : Bool) (vd va : Value), e = .returned (.tuple #[.agg #[vd, va, .int .i64 X.1.2.2.floor, .int .i64 X.1.2.2.next], .bool ok]) ∧ ok = Mf.dok X ∧ Mf.Oi w.heap.size w' vd X.1.2.2.drop ∧ Mf.Ow w.heap.size w' va X.1.2.2.add ∧ Below w.heap.size w w'
theorem Mf.GotR.mk {w w' : World} {n m fl nx : Int} {D : List Int} {A : List Mf.P} {c : Mf.Ct} {ok : Bool} {vd va : Value} (h : ok = Mf.dok ((n, m, ⟨D, A, fl, nx⟩), c)) (h1 : Mf.Oi w.heap.size w' vd D) (h2 : Mf.Ow w.heap.size w' va A) (h3 : Below w.heap.size w w') :
 Mf.GotR w ((n, m, ⟨D, A, fl, nx⟩), c) (.returned (.tuple #[.agg #[vd, va, .int .i64 fl, .int .i64 nx], .bool ok])) w' := ⟨ok, vd, va, rfl, h, h1, h2, h3⟩
end
end Go.Proofs.YteaglaijkafphaaDoor
