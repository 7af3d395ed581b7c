/-
  The developers' disk: a change of the directory. Written by gen_y11.py.
  The developers' disk: Create.
-/
import Derived.Test.YtfkdkdkdpenblaaVT
import Derived.Deep.AppendLies
import Derived.Carry
import Derived.Shelf.SlMaps.Clone
namespace Go.Proofs.Ytfkdkdkdpenblaa
open Go.RowKit Go.Maps
/-- The disk in memory while the held bytes are H. -/
structure Dk.PX (m : Bool) (S : Nat → Prop) (w : World) (p : Nat) (d : Dk.D) (H : Int) (q : Nat → Nat) (vb : Nat → Value) (vs : List Dk.Cls) (vN vD vP : Value) (ss : Bool) (sa : Int) (rs : Bool) (ra : Int) : Prop where
  blk : w.heap[p]? = some (.cells (Dk.pcells vN vD vP d.room H ss sa rs ra) 62 (0, 0))
  files : Dk.PF m S w q vb d.files
  dirs : Dk.PDirs S w q vN vD d.dir d.sure
  own : Dk.POwn w vP vs
  ownS : ∀ b, vP.ownBlock = some b → S b
  chg : Dk.PCs S w q d.files.length vs d.chg
  stop : Dk.AStop d ss sa
  ref : Dk.ARef d rs ra
  mine : S p
  alive : ∀ b, S b → b < w.heap.size
  made : vN = .map none → vs = []
theorem Dk.infoCl : (Try.prog.info? 95).map (fun i => (i.zero, i.size, i.bytes)) = some (some .nilFunc, 1, 8) := by kernel_rfl
section
variable {m : Bool} {S S' : Nat → Prop} {w w' : World} {p : Nat} {d d' : Dk.D} {H H' : Int} {q : Nat → Nat} {vb : Nat → Value} {vs : List Dk.Cls} {vN vD vP : Value} {ss rs : Bool} {sa ra : Int}
theorem Dk.PA.px (h : Dk.PA m S w p d q vb vs vN vD vP ss sa rs ra) : Dk.PX m S w p d (Dk.held d : Int) q vb vs vN vD vP ss sa rs ra := ⟨h.blk, h.files, h.dirs, h.own, h.ownS, h.chg, h.stop, h.ref, h.mine, h.alive, h.made⟩
theorem Dk.PX.pa (h : Dk.PX m S w p d H q vb vs vN vD vP ss sa rs ra) (e : H = (Dk.held d : Int)) : Dk.PA m S w p d q vb vs vN vD vP ss sa rs ra := ⟨e ▸ h.blk, h.files, h.dirs, h.own, h.ownS, h.chg, h.stop, h.ref, h.mine, h.alive, h.made⟩
theorem Dk.PX.same (h : Dk.PX m S w p d H q vb vs vN vD vP ss sa rs ra) (hs : w.heap.size ≤ w'.heap.size) (g : ∀ b, S b → w'.heap[b]? = w.heap[b]?) : Dk.PX m S w' p d H q vb vs vN vD vP ss sa rs ra :=
  ⟨(g p h.mine).trans h.blk, h.files.same g, h.dirs.other fun b _ _ hb _ => g b hb, h.own.same fun b hb => g b (h.ownS b hb), h.ownS, h.chg.map fun _ _ hc => hc.other fun b _ _ hb _ _ => g b hb, h.stop, h.ref, h.mine, fun b hb => Nat.lt_of_lt_of_le (h.alive b hb) hs, h.made⟩
theorem Dk.PX.mono (h : Dk.PX m S w p d H q vb vs vN vD vP ss sa rs ra) (g : ∀ b, S b → S' b) (ha : ∀ b, S' b → b < w.heap.size) : Dk.PX m S' w p d H q vb vs vN vD vP ss sa rs ra :=
  ⟨h.blk, h.files.mono g, h.dirs.mono g, h.own, fun b hb => g b (h.ownS b hb), h.chg.map fun _ _ hc => hc.mono g, h.stop, h.ref, g p h.mine, ha, h.made⟩
theorem Dk.PX.c (h : Dk.PX m S w p d H q vb vs vN vD vP ss sa rs ra) : w.cell? ⟨p, 0, none⟩ = some vN ∧ w.cell? ⟨p, 1, none⟩ = some vD ∧ w.cell? ⟨p, 2, none⟩ = some vP := by
  have hb := h.blk
  refine ⟨?_, ?_, ?_⟩ <;> (rw [cell_of_row w p _ _ _ _ hb]; rfl)
theorem Dk.PX.fz (h : Dk.PX m S w p d H q vb vs vN vD vP ss sa rs ra) (i : Nat) : w.frozen? ⟨p, i, none⟩ = false := frozen_of_row w p i _ _ h.blk
theorem Dk.PX.ne (h : Dk.PX m S w p d H q vb vs vN vD vP ss sa rs ra) {b : Nat} {cs : Array Value} {fr : Nat × Nat} {T : TypeId} (hT : T ≠ 62) (hb : w.heap[b]? = some (.cells cs T fr)) : b ≠ p := fun e => by
  rw [e, h.blk] at hb
  simp only [Option.some.injEq, Obj.cells.injEq] at hb
  exact hT hb.2.1.symm
theorem Dk.PX.nm (h : Dk.PX m S w p d H q vb vs vN vD vP ss sa rs ra) {b : Nat} {es : Array MapEntry} {ck : Nat} (hb : w.heap[b]? = some (.map es ck)) : b ≠ p := fun e => by
  rw [e, h.blk] at hb
  simp at hb
/-- The disk's own cells turned, and nothing else. -/
theorem Dk.PX.row (h : Dk.PX m S w p d H q vb vs vN vD vP ss sa rs ra) {vN' vD' vP' : Value} {vs' : List Dk.Cls} {ss' rs' : Bool} {sa' ra' : Int}
    (hr : Dk.Row w w' p (Dk.pcells vN' vD' vP' d'.room H' ss' sa' rs' ra') 62) (ef : d'.files = d.files)
    (hd : Dk.PDirs S w q vN' vD' d'.dir d'.sure) (hown : Dk.POwn w vP' vs') (hownS : ∀ b, vP'.ownBlock = some b → S b) (hchg : Dk.PCs S w q d.files.length vs' d'.chg) (hs : Dk.AStop d' ss' sa') (hr2 : Dk.ARef d' rs' ra') (hmade : vN' = .map none → vs' = []) :
    Dk.PX m S w' p d' H' q vb vs' vN' vD' vP' ss' sa' rs' ra' := by
  refine ⟨hr.at_, ?_, hd.other fun b es c _ hb => hr.other b (h.nm hb), hown.other fun b cs _ hb => hr.other b (h.ne (by decide) hb), hownS, ?_, hs, hr2, h.mine, fun b hb => by rw [hr.size]; exact h.alive b hb, hmade⟩
  · rw [ef]
    refine h.files.other fun b cs T fr _ hb hT => hr.other b (h.ne ?_ hb)
    rcases hT with rfl | rfl <;> decide
  · rw [ef]
    refine hchg.map fun _ _ hx => hx.other fun b cs T _ hb hT => hr.other b (h.ne ?_ hb)
    rcases hT with rfl | rfl <;> decide
/-- Two maps were made. -/
theorem Dk.PX.mapped (h : Dk.PX m S w p d H q vb vs (.map none) (.map none) vP ss sa rs ra) {w1 : World} (hw9 : w1 = (((w.setCell ⟨p, 0, none⟩ (.map (some w.heap.size))).setCell ⟨p, 1, none⟩ (.map (some (w.heap.size + 1)))).alloc (.map #[] 0)).alloc (.map #[] 0)) :
    Dk.PX m (Dk.More S w w1) w1 p d H q vb vs (.map (some w.heap.size)) (.map (some (w.heap.size + 1))) vP ss sa rs ra ∧ Dk.Off S w w1 := by
  have hplt := h.alive p h.mine
  have hw : w1 = (((w.alloc (.map #[] 0)).alloc (.map #[] 0)).setCell ⟨p, 0, none⟩ (.map (some w.heap.size))).setCell ⟨p, 1, none⟩ (.map (some (w.heap.size + 1))) := by
    rw [hw9, World.setCell_alloc_past _ _ _ _ (by rw [World.size_alloc]; omega), World.setCell_alloc_past _ _ _ _ hplt, World.setCell_alloc_past _ _ _ _ (by simp; omega), World.setCell_alloc_past _ _ _ _ (by simp; omega)]
  obtain ⟨w0, hw0⟩ : ∃ w0, w0 = (w.alloc (.map #[] 0)).alloc (.map #[] 0) := ⟨_, rfl⟩
  rw [← hw0] at hw
  have hs0 : w0.heap.size = w.heap.size + 2 := by rw [hw0]; simp
  have g0 : Below w.heap.size w w0 := by rw [hw0]; exact ((Below.refl _ w).alloc (Nat.le_refl _) _).alloc (by simp) _
  have h0 := h.same g0.size fun b hb => g0.block b (h.alive b hb)
  have hdd : d.dir = [] ∧ d.sure = [] := by
    rcases h.dirs with ⟨_, _, e1, e2⟩ | ⟨_, _, e, _⟩
    · exact ⟨e1, e2⟩
    · cases e
  have hs1 : w1.heap.size = w0.heap.size := by rw [hw]; simp
  have h1 := h0.mono (S' := Dk.More S w w1) (fun _ hb => .inl hb) (fun b hb => by
    rcases hb with hb | hb
    · exact h0.alive b hb
    · rw [← hs1]; exact hb.2)
  have m1 : Dk.PM w0 q w.heap.size [] := by
    rw [hw0]
    exact (Dk.PM.made w q).same (Below.heap_alloc _ _ _ (by simp))
  have m2 : Dk.PM w0 q (w.heap.size + 1) [] := by
    rw [hw0]
    have := Dk.PM.made (w.alloc (.map #[] 0)) q
    simpa using this
  have hr : Dk.Row w0 w1 p (Dk.pcells (.map (some w.heap.size)) (.map (some (w.heap.size + 1))) vP d.room H ss sa rs ra) 62 := by
    rw [hw]
    exact ((Dk.Row.refl h0.blk).set 0 (.map (some w.heap.size)) rfl).set 1 (.map (some (w.heap.size + 1))) rfl
  refine ⟨h1.row (d' := d) hr rfl (.inr ⟨_, _, rfl, rfl, by omega, .inr ⟨Nat.le_refl _, by omega⟩, .inr ⟨by omega, by omega⟩, ?_, ?_⟩) h1.own h1.ownS h1.chg h1.stop h1.ref (fun e => by cases e), ?_⟩
  · rw [hdd.1]; exact m1
  · rw [hdd.2]; exact m2
  · have o1 : Dk.Off S w w0 := Dk.Off.of_below g0
    have o2 := hr.off (S := S) h.mine
    exact ⟨o2.os.trans o1.os, o2.tape.trans o1.tape, o2.output.trans o1.output, Nat.le_trans o1.size o2.size, fun k hk hn => (o2.block k (Nat.lt_of_lt_of_le hk o1.size) hn).trans (o1.block k hk hn)⟩
/-- The change made of the directory, and kept. -/
theorem Dk.PX.changed (h : Dk.PX m S w p d H q vb vs vN vD vP ss sa rs ra) (hw : Dk.Well d.files.length d.dir) (hl : d.dir.length ≤ 400000) {bN : Nat} (hN : vN = .map (some bN)) (c : Dk.Ch) (cl : Dk.Cls) (hc : Dk.PC S w q d.files.length cl c) (hok : Dk.Ok d.files.length d.dir c) (hs : c.a.length ≤ 1048576) (ht : c.b.length ≤ 1048576) :
    w.cell? ⟨p, 0, none⟩ = some (.map (some bN)) ∧ Calls Try.prog cl.1 (#[.map (some bN)] ++ cl.2) w fun e w2 => e = .returned (.tuple #[]) ∧ w2.cell? ⟨p, 2, none⟩ = some vP ∧ Dk.POwn w2 vP vs ∧
      ∀ w3 v3, Dk.POwn w3 v3 (vs ++ [cl]) → Ty.Grew w2 w3 vP v3 → w3.cell? ⟨p, 2, none⟩ = some vP ∧ w3.frozen? ⟨p, 2, none⟩ = false ∧
        Dk.PX m (Dk.More S w (w3.setCell ⟨p, 2, none⟩ v3)) (w3.setCell ⟨p, 2, none⟩ v3) p (Dk.change d c) H q vb (vs ++ [cl]) vN vD v3 ss sa rs ra ∧ Dk.Off S w (w3.setCell ⟨p, 2, none⟩ v3) := by
  refine ⟨hN ▸ h.c.1, ?_⟩
  obtain ⟨bD, hD, hne, hSN, hSD, mN, mD⟩ : ∃ bD, vD = .map (some bD) ∧ bN ≠ bD ∧ S bN ∧ S bD ∧ Dk.PM w q bN d.dir ∧ Dk.PM w q bD d.sure := by
    rcases h.dirs with ⟨e, _⟩ | ⟨b1, b2, e1, e2, h1, h2, h3, h4, h5⟩
    · rw [hN] at e; cases e
    · rw [hN] at e1
      obtain rfl : bN = b1 := by simpa using e1
      exact ⟨b2, e2, h1, h2, h3, h4, h5⟩
  refine (Dk.cls_c hc mN hw hl hok hs ht).mono ?_
  rintro e w2 ⟨he, hm2, hturn⟩
  obtain ⟨es, ck, hbm⟩ := mN.isMap
  obtain ⟨hsz2, hoth2, hos2, htp2, hou2⟩ := Dk.turned_other hturn
  have hcell : ∀ (b : Nat) (cs : Array Value) (T : TypeId) (fr : Nat × Nat), w.heap[b]? = some (.cells cs T fr) → w2.heap[b]? = w.heap[b]? := fun b cs T fr hb => hoth2 b (fun e => by rw [e, hbm] at hb; simp at hb)
  have hblk2 := (hcell p _ _ _ h.blk).trans h.blk
  have hown2 : Dk.POwn w2 vP vs := h.own.other fun b cs _ hb => hcell b _ _ _ hb
  refine ⟨he, by rw [cell_of_row w2 p _ _ _ _ hblk2]; rfl, hown2, fun w3 v3 ho3 hg => ?_⟩
  have hpo : vP.ownBlock ≠ some p := fun e => by
    obtain ⟨cs, hcs⟩ := hown2.typed p e
    rw [hblk2] at hcs
    simp only [Option.some.injEq, Obj.cells.injEq] at hcs
    exact absurd hcs.2.1 (by decide)
  have hblk3 := (hg.by_.block p (by rw [hsz2]; exact h.alive p h.mine) (fun e => hpo e.symm)).trans hblk2
  have hsz3 : w2.heap.size ≤ w3.heap.size := hg.by_.size
  have hk3 : ∀ b, b < w.heap.size → b ≠ bN → vP.ownBlock ≠ some b → w3.heap[b]? = w.heap[b]? := fun b hb h1 h2 => (hg.by_.block b (by rw [hsz2]; exact hb) (fun e => h2 e.symm)).trans (hoth2 b h1)
  have hnown : ∀ (b : Nat) (cs : Array Value) (T : TypeId) (fr : Nat × Nat), T ≠ 95 → w.heap[b]? = some (.cells cs T fr) → vP.ownBlock ≠ some b := fun b cs T fr hT hb e => by
    obtain ⟨cs', hcs⟩ := h.own.typed b e
    rw [hb] at hcs
    simp only [Option.some.injEq, Obj.cells.injEq] at hcs
    exact hT hcs.2.1
  have hnmap : ∀ (b : Nat) (es : Array MapEntry) (c : Nat), w.heap[b]? = some (.map es c) → vP.ownBlock ≠ some b := fun b es c hb e => by
    obtain ⟨cs', hcs⟩ := h.own.typed b e
    rw [hb] at hcs
    simp at hcs
  have hc3 : ∀ (b : Nat) (cs : Array Value) (T : TypeId) (fr : Nat × Nat), T ≠ 95 → w.heap[b]? = some (.cells cs T fr) → w3.heap[b]? = w.heap[b]? := fun b cs T fr hT hb => hk3 b (lt_of_block hb) (fun e => by rw [e, hbm] at hb; simp at hb) (hnown b cs T fr hT hb)
  obtain ⟨wf, hwf⟩ : ∃ wf, wf = w3.setCell ⟨p, 2, none⟩ v3 := ⟨_, rfl⟩
  have hszf : wf.heap.size = w3.heap.size := by rw [hwf]; simp
  refine ⟨by rw [cell_of_row w3 p _ _ _ _ hblk3]; rfl, frozen_of_row w3 p _ _ _ hblk3, ?_⟩
  have hlive : w.heap.size ≤ wf.heap.size := by omega
  have hof : ∀ b, b ≠ p → wf.heap[b]? = w3.heap[b]? := fun b hb => by rw [hwf]; exact Below.heap_setCell _ _ _ _ hb
  have hcf : ∀ (b : Nat) (cs : Array Value) (T : TypeId) (fr : Nat × Nat), T ≠ 95 → T ≠ 62 → w.heap[b]? = some (.cells cs T fr) → wf.heap[b]? = w.heap[b]? := fun b cs T fr h1 h2 hb => (hof b (h.ne h2 hb)).trans (hc3 b cs T fr h1 hb)
  have hsub : ∀ b, S b → Dk.More S w wf b := fun _ hb => .inl hb
  rw [← hwf]
  refine ⟨⟨?_, ?_, .inr ⟨bN, bD, hN, hD, hne, .inl hSN, .inl hSD, ?_, ?_⟩, ?_, fun b hb => ?_, ?_, h.stop, h.ref, .inl h.mine, Dk.more_alive h.alive hlive, fun e => by rw [hN] at e; cases e⟩, ?_⟩
  · rw [hwf, heap_setCell_same w3 p 2 _ _ _ hblk3]; rfl
  · refine (h.files.mono hsub).other fun b cs T fr _ hb hT => hcf b cs T fr ?_ ?_ hb <;> (rcases hT with rfl | rfl <;> decide)
  · exact hm2.same ((hof bN (h.nm hbm)).trans (hg.by_.block bN (by rw [hsz2]; exact h.alive bN hSN) (fun e => hnmap bN _ _ hbm e.symm)))
  · obtain ⟨es', ck', hbd⟩ := mD.isMap
    exact mD.same ((hof bD (h.nm hbd)).trans (hk3 bD (h.alive bD hSD) (fun e => hne e.symm) (hnmap bD _ _ hbd)))
  · exact ho3.other fun b cs _ hb => hof b (fun e => by
      rw [e, hblk3] at hb
      simp only [Option.some.injEq, Obj.cells.injEq] at hb
      exact absurd hb.2.1 (by decide))
  · rcases hg.own with e | ⟨k, e, hk⟩
    · exact .inl (h.ownS b (e.symm.trans hb))
    · rw [hb] at e
      obtain rfl := Option.some.inj e
      exact .inr ⟨by omega, by rw [hszf]; exact ho3.lt b hb⟩
  · have hmap : ∀ v c', Dk.PC S w q d.files.length v c' → Dk.PC (Dk.More S w wf) wf q d.files.length v c' := fun v c' hx => (hx.mono hsub).other fun b cs T _ hb hT => hcf b cs T (0, 0) (by rcases hT with rfl | rfl <;> decide) (by rcases hT with rfl | rfl <;> decide) hb
    exact (h.chg.map hmap).snoc (hmap _ _ hc)
  · refine ⟨?_, ?_, ?_, hlive, fun k hk hn => ?_⟩
    · rw [hwf]; exact hg.by_.os.trans hos2
    · rw [hwf]; exact hg.by_.tape.trans htp2
    · rw [hwf]; exact hg.by_.output.trans hou2
    · exact (hof k (fun e => hn (by rw [e]; exact h.mine))).trans (hk3 k hk (fun e => hn (by rw [e]; exact hSN)) (fun e => hn (h.ownS k e)))
end
/-- What change leaves. -/
def Dk.Chd (m : Bool) (S : Nat → Prop) (w : World) (p : Nat) (d : Dk.D) (H : Int) (q : Nat → Nat) (vb : Nat → Value) (ss : Bool) (sa : Int) (rs : Bool) (ra : Int) (w' : World) : Prop :=
  (∃ vs vN vD vP, Dk.PX m (Dk.More S w w') w' p d H q vb vs vN vD vP ss sa rs ra) ∧ Dk.Off S w w'
theorem Dk.Chd.behind {m : Bool} {S : Nat → Prop} {w w1 w' : World} {p : Nat} {d : Dk.D} {H : Int} {q : Nat → Nat} {vb : Nat → Value} {ss rs : Bool} {sa ra : Int} (o : Dk.Off S w w1) (ha : ∀ b, S b → b < w.heap.size) (h : Dk.Chd m (Dk.More S w w1) w1 p d H q vb ss sa rs ra w') : Dk.Chd m S w p d H q vb ss sa rs ra w' := by
  obtain ⟨⟨vs, vN, vD, vP, hx⟩, ho⟩ := h
  exact ⟨⟨vs, vN, vD, vP, hx.mono (Dk.more_more o.size ho.size) (Dk.more_alive ha (Nat.le_trans o.size ho.size))⟩, o.trans ho⟩
theorem Dk.run_eql_map (P : Program) (w : World) (t k e : TypeId) (x : Option Nat) (h : P.underlying t = some (.map k e)) : (binOp .eql t (.map x) (.map none)).run P w = .ok (.bool x.isNone) w := run_eql_map_nil_sl w t k e x h
set_option maxHeartbeats 4000000 in
set_option maxRecDepth 100000 in
theorem Dk.pchange1_c {m : Bool} {S : Nat → Prop} {w : World} {p : Nat} {d : Dk.D} {H : Int} {q : Nat → Nat} {vb : Nat → Value} {vs : List Dk.Cls} {vN vD vP : Value} {ss rs : Bool} {sa ra : Int} (h : Dk.PX m S w p d H q vb vs vN vD vP ss sa rs ra) (hw : Dk.Well d.files.length d.dir) (hl : d.dir.length ≤ 400000) (hcl : d.chg.length ≤ 400000) (c : Dk.Ch) (ba bb : Nat)
    (hc : Dk.PC S w q d.files.length (61, #[.pointer (some ⟨ba, 0, none⟩), .pointer (some ⟨bb, 0, none⟩)]) c) (hok : Dk.Ok d.files.length d.dir c) (hs : c.a.length ≤ 1048576) (ht : c.b.length ≤ 1048576) :
    Calls Try.prog 58 #[.pointer (some ⟨p, 0, none⟩), .func (.func 61) #[] #[.pointer (some ⟨ba, 0, none⟩), .pointer (some ⟨bb, 0, none⟩)]] w fun e w' => e = .returned (.tuple #[]) ∧ Dk.Chd m S w p (Dk.change d c) H q vb ss sa rs ra w' := by
  have hvl : vs.length ≤ 400000 := by have := h.chg.1; omega
  have HVL := Lib.hid hvl
  have TAIL : Hid (∀ (S1 : Nat → Prop) (w1 : World) (bN : Nat) (vD1 : Value), Dk.PX m S1 w1 p d H q vb vs (.map (some bN)) vD1 vP ss sa rs ra → Dk.PC S1 w1 q d.files.length (61, #[.pointer (some ⟨ba, 0, none⟩), .pointer (some ⟨bb, 0, none⟩)]) c →
      w1.cell? ⟨p, 0, none⟩ = some (.map (some bN)) ∧ Calls Try.prog 61 #[.map (some bN), .pointer (some ⟨ba, 0, none⟩), .pointer (some ⟨bb, 0, none⟩)] w1 fun e w2 => e = .returned (.tuple #[]) ∧ w2.cell? ⟨p, 2, none⟩ = some vP ∧ Dk.POwn w2 vP vs ∧
      ∀ w3 v3, Dk.POwn w3 v3 (vs ++ [(61, #[.pointer (some ⟨ba, 0, none⟩), .pointer (some ⟨bb, 0, none⟩)])]) → Ty.Grew w2 w3 vP v3 → w3.cell? ⟨p, 2, none⟩ = some vP ∧ w3.frozen? ⟨p, 2, none⟩ = false ∧
        Dk.Chd m S1 w1 p (Dk.change d c) H q vb ss sa rs ra (w3.setCell ⟨p, 2, none⟩ v3)) := Lib.hid fun S1 w1 bN vD1 hp hc1 => by
    obtain ⟨k1, k2⟩ := hp.changed hw hl rfl c _ hc1 hok hs ht
    have k3 : Calls Try.prog 61 #[.map (some bN), .pointer (some ⟨ba, 0, none⟩), .pointer (some ⟨bb, 0, none⟩)] w1 _ := k2
    refine ⟨k1, k3.mono ?_⟩
    rintro e w2 ⟨he, hc2, ho2, hK⟩
    refine ⟨he, hc2, ho2, fun w3 v3 ho3 hg => ?_⟩
    obtain ⟨t1, t2, t3, t4⟩ := hK w3 v3 ho3 hg
    exact ⟨t1, t2, ⟨_, _, _, _, t3⟩, t4⟩
  have hq := fun (w : World) (x : Option Nat) => Dk.run_eql_map Try.prog w 57 _ _ x Try.underlying57
  obtain ⟨c0, c1, c2⟩ := h.c
  have f0 := h.fz 0
  have f1 := h.fz 1
  have HH := Lib.hid h
  have HC := Lib.hid hc
  rcases h.dirs with ⟨rfl, rfl, _, _⟩ | ⟨bN, bD, rfl, rfl, _⟩
  · have HM : Hid (∀ w1, w1 = (((w.setCell ⟨p, 0, none⟩ (.map (some w.heap.size))).setCell ⟨p, 1, none⟩ (.map (some (w.heap.size + 1)))).alloc (.map #[] 0)).alloc (.map #[] 0) →
        Dk.PX m (Dk.More S w w1) w1 p d H q vb vs (.map (some w.heap.size)) (.map (some (w.heap.size + 1))) vP ss sa rs ra ∧ Dk.Off S w w1 ∧ Dk.PC (Dk.More S w w1) w1 q d.files.length (61, #[.pointer (some ⟨ba, 0, none⟩), .pointer (some ⟨bb, 0, none⟩)]) c) := Lib.hid fun w1 hw => by
      obtain ⟨m1, m2⟩ := HH.out.mapped hw
      refine ⟨m1, m2, (HC.out.mono fun _ hb => .inl hb).other fun b cs T _ hb hT => ?_⟩
      have hbp : b ≠ p := HH.out.ne (by rcases hT with rfl | rfl <;> decide) hb
      rw [hw]
      have hlt := lt_of_block hb
      exact (Below.heap_alloc _ _ _ (by simp; omega)).trans ((Below.heap_alloc _ _ _ (by simp; omega)).trans ((Below.heap_setCell _ _ _ _ hbp).trans (Below.heap_setCell _ _ _ _ hbp)))
    have HAL := Lib.hid h.alive
    have hplt : p < w.heap.size := h.alive p h.mine
    have hmm := @run_makeMap Try.prog
    clear h hc hw hl hcl hok hs ht hvl
    go_enter Try.func58, Try.ntmps58
    go_upto_region 2 with (fail)
    generalize hw1 : World.alloc (World.alloc (World.setCell (World.setCell w _ _) _ _) _) _ = w1
    obtain ⟨x1, x2, x3⟩ := HM.out w1 hw1.symm
    obtain ⟨k0, CC⟩ := TAIL.out _ w1 _ _ x1 x3
    have HO1 := Lib.hid x2
    clear x1 x2 x3 hw1 HM TAIL c0 c1 c2 f0 f1 hplt hmm HH HC
    go_wp2_with fail
    with_reducible refine CC.mono ?_
    rintro e w2 ⟨rfl, hc2, ho2, hK⟩
    have HO2 := Lib.hid ho2
    have HK := Lib.hid hK
    clear CC ho2 hK k0 hq
    go_wp2_with (at_builtin; refine Dk.wpList_append1 58 _ 8 Try.underlying58 Dk.infoCl rfl (by decide) Dk.encV_len Dk.encV_one (61, #[.pointer (some ⟨ba, 0, none⟩), .pointer (some ⟨bb, 0, none⟩)]) HO2.out (Nat.zero_le _) (by have := HVL.out; omega) (by have := HVL.out; omega) _ rfl _ rfl (.tmp 27) (.tmp 29) (by rfl) (by rfl) (by rfl) (by rfl) ?_; intro v3 w3 ho3 hg3; obtain ⟨g3, k3, hv3, _⟩ := ho3.form1; subst hv3; obtain ⟨t1, t2, t3⟩ := HK.out w3 _ ho3 hg3; have HD := Lib.hid t3; clear ho3 hg3 t3)
    go_wp2
    go_end0
    exact ⟨rfl, HD.out.behind HO1.out HAL.out⟩
  · obtain ⟨k0, CC⟩ := TAIL.out S w bN _ h hc
    clear h hc hw hl hcl hok hs ht hvl TAIL c1 f0 f1 k0
    go_enter Try.func58, Try.ntmps58
    go_wp2_with fail
    with_reducible refine CC.mono ?_
    rintro e w2 ⟨rfl, hc2, ho2, hK⟩
    have HO2 := Lib.hid ho2
    have HK := Lib.hid hK
    clear CC ho2 hK c0 c2 hq
    go_wp2_with (at_builtin; refine Dk.wpList_append1 58 _ 8 Try.underlying58 Dk.infoCl rfl (by decide) Dk.encV_len Dk.encV_one (61, #[.pointer (some ⟨ba, 0, none⟩), .pointer (some ⟨bb, 0, none⟩)]) HO2.out (Nat.zero_le _) (by have := HVL.out; omega) (by have := HVL.out; omega) _ rfl _ rfl (.tmp 27) (.tmp 29) (by rfl) (by rfl) (by rfl) (by rfl) ?_; intro v3 w3 ho3 hg3; obtain ⟨g3, k3, hv3, _⟩ := ho3.form1; subst hv3; obtain ⟨t1, t2, t3⟩ := HK.out w3 _ ho3 hg3; have HD := Lib.hid t3; clear ho3 hg3 t3)
    go_wp2
    go_end0
    exact ⟨rfl, HD.out⟩
set_option maxHeartbeats 4000000 in
set_option maxRecDepth 100000 in
theorem Dk.pchange2_c {m : Bool} {S : Nat → Prop} {w : World} {p : Nat} {d : Dk.D} {H : Int} {q : Nat → Nat} {vb : Nat → Value} {vs : List Dk.Cls} {vN vD vP : Value} {ss rs : Bool} {sa ra : Int} (h : Dk.PX m S w p d H q vb vs vN vD vP ss sa rs ra) (hw : Dk.Well d.files.length d.dir) (hl : d.dir.length ≤ 400000) (hcl : d.chg.length ≤ 400000) (c : Dk.Ch) (ba : Nat)
    (hc : Dk.PC S w q d.files.length (62, #[.pointer (some ⟨ba, 0, none⟩)]) c) (hok : Dk.Ok d.files.length d.dir c) (hs : c.a.length ≤ 1048576) (ht : c.b.length ≤ 1048576) :
    Calls Try.prog 58 #[.pointer (some ⟨p, 0, none⟩), .func (.func 62) #[] #[.pointer (some ⟨ba, 0, none⟩)]] w fun e w' => e = .returned (.tuple #[]) ∧ Dk.Chd m S w p (Dk.change d c) H q vb ss sa rs ra w' := by
  have hvl : vs.length ≤ 400000 := by have := h.chg.1; omega
  have HVL := Lib.hid hvl
  have TAIL : Hid (∀ (S1 : Nat → Prop) (w1 : World) (bN : Nat) (vD1 : Value), Dk.PX m S1 w1 p d H q vb vs (.map (some bN)) vD1 vP ss sa rs ra → Dk.PC S1 w1 q d.files.length (62, #[.pointer (some ⟨ba, 0, none⟩)]) c →
      w1.cell? ⟨p, 0, none⟩ = some (.map (some bN)) ∧ Calls Try.prog 62 #[.map (some bN), .pointer (some ⟨ba, 0, none⟩)] w1 fun e w2 => e = .returned (.tuple #[]) ∧ w2.cell? ⟨p, 2, none⟩ = some vP ∧ Dk.POwn w2 vP vs ∧
      ∀ w3 v3, Dk.POwn w3 v3 (vs ++ [(62, #[.pointer (some ⟨ba, 0, none⟩)])]) → Ty.Grew w2 w3 vP v3 → w3.cell? ⟨p, 2, none⟩ = some vP ∧ w3.frozen? ⟨p, 2, none⟩ = false ∧
        Dk.Chd m S1 w1 p (Dk.change d c) H q vb ss sa rs ra (w3.setCell ⟨p, 2, none⟩ v3)) := Lib.hid fun S1 w1 bN vD1 hp hc1 => by
    obtain ⟨k1, k2⟩ := hp.changed hw hl rfl c _ hc1 hok hs ht
    have k3 : Calls Try.prog 62 #[.map (some bN), .pointer (some ⟨ba, 0, none⟩)] w1 _ := k2
    refine ⟨k1, k3.mono ?_⟩
    rintro e w2 ⟨he, hc2, ho2, hK⟩
    refine ⟨he, hc2, ho2, fun w3 v3 ho3 hg => ?_⟩
    obtain ⟨t1, t2, t3, t4⟩ := hK w3 v3 ho3 hg
    exact ⟨t1, t2, ⟨_, _, _, _, t3⟩, t4⟩
  have hq := fun (w : World) (x : Option Nat) => Dk.run_eql_map Try.prog w 57 _ _ x Try.underlying57
  obtain ⟨c0, c1, c2⟩ := h.c
  have f0 := h.fz 0
  have f1 := h.fz 1
  have HH := Lib.hid h
  have HC := Lib.hid hc
  rcases h.dirs with ⟨rfl, rfl, _, _⟩ | ⟨bN, bD, rfl, rfl, _⟩
  · have HM : Hid (∀ w1, w1 = (((w.setCell ⟨p, 0, none⟩ (.map (some w.heap.size))).setCell ⟨p, 1, none⟩ (.map (some (w.heap.size + 1)))).alloc (.map #[] 0)).alloc (.map #[] 0) →
        Dk.PX m (Dk.More S w w1) w1 p d H q vb vs (.map (some w.heap.size)) (.map (some (w.heap.size + 1))) vP ss sa rs ra ∧ Dk.Off S w w1 ∧ Dk.PC (Dk.More S w w1) w1 q d.files.length (62, #[.pointer (some ⟨ba, 0, none⟩)]) c) := Lib.hid fun w1 hw => by
      obtain ⟨m1, m2⟩ := HH.out.mapped hw
      refine ⟨m1, m2, (HC.out.mono fun _ hb => .inl hb).other fun b cs T _ hb hT => ?_⟩
      have hbp : b ≠ p := HH.out.ne (by rcases hT with rfl | rfl <;> decide) hb
      rw [hw]
      have hlt := lt_of_block hb
      exact (Below.heap_alloc _ _ _ (by simp; omega)).trans ((Below.heap_alloc _ _ _ (by simp; omega)).trans ((Below.heap_setCell _ _ _ _ hbp).trans (Below.heap_setCell _ _ _ _ hbp)))
    have HAL := Lib.hid h.alive
    have hplt : p < w.heap.size := h.alive p h.mine
    have hmm := @run_makeMap Try.prog
    clear h hc hw hl hcl hok hs ht hvl
    go_enter Try.func58, Try.ntmps58
    go_upto_region 2 with (fail)
    generalize hw1 : World.alloc (World.alloc (World.setCell (World.setCell w _ _) _ _) _) _ = w1
    obtain ⟨x1, x2, x3⟩ := HM.out w1 hw1.symm
    obtain ⟨k0, CC⟩ := TAIL.out _ w1 _ _ x1 x3
    have HO1 := Lib.hid x2
    clear x1 x2 x3 hw1 HM TAIL c0 c1 c2 f0 f1 hplt hmm HH HC
    go_wp2_with fail
    with_reducible refine CC.mono ?_
    rintro e w2 ⟨rfl, hc2, ho2, hK⟩
    have HO2 := Lib.hid ho2
    have HK := Lib.hid hK
    clear CC ho2 hK k0 hq
    go_wp2_with (at_builtin; refine Dk.wpList_append1 58 _ 8 Try.underlying58 Dk.infoCl rfl (by decide) Dk.encV_len Dk.encV_one (62, #[.pointer (some ⟨ba, 0, none⟩)]) HO2.out (Nat.zero_le _) (by have := HVL.out; omega) (by have := HVL.out; omega) _ rfl _ rfl (.tmp 27) (.tmp 29) (by rfl) (by rfl) (by rfl) (by rfl) ?_; intro v3 w3 ho3 hg3; obtain ⟨g3, k3, hv3, _⟩ := ho3.form1; subst hv3; obtain ⟨t1, t2, t3⟩ := HK.out w3 _ ho3 hg3; have HD := Lib.hid t3; clear ho3 hg3 t3)
    go_wp2
    go_end0
    exact ⟨rfl, HD.out.behind HO1.out HAL.out⟩
  · obtain ⟨k0, CC⟩ := TAIL.out S w bN _ h hc
    clear h hc hw hl hcl hok hs ht hvl TAIL c1 f0 f1 k0
    go_enter Try.func58, Try.ntmps58
    go_wp2_with fail
    with_reducible refine CC.mono ?_
    rintro e w2 ⟨rfl, hc2, ho2, hK⟩
    have HO2 := Lib.hid ho2
    have HK := Lib.hid hK
    clear CC ho2 hK c0 c2 hq
    go_wp2_with (at_builtin; refine Dk.wpList_append1 58 _ 8 Try.underlying58 Dk.infoCl rfl (by decide) Dk.encV_len Dk.encV_one (62, #[.pointer (some ⟨ba, 0, none⟩)]) HO2.out (Nat.zero_le _) (by have := HVL.out; omega) (by have := HVL.out; omega) _ rfl _ rfl (.tmp 27) (.tmp 29) (by rfl) (by rfl) (by rfl) (by rfl) ?_; intro v3 w3 ho3 hg3; obtain ⟨g3, k3, hv3, _⟩ := ho3.form1; subst hv3; obtain ⟨t1, t2, t3⟩ := HK.out w3 _ ho3 hg3; have HD := Lib.hid t3; clear ho3 hg3 t3)
    go_wp2
    go_end0
    exact ⟨rfl, HD.out⟩
set_option maxHeartbeats 4000000 in
set_option maxRecDepth 100000 in
theorem Dk.pchange3_c {m : Bool} {S : Nat → Prop} {w : World} {p : Nat} {d : Dk.D} {H : Int} {q : Nat → Nat} {vb : Nat → Value} {vs : List Dk.Cls} {vN vD vP : Value} {ss rs : Bool} {sa ra : Int} (h : Dk.PX m S w p d H q vb vs vN vD vP ss sa rs ra) (hw : Dk.Well d.files.length d.dir) (hl : d.dir.length ≤ 400000) (hcl : d.chg.length ≤ 400000) (c : Dk.Ch) (bf ba : Nat)
    (hc : Dk.PC S w q d.files.length (59, #[.pointer (some ⟨bf, 0, none⟩), .pointer (some ⟨ba, 0, none⟩)]) c) (hok : Dk.Ok d.files.length d.dir c) (hs : c.a.length ≤ 1048576) (ht : c.b.length ≤ 1048576) :
    Calls Try.prog 58 #[.pointer (some ⟨p, 0, none⟩), .func (.func 59) #[] #[.pointer (some ⟨bf, 0, none⟩), .pointer (some ⟨ba, 0, none⟩)]] w fun e w' => e = .returned (.tuple #[]) ∧ Dk.Chd m S w p (Dk.change d c) H q vb ss sa rs ra w' := by
  have hvl : vs.length ≤ 400000 := by have := h.chg.1; omega
  have HVL := Lib.hid hvl
  have TAIL : Hid (∀ (S1 : Nat → Prop) (w1 : World) (bN : Nat) (vD1 : Value), Dk.PX m S1 w1 p d H q vb vs (.map (some bN)) vD1 vP ss sa rs ra → Dk.PC S1 w1 q d.files.length (59, #[.pointer (some ⟨bf, 0, none⟩), .pointer (some ⟨ba, 0, none⟩)]) c →
      w1.cell? ⟨p, 0, none⟩ = some (.map (some bN)) ∧ Calls Try.prog 59 #[.map (some bN), .pointer (some ⟨bf, 0, none⟩), .pointer (some ⟨ba, 0, none⟩)] w1 fun e w2 => e = .returned (.tuple #[]) ∧ w2.cell? ⟨p, 2, none⟩ = some vP ∧ Dk.POwn w2 vP vs ∧
      ∀ w3 v3, Dk.POwn w3 v3 (vs ++ [(59, #[.pointer (some ⟨bf, 0, none⟩), .pointer (some ⟨ba, 0, none⟩)])]) → Ty.Grew w2 w3 vP v3 → w3.cell? ⟨p, 2, none⟩ = some vP ∧ w3.frozen? ⟨p, 2, none⟩ = false ∧
        Dk.Chd m S1 w1 p (Dk.change d c) H q vb ss sa rs ra (w3.setCell ⟨p, 2, none⟩ v3)) := Lib.hid fun S1 w1 bN vD1 hp hc1 => by
    obtain ⟨k1, k2⟩ := hp.changed hw hl rfl c _ hc1 hok hs ht
    have k3 : Calls Try.prog 59 #[.map (some bN), .pointer (some ⟨bf, 0, none⟩), .pointer (some ⟨ba, 0, none⟩)] w1 _ := k2
    refine ⟨k1, k3.mono ?_⟩
    rintro e w2 ⟨he, hc2, ho2, hK⟩
    refine ⟨he, hc2, ho2, fun w3 v3 ho3 hg => ?_⟩
    obtain ⟨t1, t2, t3, t4⟩ := hK w3 v3 ho3 hg
    exact ⟨t1, t2, ⟨_, _, _, _, t3⟩, t4⟩
  have hq := fun (w : World) (x : Option Nat) => Dk.run_eql_map Try.prog w 57 _ _ x Try.underlying57
  obtain ⟨c0, c1, c2⟩ := h.c
  have f0 := h.fz 0
  have f1 := h.fz 1
  have HH := Lib.hid h
  have HC := Lib.hid hc
  rcases h.dirs with ⟨rfl, rfl, _, _⟩ | ⟨bN, bD, rfl, rfl, _⟩
  · have HM : Hid (∀ w1, w1 = (((w.setCell ⟨p, 0, none⟩ (.map (some w.heap.size))).setCell ⟨p, 1, none⟩ (.map (some (w.heap.size + 1)))).alloc (.map #[] 0)).alloc (.map #[] 0) →
        Dk.PX m (Dk.More S w w1) w1 p d H q vb vs (.map (some w.heap.size)) (.map (some (w.heap.size + 1))) vP ss sa rs ra ∧ Dk.Off S w w1 ∧ Dk.PC (Dk.More S w w1) w1 q d.files.length (59, #[.pointer (some ⟨bf, 0, none⟩), .pointer (some ⟨ba, 0, none⟩)]) c) := Lib.hid fun w1 hw => by
      obtain ⟨m1, m2⟩ := HH.out.mapped hw
      refine ⟨m1, m2, (HC.out.mono fun _ hb => .inl hb).other fun b cs T _ hb hT => ?_⟩
      have hbp : b ≠ p := HH.out.ne (by rcases hT with rfl | rfl <;> decide) hb
      rw [hw]
      have hlt := lt_of_block hb
      exact (Below.heap_alloc _ _ _ (by simp; omega)).trans ((Below.heap_alloc _ _ _ (by simp; omega)).trans ((Below.heap_setCell _ _ _ _ hbp).trans (Below.heap_setCell _ _ _ _ hbp)))
    have HAL := Lib.hid h.alive
    have hplt : p < w.heap.size := h.alive p h.mine
    have hmm := @run_makeMap Try.prog
    clear h hc hw hl hcl hok hs ht hvl
    go_enter Try.func58, Try.ntmps58
    go_upto_region 2 with (fail)
    generalize hw1 : World.alloc (World.alloc (World.setCell (World.setCell w _ _) _ _) _) _ = w1
    obtain ⟨x1, x2, x3⟩ := HM.out w1 hw1.symm
    obtain ⟨k0, CC⟩ := TAIL.out _ w1 _ _ x1 x3
    have HO1 := Lib.hid x2
    clear x1 x2 x3 hw1 HM TAIL c0 c1 c2 f0 f1 hplt hmm HH HC
    go_wp2_with fail
    with_reducible refine CC.mono ?_
    rintro e w2 ⟨rfl, hc2, ho2, hK⟩
    have HO2 := Lib.hid ho2
    have HK := Lib.hid hK
    clear CC ho2 hK k0 hq
    go_wp2_with (at_builtin; refine Dk.wpList_append1 58 _ 8 Try.underlying58 Dk.infoCl rfl (by decide) Dk.encV_len Dk.encV_one (59, #[.pointer (some ⟨bf, 0, none⟩), .pointer (some ⟨ba, 0, none⟩)]) HO2.out (Nat.zero_le _) (by have := HVL.out; omega) (by have := HVL.out; omega) _ rfl _ rfl (.tmp 27) (.tmp 29) (by rfl) (by rfl) (by rfl) (by rfl) ?_; intro v3 w3 ho3 hg3; obtain ⟨g3, k3, hv3, _⟩ := ho3.form1; subst hv3; obtain ⟨t1, t2, t3⟩ := HK.out w3 _ ho3 hg3; have HD := Lib.hid t3; clear ho3 hg3 t3)
    go_wp2
    go_end0
    exact ⟨rfl, HD.out.behind HO1.out HAL.out⟩
  · obtain ⟨k0, CC⟩ := TAIL.out S w bN _ h hc
    clear h hc hw hl hcl hok hs ht hvl TAIL c1 f0 f1 k0
    go_enter Try.func58, Try.ntmps58
    go_wp2_with fail
    with_reducible refine CC.mono ?_
    rintro e w2 ⟨rfl, hc2, ho2, hK⟩
    have HO2 := Lib.hid ho2
    have HK := Lib.hid hK
    clear CC ho2 hK c0 c2 hq
    go_wp2_with (at_builtin; refine Dk.wpList_append1 58 _ 8 Try.underlying58 Dk.infoCl rfl (by decide) Dk.encV_len Dk.encV_one (59, #[.pointer (some ⟨bf, 0, none⟩), .pointer (some ⟨ba, 0, none⟩)]) HO2.out (Nat.zero_le _) (by have := HVL.out; omega) (by have := HVL.out; omega) _ rfl _ rfl (.tmp 27) (.tmp 29) (by rfl) (by rfl) (by rfl) (by rfl) ?_; intro v3 w3 ho3 hg3; obtain ⟨g3, k3, hv3, _⟩ := ho3.form1; subst hv3; obtain ⟨t1, t2, t3⟩ := HK.out w3 _ ho3 hg3; have HD := Lib.hid t3; clear ho3 hg3 t3)
    go_wp2
    go_end0
    exact ⟨rfl, HD.out⟩
end Go.Proofs.Ytfkdkdkdpenblaa

namespace Go.Proofs.Ytfkdkdkdpenblaa
open Go.RowKit Go.Maps
theorem Dk.wo_none {l : Dk.Dir} {s : Dk.Str} (h : Dk.look l s = none) : Dk.wo l s = l := by
  unfold Dk.wo
  rw [List.filter_eq_self]
  intro y hy
  have := Dk.look_none.1 h y hy
  simpa using this
theorem Dk.heldL_drop {fs : List (Dk.Str × Nat)} {s : Dk.Str} {f : Nat} : ∀ {l : Dk.Dir}, Dk.Asc l → (s, f) ∈ l → Dk.heldL fs (Dk.wo l s) + (Dk.file fs f).1.length = Dk.heldL fs l
  | [], _, h => by cases h
  | a :: l, ha, h => by
    rw [Dk.Asc, List.pairwise_cons] at ha
    rw [Dk.heldL_cons]
    rcases List.mem_cons.1 h with e | h
    · subst e
      have e1 : Dk.wo ((s, f) :: l) s = l := by
        unfold Dk.wo
        rw [List.filter_cons_of_neg (by simp), List.filter_eq_self]
        intro y hy
        have := Dk.lt_ne (ha.1 y hy)
        simpa using fun e => this e.symm
      rw [e1]
      simp only
      omega
    · have hne : a.1 ≠ s := Dk.lt_ne (ha.1 (s, f) h)
      have e1 : Dk.wo (a :: l) s = a :: Dk.wo l s := by
        unfold Dk.wo
        rw [List.filter_cons_of_pos (by simpa using hne)]
      have := Dk.heldL_drop (fs := fs) ha.2 h
      rw [e1, Dk.heldL_cons]
      omega
theorem Dk.file_grow {fs : List (Dk.Str × Nat)} {g : Nat} (hg : g < fs.length) : Dk.file (fs ++ [([], 0)]) g = Dk.file fs g := by
  unfold Dk.file
  rw [List.getD, List.getElem?_append_left hg]
  rfl
theorem Dk.held_create {d : Dk.D} (hi : Dk.Inv d) {s : Dk.Str} (hl : Dk.look d.dir s = none) : Dk.held (Dk.change (Dk.grow (Dk.tick d)) ⟨s, [], (d.files.length : Int)⟩) = Dk.held d := by
  have e1 : Dk.held (Dk.change (Dk.grow (Dk.tick d)) ⟨s, [], (d.files.length : Int)⟩) = Dk.heldL (d.files ++ [([], 0)]) (Dk.wi d.dir (s, d.files.length)) := by
    unfold Dk.held
    show Dk.heldL (d.files ++ [([], 0)]) (Dk.apply d.dir ⟨s, [], (d.files.length : Int)⟩) = _
    unfold Dk.apply
    rw [if_neg (fun h => h rfl), if_neg (by show ¬ (d.files.length : Int) < 0; omega)]
    simp
  rw [e1, Dk.heldL_wi, Dk.wo_none hl]
  have e2 : Dk.file (d.files ++ [([], 0)]) d.files.length = ([], 0) := by
    unfold Dk.file
    rw [List.getD, List.getElem?_append_right (Nat.le_refl _), Nat.sub_self]
    rfl
  simp only [e2, List.length_nil, Nat.zero_add]
  exact Dk.heldL_congr d.dir fun y hy => by rw [Dk.file_grow (hi.dir.lim y hy)]
theorem Dk.held_remove {d : Dk.D} (hi : Dk.Inv d) {s : Dk.Str} {f : Nat} (hl : Dk.look d.dir s = some f) : Dk.held (Dk.change (Dk.tick d) ⟨s, [], -1⟩) + (Dk.file d.files f).1.length = Dk.held d := by
  have e1 : Dk.held (Dk.change (Dk.tick d) ⟨s, [], -1⟩) = Dk.heldL d.files (Dk.wo d.dir s) := by
    unfold Dk.held
    show Dk.heldL d.files (Dk.apply d.dir ⟨s, [], -1⟩) = _
    unfold Dk.apply
    simp
  rw [e1]
  exact Dk.heldL_drop hi.dir.asc ((Dk.look_some hi.dir.asc).1 hl)
theorem Dk.held_rename {d : Dk.D} (hi : Dk.Inv d) {s t : Dk.Str} {f : Nat} (hl : Dk.look d.dir s = some f) (ht : t ≠ []) (hne : s ≠ t) :
    (Dk.held (Dk.change (Dk.tick d) ⟨s, t, 0⟩) : Int) = (Dk.held d : Int) - (match Dk.look d.dir t with | none => 0 | some g => ((Dk.file d.files g).1.length : Int)) := by
  have e1 : Dk.held (Dk.change (Dk.tick d) ⟨s, t, 0⟩) = Dk.heldL d.files (Dk.wi (Dk.wo d.dir s) (t, f)) := by
    unfold Dk.held
    show Dk.heldL d.files (Dk.apply d.dir ⟨s, t, 0⟩) = _
    unfold Dk.apply
    rw [if_pos ht]
    simp only [hl]
  have h1 := Dk.heldL_drop (fs := d.files) hi.dir.asc ((Dk.look_some hi.dir.asc).1 hl)
  have e2 : Dk.held d = Dk.heldL d.files d.dir := rfl
  rw [e1, Dk.heldL_wi, e2]
  simp only
  have hlk : Dk.look (Dk.wo d.dir s) t = Dk.look d.dir t := by rw [Dk.look_wo, if_neg fun e => hne e.symm]
  cases hg : Dk.look d.dir t with
  | none =>
    rw [Dk.wo_none (l := Dk.wo d.dir s) (by rw [hlk, hg])]
    simp only
    omega
  | some g =>
    have hm : (t, g) ∈ Dk.wo d.dir s := (Dk.look_some (Dk.asc_wo hi.dir.asc s)).1 (by rw [hlk, hg])
    have h2 := Dk.heldL_drop (fs := d.files) (Dk.asc_wo hi.dir.asc s) hm
    simp only
    omega
section
variable {m : Bool} {S S' : Nat → Prop} {w w' : World} {p : Nat} {d d' : Dk.D} {H H' : Int} {q : Nat → Nat} {vb : Nat → Value} {vs : List Dk.Cls} {vN vD vP : Value} {ss rs : Bool} {sa ra : Int}
/-- A new file, and a variable that points to it. -/
theorem Dk.PX.grown (h : Dk.PX m S w p d H q vb vs vN vD vP ss sa rs ra) (hd : Dk.Well d.files.length d.dir) (hk : Dk.Well d.files.length d.sure) {w1 : World} (hw : w1 = (w.alloc (.cells #[.slice none 0 0, .int .i64 0] 75)).alloc (.cells #[.pointer (some ⟨w.heap.size, 0, none⟩)] 72)) :
    Dk.PX m (Dk.More S w w1) w1 p (Dk.grow d) H (fun f => if f = d.files.length then w.heap.size else q f) (fun f => if f = d.files.length then .slice none 0 0 else vb f) vs vN vD vP ss sa rs ra ∧ Dk.Off S w w1 ∧
      w1.heap[w.heap.size + 1]? = some (.cells #[.pointer (some ⟨w.heap.size, 0, none⟩)] 72 (0, 0)) ∧ w1.heap.size = w.heap.size + 2 := by
  obtain ⟨w0, hw0⟩ : ∃ w0, w0 = w.alloc (.cells #[.slice none 0 0, .int .i64 0] 75) := ⟨_, rfl⟩
  rw [← hw0] at hw
  have hs0 : w0.heap.size = w.heap.size + 1 := by rw [hw0]; simp
  have hs1 : w1.heap.size = w.heap.size + 2 := by rw [hw, World.size_alloc, hs0]
  have g0 : Below w.heap.size w w1 := by rw [hw, hw0]; exact ((Below.refl _ w).alloc (Nat.le_refl _) _).alloc (by simp) _
  have hq : ∀ f, f < d.files.length → (fun f => if f = d.files.length then w.heap.size else q f) f = q f := fun f hf => by simp only; rw [if_neg (by omega)]
  have hsub : ∀ b, S b → Dk.More S w w1 b := fun _ hb => .inl hb
  have hb1 : ∀ b, S b → w1.heap[b]? = w.heap[b]? := fun b hb => g0.block b (h.alive b hb)
  have h1 := h.same g0.size hb1
  have hfl : (Dk.grow d).files = d.files ++ [([], 0)] := rfl
  have hF := (h.files.grow (S' := Dk.More S w w1) hsub (.inr ⟨Nat.le_refl _, by omega⟩) w0 hw0).other (w' := w1) fun b cs T fr _ hb _ => by
    rw [hw]
    exact Below.heap_alloc _ _ _ (lt_of_block hb)
  refine ⟨⟨h1.blk, hF, ?_, h1.own, fun b hb => hsub b (h1.ownS b hb), ?_, h1.stop, h1.ref, hsub p h1.mine, fun b hb => ?_, h1.made⟩, Dk.Off.of_below g0, ?_, hs1⟩
  · exact (h1.dirs.mono hsub).turn hd hk hq
  · rw [hfl, List.length_append]
    exact h1.chg.map fun v c hx => (hx.mono hsub).turn (Nat.le_add_right _ _) hq
  · rcases hb with hb | hb
    · exact h1.alive b hb
    · exact hb.2
  · rw [hw]
    have := heap_alloc_new w0 (.cells #[.pointer (some ⟨w.heap.size, 0, none⟩)] 72)
    rwa [hs0] at this
theorem Dk.PDidM.behind {w0 w1 : World} (o : Dk.Off S w w0) (ha : ∀ b, S b → b < w.heap.size) (h : Dk.PDidM m (Dk.More S w w0) w0 p d' w1) : Dk.PDidM m S w p d' w1 :=
  ⟨h.1.mono (Dk.more_more o.size h.2.size) (Dk.more_alive ha (Nat.le_trans o.size h.2.size)), o.trans h.2⟩
/-- .. where nothing was added. -/
theorem Dk.Off.same {w0 w1 : World} (o : Dk.Off S w w0) (h : Dk.Off S w0 w1) : Dk.Off S w w1 :=
  ⟨h.os.trans o.os, h.tape.trans o.tape, h.output.trans o.output, Nat.le_trans o.size h.size, fun k hk hn => (h.block k (Nat.lt_of_lt_of_le hk o.size) hn).trans (o.block k hk hn)⟩
theorem Dk.PDidM.after {w0 w1 : World} (o : Dk.Off S w w0) (h : Dk.PDidM m S w0 p d' w1) : Dk.PDidM m S w p d' w1 :=
  ⟨h.1.mono (fun b hb => by
    rcases hb with hb | hb
    · exact .inl hb
    · exact .inr ⟨Nat.le_trans o.size hb.1, hb.2⟩) (fun b hb => by
    rcases hb with hb | hb
    · exact h.1.alive b (.inl hb)
    · exact hb.2), o.same h.2⟩
theorem Dk.PDidM.below {w1 w2 : World} (h : Dk.PDidM m S w p d' w1) (g : Below w1.heap.size w1 w2) : Dk.PDidM m S w p d' w2 :=
  ⟨(h.1.kept g).mono (fun b hb => by
    rcases hb with hb | hb
    · exact .inl hb
    · exact .inr ⟨hb.1, Nat.lt_of_lt_of_le hb.2 g.size⟩) (fun b hb => by
    rcases hb with hb | hb
    · exact Nat.lt_of_lt_of_le (h.1.alive b (.inl hb)) g.size
    · exact hb.2), ⟨g.os.trans h.2.os, g.tape.trans h.2.tape, g.output.trans h.2.output, Nat.le_trans h.2.size g.size, fun k hk hn => (g.block k (Nat.lt_of_lt_of_le hk h.2.size)).trans (h.2.block k hk hn)⟩⟩
theorem Dk.Chd.did {w' : World} (h : Dk.Chd m S w p d' H q vb ss sa rs ra w') (e : H = (Dk.held d' : Int)) : Dk.PDidM m S w p d' w' := by
  obtain ⟨⟨vs, vN, vD, vP, hx⟩, ho⟩ := h
  exact ⟨(hx.pa e).at_, ho⟩
end
end Go.Proofs.Ytfkdkdkdpenblaa
