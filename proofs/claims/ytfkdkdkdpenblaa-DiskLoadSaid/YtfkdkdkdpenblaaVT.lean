/-
  The developers' disk: a file turned: Sync, Append.
  The developers' disk: Append.
  The developers' closures: what each makes of a directory.
-/
import Derived.Test.YtfkdkdkdpenblaaVS
import Derived.Test.YtfkdkdkdpenblaaZK
import Derived.Deep.Cut
import Derived.BigQuiet
namespace Go.Proofs.Ytfkdkdkdpenblaa
open Go.RowKit Go.Maps
section
variable {m : Bool} {S S' : Nat → Prop} {w w' : World} {p : Nat} {d d' : Dk.D} {q : Nat → Nat} {vb : Nat → Value} {vs : List Dk.Cls} {vN vD vP : Value} {ss rs : Bool} {sa ra : Int}
/-- One file turned, the disk's own cells with it. -/
theorem Dk.PA.file (h : Dk.PA m S w p d q vb vs vN vD vP ss sa rs ra) {f : Nat} (hf : f < d.files.length) (v' : Value) (x : Dk.Str × Nat) (hS : ∀ b, S b → S' b) (hal : ∀ b, S' b → b < w'.heap.size)
    (hp : w'.heap[p]? = some (.cells (Dk.pcells vN vD vP d.room (Dk.held (Dk.put d f x) : Int) ss sa rs ra) 62 (0, 0)))
    (hc : w'.heap[q f]? = some (.cells #[v', .int .i64 (x.2 : Int)] 75 (0, 0))) (hb : Dk.PB m w' v' x.1)
    (hv : v'.ownBlock = none ∨ v'.ownBlock = (vb f).ownBlock ∨ ∃ k, v'.ownBlock = some k ∧ S' k ∧ w.heap.size ≤ k)
    (ho : ∀ k, k < w.heap.size → k ≠ p → k ≠ q f → (vb f).ownBlock ≠ some k → w'.heap[k]? = w.heap[k]?) :
    Dk.PA m S' w' p (Dk.put d f x) q (fun g => if g = f then v' else vb g) vs vN vD vP ss sa rs ra := by
  have hfl : (Dk.put d f x).files = d.files.set f x := rfl
  have hne : ∀ (b : Nat) (cs : Array Value) (fr : Nat × Nat) (T : TypeId), T ≠ 62 → w.heap[b]? = some (.cells cs T fr) → b ≠ p := fun b cs fr T hT hb e => by
    rw [e, h.blk] at hb
    simp only [Option.some.injEq, Obj.cells.injEq] at hb
    exact hT hb.2.1.symm
  have hnf : ∀ (b : Nat) (cs : Array Value) (fr : Nat × Nat) (T : TypeId), T ≠ 75 → w.heap[b]? = some (.cells cs T fr) → b ≠ q f := fun b cs fr T hT hb e => by
    rw [e, h.files.cell f hf] at hb
    simp only [Option.some.injEq, Obj.cells.injEq] at hb
    exact hT hb.2.1.symm
  have hnb : ∀ (b : Nat) (cs : Array Value) (fr : Nat × Nat) (T : TypeId), T ≠ 5 → w.heap[b]? = some (.cells cs T fr) → (vb f).ownBlock ≠ some b := fun b cs fr T hT hb e => by
    obtain ⟨cs', fr', hcs⟩ := (h.files.bytes f hf).typed b e
    rw [hcs] at hb
    simp only [Option.some.injEq, Obj.cells.injEq] at hb
    exact hT hb.2.1.symm
  have hcell : ∀ (b : Nat) (cs : Array Value) (fr : Nat × Nat) (T : TypeId), T ≠ 62 → T ≠ 75 → T ≠ 5 → w.heap[b]? = some (.cells cs T fr) → w'.heap[b]? = w.heap[b]? := fun b cs fr T h1 h2 h3 hb =>
    ho b (lt_of_block hb) (hne b cs fr T h1 hb) (hnf b cs fr T h2 hb) (hnb b cs fr T h3 hb)
  refine ⟨hp, ?_, ?_, ?_, fun b hb => hS b (h.ownS b hb), ?_, h.stop, h.ref, hS p h.mine, hal, h.made⟩
  · rw [hfl]
    exact h.files.set hS hf v' x hc hb hv fun k cs T fr hk hT h1 h2 => ho k (lt_of_block hk) (hne k cs fr T (by rcases hT with rfl | rfl <;> decide) hk) h1 h2
  · refine (h.dirs.mono hS).other fun b es c _ hb => ho b (Array.getElem?_eq_some_iff.1 hb).1 (fun e => ?_) (fun e => ?_) (fun e => ?_)
    · rw [e, h.blk] at hb; simp at hb
    · rw [e, h.files.cell f hf] at hb; simp at hb
    · obtain ⟨cs', fr', hcs⟩ := (h.files.bytes f hf).typed b e
      rw [hcs] at hb; simp at hb
  · exact h.own.other fun b cs _ hb => hcell b cs _ _ (by decide) (by decide) (by decide) hb
  · rw [hfl, List.length_set]
    refine h.chg.map fun _ _ hx => (hx.mono hS).other fun b cs T _ hb hT => hcell b cs (0, 0) T ?_ ?_ ?_ hb <;> (rcases hT with rfl | rfl <;> decide)
end
set_option maxHeartbeats 2000000 in
set_option maxRecDepth 100000 in
theorem Dk.psyncM_c {m : Bool} {S : Nat → Prop} {p : Nat} {d : Dk.D} {w : World} (h : Dk.PAtM m S w p d) (hf : Dk.Fit d) (s : Dk.Str) (hs : s.length ≤ 1048576) :
    Calls Try.prog 29 #[.pointer (some ⟨p, 0, none⟩), .string (Ty.S s)] w fun e w' => e = .returned (.int .i64 (((Dk.sync d s).2 : Nat) : Int)) ∧ Dk.PDidM m S w p (Dk.sync d s).1 w' := by
  obtain ⟨q, vb, vs, vN, vD, vP, ss, sa, rs, ra, h⟩ := h
  have cl := Dk.pcallOn_c h (by have := hf.sz.calls; omega) s (by omega)
  have HT : Hid (∀ w1, Dk.Ticked m S w p d q vb vs vN vD vP w1 → Dk.PDidM m S w p (Dk.tick d) w1) := Lib.hid fun w1 ht => by
    obtain ⟨_, _, _, _, h1, hr⟩ := ht
    exact h1.didRow hr
  have hfit := Lib.hid hf
  clear h hf hs
  by_cases he : Dk.callE d = 0
  · cases hlk : Dk.look d.dir s with
    | none =>
      have HE : Hid (Dk.sync d s = (Dk.tick d, 12)) := Lib.hid (by unfold Dk.sync; rw [if_neg (by simpa using he), hlk])
      have hv : Dk.onV q d s = .tuple #[.pointer none, .int .i64 12] := by unfold Dk.onV; rw [if_neg (by simpa using he), hlk]
      rw [hv] at cl
      generalize Ty.S s = sx at cl ⊢
      clear hv hlk he
      go_enter Try.func29, Try.ntmps29
      go_wp2_with fail
      with_reducible refine cl.mono ?_
      rintro e w1 ⟨rfl, ht⟩
      have HD := Lib.hid (HT.out w1 ht)
      clear cl ht
      go_wp2
      go_ret
      exact ⟨by rw [HE.out]; rfl, by rw [HE.out]; exact HD.out⟩
    | some f =>
      have HE : Hid (Dk.sync d s = (Dk.put (Dk.tick d) f ((Dk.file d.files f).1, (Dk.file d.files f).1.length), 0)) := Lib.hid (by unfold Dk.sync; rw [if_neg (by simpa using he), hlk])
      have hv : Dk.onV q d s = .tuple #[.pointer (some ⟨q f, 0, none⟩), .int .i64 0] := by unfold Dk.onV; rw [if_neg (by simpa using he), hlk]
      rw [hv] at cl
      have hlt := hfit.out.inv.dirlt hlk
      have HX : Hid (∀ w1, Dk.Ticked m S w p d q vb vs vN vD vP w1 → ∃ a c, vb f = .slice a (Dk.file d.files f).1.length c ∧ w1.cell? ⟨q f, 0, none⟩ = some (.slice a (Dk.file d.files f).1.length c) ∧ w1.cell? ⟨q f, 1, none⟩ = some (.int .i64 ((Dk.file d.files f).2 : Int)) ∧ w1.frozen? ⟨q f, 1, none⟩ = false ∧
          Dk.PDidM m S w p (Dk.put (Dk.tick d) f ((Dk.file d.files f).1, (Dk.file d.files f).1.length)) (w1.setCell ⟨q f, 1, none⟩ (.int .i64 ((Dk.file d.files f).1.length : Int)))) := Lib.hid fun w1 ht => by
        obtain ⟨ss', sa', rs', ra', h1, hr⟩ := ht
        have hlt' : f < (Dk.tick d).files.length := hlt
        obtain ⟨g0, g1, g2, g3⟩ := h1.files.cells hlt'
        obtain ⟨a, c, hv, hc⟩ := (h1.files.bytes f hlt').is
        refine ⟨a, c, hv, by rw [g0, hv]; rfl, g1, g3, ?_⟩
        have hpq : p ≠ q f := fun e => by
          have h2 := h1.blk
          rw [e, h1.files.cell f hlt'] at h2
          simp only [Option.some.injEq, Obj.cells.injEq] at h2
          exact absurd h2.2.1 (by decide)
        have hh : Dk.held (Dk.put (Dk.tick d) f ((Dk.file d.files f).1, (Dk.file d.files f).1.length)) = Dk.held d := by
          have := Dk.heldL_set d.files f ((Dk.file d.files f).1, (Dk.file d.files f).1.length) hlt d.dir hfit.out.inv.dir.one ⟨s, (Dk.look_some hfit.out.inv.dir.asc).1 hlk⟩
          show Dk.heldL (d.files.set f ((Dk.file d.files f).1, (Dk.file d.files f).1.length)) d.dir = Dk.heldL d.files d.dir
          simp only at this
          omega
        have hpa := h1.file (S' := S) (w' := w1.setCell ⟨q f, 1, none⟩ (.int .i64 ((Dk.file d.files f).1.length : Int))) hlt' (vb f) ((Dk.file d.files f).1, (Dk.file d.files f).1.length) (fun _ hb => hb) (fun b hb => by simpa using h1.alive b hb)
          (by rw [Below.heap_setCell _ _ _ _ hpq, hh]; exact h1.blk) (by rw [heap_setCell_same w1 (q f) 1 _ _ _ (h1.files.cell f hlt')]; rfl)
          ((h1.files.bytes f hlt').same fun b hb => Below.heap_setCell _ _ _ _ (fun e => by
            obtain ⟨cs, fr, hcs⟩ := (h1.files.bytes f hlt').typed b hb
            rw [show b = q f from e, h1.files.cell f hlt'] at hcs
            simp only [Option.some.injEq, Obj.cells.injEq] at hcs
            exact absurd hcs.2.1 (by decide))) (.inr (.inl rfl)) (fun k _ _ h2 _ => Below.heap_setCell _ _ _ _ h2)
        exact Dk.PDidM.of hpa.at_ ((hr.off h1.mine).trans (Dk.Off.set (.inl (h1.files.mine f hlt')) _))
      have HLT := Lib.hid hlt
      generalize hX : (Dk.file d.files f).1 = X at HE HX
      generalize hF2 : (Dk.file d.files f).2 = F2 at HX
      generalize Ty.S s = sx at cl ⊢
      clear hv hlk he hlt hX hF2
      go_enter Try.func29, Try.ntmps29
      go_wp2_with fail
      with_reducible refine cl.mono ?_
      rintro e w1 ⟨rfl, ht⟩
      obtain ⟨a, c, hv, c0, c1, f1, hd⟩ := HX.out w1 ht
      have HD := Lib.hid hd
      clear cl ht hd hv HX
      go_wp2
      go_ret
      exact ⟨by rw [HE.out]; rfl, by rw [HE.out]; exact HD.out⟩
  · have HE : Hid (Dk.sync d s = (Dk.tick d, Dk.callE d)) := Lib.hid (by unfold Dk.sync; rw [if_pos he])
    have hne : ((Dk.callE d : Nat) : Int) ≠ 0 := by omega
    have hnb : (((Dk.callE d : Nat) : Int) != 0) = true := by rw [bne_iff_ne]; exact hne
    have hv : Dk.onV q d s = .tuple #[.pointer none, .int .i64 ((Dk.callE d : Nat) : Int)] := by unfold Dk.onV; rw [if_pos he]
    rw [hv] at cl
    generalize Dk.callE d = E at cl HE hnb hne
    generalize Ty.S s = sx at cl ⊢
    clear hv he hne
    go_enter Try.func29, Try.ntmps29
    go_wp2_with fail
    with_reducible refine cl.mono ?_
    rintro e w1 ⟨rfl, ht⟩
    have HD := Lib.hid (HT.out w1 ht)
    clear cl ht
    go_wp2
    go_ret
    exact ⟨by rw [HE.out]; rfl, by rw [HE.out]; exact HD.out⟩
end Go.Proofs.Ytfkdkdkdpenblaa

namespace Go.Proofs.Ytfkdkdkdpenblaa
open Go.RowKit Go.Maps
/-- 'append(b, t...)': the walk's law. -/
theorem Dk.wpList_pb {w0 : World} {v : Value} {l : Dk.Str} (h : Dk.PB false w0 v l) (t : Dk.Str) (hl : l.length + t.length ≤ 140737488355328)
    {ops : Array Oper} {rest : List Oper} {o : Oper} {a : Act} {Q : Exit → Act → World → Prop} (s x : Operand) (hgd : o.guard = none)
    (ho : o.op = .call { callee := .builtin .append, args := #[s, x], argTypes := #[73, 9] })
    (hs : a.eval s = v) (hx : a.eval x = .string (Ty.S t))
    (hK : ∀ v' w', Dk.PB false w' v' (l ++ t) → Ty.Grew w0 w' v v' → wpList Try.prog ops Q rest (a.put o.dst v') w') :
    wpList Try.prog ops Q (o :: rest) a w0 := by
  refine wpList_plain hgd fun K hK' => ?_
  obtain ⟨v', w', hr, h2, h3⟩ := h.append t hl o.type
  unfold Oper.wp execOp
  simp only [ho, resolve, invoke, builtin, Sem.run_bind, Sem.run_pure, Result.andThen_ok, List.map_toArray, List.map_cons, List.map_nil, hs, hx, hr]
  exact hK' _ _ (hK v' w' h2 h3)
theorem Dk.PDidM.drew {m : Bool} {S : Nat → Prop} {w w1 : World} {p : Nat} {d' : Dk.D} (h : Dk.PDidM m S w p d' w1) : Dk.PDidM m S w p d' w1.drew :=
  ⟨h.1.same (Nat.le_refl _) fun _ _ => rfl, ⟨h.2.os, h.2.tape, h.2.output, h.2.size, h.2.block⟩⟩
theorem Dk.size_file {fs : List (Dk.Str × Nat)} {f : Nat} (hf : f < fs.length) : (Dk.file fs f).1.length ≤ Dk.size fs := by
  induction fs generalizing f with
  | nil => simp at hf
  | cons a fs ih =>
    have e : Dk.size (a :: fs) = a.1.length + Dk.size fs := by simp [Dk.size]
    cases f with
    | zero => rw [e]; exact Nat.le_add_right _ _
    | succ f =>
      have := ih (f := f) (by simpa using hf)
      have e2 : Dk.file (a :: fs) (f + 1) = Dk.file fs f := rfl
      rw [e, e2]; omega
section
variable {m : Bool} {S S' : Nat → Prop} {w w' : World} {p : Nat} {d d' : Dk.D} {q : Nat → Nat} {vb : Nat → Value} {vs : List Dk.Cls} {vN vD vP : Value} {ss rs : Bool} {sa ra : Int}
theorem Dk.PA.pq (h : Dk.PA m S w p d q vb vs vN vD vP ss sa rs ra) {f : Nat} (hf : f < d.files.length) : p ≠ q f := fun e => by
  have h2 := h.blk
  rw [e, h.files.cell f hf] at h2
  simp only [Option.some.injEq, Obj.cells.injEq] at h2
  exact absurd h2.2.1 (by decide)
theorem Dk.PA.pb (h : Dk.PA m S w p d q vb vs vN vD vP ss sa rs ra) {f b : Nat} (hf : f < d.files.length) (hb : (vb f).ownBlock = some b) : b ≠ p ∧ b ≠ q f := by
  obtain ⟨cs, fr, hc⟩ := (h.files.bytes f hf).typed b hb
  constructor
  · intro e
    rw [e, h.blk] at hc
    simp only [Option.some.injEq, Obj.cells.injEq] at hc
    exact absurd hc.2.1 (by decide)
  · intro e
    rw [e, h.files.cell f hf] at hc
    simp only [Option.some.injEq, Obj.cells.injEq] at hc
    exact absurd hc.2.1 (by decide)
/-- Bytes were appended to a file; the held bytes with them. -/
theorem Dk.PA.appended (h : Dk.PA false S w p d q vb vs vN vD vP ss sa rs ra) (hi : Dk.Inv d) {s : Dk.Str} {f : Nat} (hl : Dk.look d.dir s = some f) (t : Dk.Str) {w2 : World} {v' : Value}
    (hb : Dk.PB false w2 v' ((Dk.file d.files f).1 ++ t)) (hg : Ty.Grew w w2 (vb f) v') :
    (w2.cell? ⟨q f, 0, none⟩ = some (vb f) ∧ w2.frozen? ⟨q f, 0, none⟩ = false) ∧ ((w2.setCell ⟨q f, 0, none⟩ v').cell? ⟨p, 4, none⟩ = some (.int .i64 (Dk.held d : Int)) ∧ (w2.setCell ⟨q f, 0, none⟩ v').frozen? ⟨p, 4, none⟩ = false) ∧
    Dk.PDidM false S w p (Dk.put d f ((Dk.file d.files f).1 ++ t, (Dk.file d.files f).2)) ((w2.setCell ⟨q f, 0, none⟩ v').setCell ⟨p, 4, none⟩ (.int .i64 ((Dk.held d : Int) + (t.length : Int)))) := by
  have hlt := hi.dirlt hl
  have hpq := h.pq hlt
  have e1 : w2.heap[p]? = w.heap[p]? := hg.by_.block p h.lt (fun e => (h.pb hlt e.symm).1 rfl)
  have e2 : w2.heap[q f]? = w.heap[q f]? := hg.by_.block (q f) (h.files.lt hlt) (fun e => (h.pb hlt e.symm).2 rfl)
  have c1 := e1.trans h.blk
  have c2 := e2.trans (h.files.cell f hlt)
  have c1' : (w2.setCell ⟨q f, 0, none⟩ v').heap[p]? = _ := (Below.heap_setCell _ _ _ _ hpq).trans c1
  have c2' : (w2.setCell ⟨q f, 0, none⟩ v').heap[q f]? = some (.cells #[v', .int .i64 ((Dk.file d.files f).2 : Int)] 75 (0, 0)) := by rw [heap_setCell_same w2 (q f) 0 _ _ _ c2]; rfl
  refine ⟨⟨by rw [cell_of_row w2 _ _ _ _ _ c2]; rfl, frozen_of_row w2 _ _ _ _ c2⟩, ⟨by rw [cell_of_row _ _ _ _ _ _ c1']; rfl, frozen_of_row _ _ _ _ _ c1'⟩, ?_⟩
  obtain ⟨wf, hwf⟩ : ∃ wf, wf = (w2.setCell ⟨q f, 0, none⟩ v').setCell ⟨p, 4, none⟩ (.int .i64 ((Dk.held d : Int) + (t.length : Int))) := ⟨_, rfl⟩
  have hsz : wf.heap.size = w2.heap.size := by rw [hwf]; simp
  have hsz2 : w.heap.size ≤ wf.heap.size := by rw [hsz]; exact hg.by_.size
  have hof : ∀ k, k ≠ p → k ≠ q f → wf.heap[k]? = w2.heap[k]? := fun k h1 h2 => by
    rw [hwf]
    exact (Below.heap_setCell _ _ _ _ h1).trans (Below.heap_setCell _ _ _ _ h2)
  have hh : Dk.held (Dk.put d f ((Dk.file d.files f).1 ++ t, (Dk.file d.files f).2)) = Dk.held d + t.length := by
    have := Dk.heldL_set d.files f ((Dk.file d.files f).1 ++ t, (Dk.file d.files f).2) hlt d.dir hi.dir.one ⟨s, (Dk.look_some hi.dir.asc).1 hl⟩
    show Dk.heldL (d.files.set f ((Dk.file d.files f).1 ++ t, (Dk.file d.files f).2)) d.dir = Dk.heldL d.files d.dir + t.length
    simp only [List.length_append] at this
    omega
  have htyp : ∀ b, v'.ownBlock = some b → b ≠ p ∧ b ≠ q f := fun b hb' => by
    obtain ⟨cs, fr, hc⟩ := hb.typed b hb'
    constructor
    · intro e
      rw [e, c1] at hc
      simp only [Option.some.injEq, Obj.cells.injEq] at hc
      exact absurd hc.2.1 (by decide)
    · intro e
      rw [e, c2] at hc
      simp only [Option.some.injEq, Obj.cells.injEq] at hc
      exact absurd hc.2.1 (by decide)
  have hoff : Dk.Off S w wf := by
    rw [hwf]
    have o1 : Dk.Off S w w2 := Dk.Off.grew hg fun b hb => h.files.bmine f b hlt hb
    exact (o1.trans (Dk.Off.set (.inl (h.files.mine f hlt)) _)).trans (Dk.Off.set (.inl h.mine) _)
  have hpa := h.file (S' := Dk.More S w wf) (w' := wf) hlt v' ((Dk.file d.files f).1 ++ t, (Dk.file d.files f).2) (fun _ hb => .inl hb) (Dk.more_alive h.alive hsz2)
    (by
      rw [hwf, heap_setCell_same _ p 4 _ _ _ c1', hh]
      simp only [Dk.pcells, Array.setIfInBounds, Int.natCast_add]
      rfl)
    (by rw [hwf, Below.heap_setCell _ _ _ _ (fun e => hpq e.symm)]; exact c2') (hb.same fun b hb' => hof b (htyp b hb').1 (htyp b hb').2)
    (by
      rcases hg.own with e | ⟨k, e, hk⟩
      · exact .inr (.inl e)
      · exact .inr (.inr ⟨k, e, .inr ⟨hk, by rw [hsz]; exact hb.lt k e⟩, hk⟩))
    (fun k hk h1 h2 h3 => (hof k h1 h2).trans (hg.by_.block k hk (fun e => h3 e.symm)))
  rw [← hwf]
  exact ⟨hpa.at_, hoff⟩
end
set_option maxHeartbeats 4000000 in
set_option maxRecDepth 100000 in
theorem Dk.pappendM_c {S : Nat → Prop} {p : Nat} {d : Dk.D} {w : World} (h : Dk.PAt S w p d) (hf : Dk.Fit d) (s t : Dk.Str) (hs : s.length ≤ 1048576) (ht : t.length ≤ 1048576) :
    Calls Try.prog 28 #[.pointer (some ⟨p, 0, none⟩), .string (Ty.S s), .string (Ty.S t)] w fun e w' => e = .returned (.int .i64 (((Dk.append d s t).2 : Nat) : Int)) ∧ Dk.PDidM false S w p (Dk.append d s t).1 w' := by
  obtain ⟨q, vb, vs, vN, vD, vP, ss, sa, rs, ra, h⟩ := h
  have cl := Dk.pcallOn_c h (by have := hf.sz.calls; omega) s (by omega)
  have HT : Hid (∀ w1, Dk.Ticked false S w p d q vb vs vN vD vP w1 → Dk.PDidM false S w p (Dk.tick d) w1 ∧ w1.cell? ⟨p, 3, none⟩ = some (.int .i64 d.room) ∧ w1.cell? ⟨p, 4, none⟩ = some (.int .i64 (Dk.held d : Int))) := Lib.hid fun w1 ht => by
    obtain ⟨_, _, _, _, h1, hr⟩ := ht
    obtain ⟨_, _, _, c3, c4, _⟩ := h1.c
    exact ⟨h1.didRow hr, c3, c4⟩
  have hfit := Lib.hid hf
  have HAL := Lib.hid h.alive
  have hzt : (Ty.S t).size = t.length := Tx.S_size t
  have hhd : Dk.held d ≤ 1000000000000 := by have := hf.inv.held; have := hf.sz.bytes; omega
  have hrm := hf.room
  clear h hf hs
  by_cases he : Dk.callE d = 0
  · cases hlk : Dk.look d.dir s with
    | none =>
      have HE : Hid (Dk.append d s t = (Dk.tick d, 12)) := Lib.hid (by unfold Dk.append; rw [if_neg (by simpa using he), hlk])
      have hv : Dk.onV q d s = .tuple #[.pointer none, .int .i64 12] := by unfold Dk.onV; rw [if_neg (by simpa using he), hlk]
      rw [hv] at cl
      generalize Ty.S s = sx at cl ⊢
      generalize Ty.S t = tx at hzt ⊢
      clear hv hlk he hzt hhd hrm ht
      go_enter Try.func28, Try.ntmps28
      go_wp2_with fail
      with_reducible refine cl.mono ?_
      rintro e w1 ⟨rfl, ht⟩
      have HD := Lib.hid (HT.out w1 ht).1
      clear cl ht
      go_wp2
      go_ret
      exact ⟨by rw [HE.out]; rfl, by rw [HE.out]; exact HD.out⟩
    | some f =>
      have hv : Dk.onV q d s = .tuple #[.pointer (some ⟨q f, 0, none⟩), .int .i64 0] := by unfold Dk.onV; rw [if_neg (by simpa using he), hlk]
      rw [hv] at cl
      obtain ⟨z, hz⟩ : ∃ z, z = t.length := ⟨_, rfl⟩
      rw [← hz] at hzt ht
      obtain ⟨hd, hhde⟩ : ∃ hd, hd = Dk.held d := ⟨_, rfl⟩
      rw [← hhde] at HT hhd
      obtain ⟨room, hroom⟩ : ∃ room, room = d.room := ⟨_, rfl⟩
      rw [← hroom] at HT hrm
      have hw1 : IntKind.i64.wrap ((hd : Int) + (z : Int)) = (hd : Int) + (z : Int) := by rw [IntKind.wrap_i64]; omega
      by_cases hsp : room - (hd : Int) < (z : Int)
      · have HE : Hid (Dk.append d s t = (Dk.tick d, 10)) := Lib.hid (by unfold Dk.append; rw [if_neg (by simpa using he), hlk]; simp only; rw [if_pos (by rw [← hz, ← hhde, ← hroom]; exact hsp)])
        have hgt : (hd : Int) + (z : Int) > room := by omega
        generalize Ty.S s = sx at cl ⊢
        generalize Ty.S t = tx at hzt ⊢
        clear hv hlk he hhd hrm ht hsp hz hhde hroom
        go_enter Try.func28, Try.ntmps28
        go_wp2_with fail
        with_reducible refine cl.mono ?_
        rintro e w1 ⟨rfl, ht⟩
        obtain ⟨hD, c3, c4⟩ := HT.out w1 ht
        have HD := Lib.hid hD
        clear cl ht hD HT
        go_wp2_with fail
        go_region
        go_wp2
        go_ret
        exact ⟨by rw [HE.out]; rfl, by rw [HE.out]; exact HD.out.drew⟩
      · have HE : Hid (Dk.append d s t = (Dk.put (Dk.tick d) f ((Dk.file d.files f).1 ++ t, (Dk.file d.files f).2), 0)) := Lib.hid (by unfold Dk.append; rw [if_neg (by simpa using he), hlk]; simp only; rw [if_neg (by rw [← hz, ← hhde, ← hroom]; exact hsp)])
        have hgt : ¬ (hd : Int) + (z : Int) > room := by omega
        have HX : Hid (∀ w1, Dk.Ticked false S w p d q vb vs vN vD vP w1 → Dk.PB false w1.drew (vb f) (Dk.file d.files f).1 ∧ w1.cell? ⟨q f, 0, none⟩ = some (vb f) ∧
            ∀ w2 v', Dk.PB false w2 v' ((Dk.file d.files f).1 ++ t) → Ty.Grew w1.drew w2 (vb f) v' → (w2.cell? ⟨q f, 0, none⟩ = some (vb f) ∧ w2.frozen? ⟨q f, 0, none⟩ = false) ∧ ((w2.setCell ⟨q f, 0, none⟩ v').cell? ⟨p, 4, none⟩ = some (.int .i64 (hd : Int)) ∧ (w2.setCell ⟨q f, 0, none⟩ v').frozen? ⟨p, 4, none⟩ = false) ∧
              Dk.PDidM false S w p (Dk.put (Dk.tick d) f ((Dk.file d.files f).1 ++ t, (Dk.file d.files f).2)) ((w2.setCell ⟨q f, 0, none⟩ v').setCell ⟨p, 4, none⟩ (.int .i64 ((hd : Int) + (z : Int))))) := Lib.hid fun w1 ht => by
          obtain ⟨ss', sa', rs', ra', h1, hr⟩ := ht
          have hlt : f < (Dk.tick d).files.length := hfit.out.inv.dirlt hlk
          have h1d := h1.same (w' := w1.drew) (Nat.le_refl _) fun _ _ => rfl
          refine ⟨h1d.files.bytes f hlt, (h1.files.cells hlt).1, fun w2 v' hb hg => ?_⟩
          obtain ⟨k1, k2, k3⟩ := h1d.appended (hfit.out.inv.tick) (s := s) hlk t hb hg
          rw [hhde, hz]
          refine ⟨k1, k2, ?_⟩
          have o1 : Dk.Off S w w1.drew := (hr.off h1.mine).trans (Dk.Off.of_below (Below.drew (Below.refl _ w1)))
          refine ⟨k3.1.mono (S' := Dk.More S w _) (fun b hb => ?_) (Dk.more_alive HAL.out (Nat.le_trans o1.size k3.2.size)), o1.trans ⟨k3.2.os, k3.2.tape, k3.2.output, k3.2.size, fun k hk hn => k3.2.block k hk fun hs => hn (.inl hs)⟩⟩
          rcases hb with hb | hb
          · exact .inl hb
          · exact .inr ⟨Nat.le_trans o1.size hb.1, hb.2⟩
        have HL : Hid ((Dk.file d.files f).1.length + t.length ≤ 140737488355328) := Lib.hid (by
          have h1 := hfit.out.sz.bytes
          have h2 := Dk.size_file (hfit.out.inv.dirlt hlk)
          omega)
        generalize (Dk.file d.files f).1 = X at HE HX HL
        generalize (Dk.file d.files f).2 = F2 at HE HX
        generalize vb f = vF at HX
        generalize q f = qf at cl HX
        generalize Ty.S s = sx at cl ⊢
        generalize htx : Ty.S t = tx at hzt ⊢
        have HTX := Lib.hid htx
        clear hv hlk he hhd hrm ht hsp hz hhde hroom htx
        go_enter Try.func28, Try.ntmps28
        go_wp2_with fail
        with_reducible refine cl.mono ?_
        rintro e w1 ⟨rfl, ht⟩
        obtain ⟨hD, c3, c4⟩ := HT.out w1 ht
        obtain ⟨hpb, f0, hK⟩ := HX.out w1 ht
        have HPB := Lib.hid hpb
        have HK := Lib.hid hK
        clear cl ht hD HT HX hpb hK
        go_wp2_with fail
        go_region
        go_upto_region 7 with (at_builtin; refine Dk.wpList_pb HPB.out t HL.out (.tmp 34) (.tmp 35) rfl rfl rfl (by rw [HTX.out]; rfl) ?_; intro v' w2 hb2 hg2; obtain ⟨av, cv, hve, _⟩ := hb2.is; rw [List.length_append] at hve; subst hve; obtain ⟨⟨g0, gf⟩, ⟨g4, gf4⟩, hd⟩ := HK.out w2 _ hb2 hg2; have HD := Lib.hid hd; clear hb2 hg2 hd)
        generalize World.setCell w2 _ _ = w3 at g4 gf4 HD ⊢
        clear g0 gf c3 c4 f0
        go_wp2
        go_ret
        exact ⟨by rw [HE.out]; rfl, by rw [HE.out]; exact HD.out⟩
  · have HE : Hid (Dk.append d s t = (Dk.tick d, Dk.callE d)) := Lib.hid (by unfold Dk.append; rw [if_pos he])
    have hne : ((Dk.callE d : Nat) : Int) ≠ 0 := by omega
    have hnb : (((Dk.callE d : Nat) : Int) != 0) = true := by rw [bne_iff_ne]; exact hne
    have hv : Dk.onV q d s = .tuple #[.pointer none, .int .i64 ((Dk.callE d : Nat) : Int)] := by unfold Dk.onV; rw [if_pos he]
    rw [hv] at cl
    generalize Dk.callE d = E at cl HE hnb hne
    generalize Ty.S s = sx at cl ⊢
    generalize Ty.S t = tx at hzt ⊢
    clear hv he hne hzt hhd hrm ht
    go_enter Try.func28, Try.ntmps28
    go_wp2_with fail
    with_reducible refine cl.mono ?_
    rintro e w1 ⟨rfl, ht⟩
    have HD := Lib.hid (HT.out w1 ht).1
    clear cl ht
    go_wp2
    go_ret
    exact ⟨by rw [HE.out]; rfl, by rw [HE.out]; exact HD.out⟩
end Go.Proofs.Ytfkdkdkdpenblaa

namespace Go.Proofs.Ytfkdkdkdpenblaa
open Go.RowKit Go.Maps
theorem Dk.PM.congr {w : World} {q : Nat → Nat} {b : Nat} {l l' : Dk.Dir} (h : Dk.PM w q b l) (e : ∀ t, Dk.look l' t = Dk.look l t) : Dk.PM w q b l' := by
  obtain ⟨D, hown, hr⟩ := h
  exact ⟨D, hown, fun s z => by rw [hr s z, e s]⟩
/-- A map turned leaves all other blocks. -/
theorem Dk.turned_other {w w' : World} {b : Nat} (h : w.mapTurned w' b) : w'.heap.size = w.heap.size ∧ (∀ k, k ≠ b → w'.heap[k]? = w.heap[k]?) ∧ w'.os = w.os ∧ w'.tape = w.tape ∧ w'.output = w.output := by
  obtain ⟨es, clock, es', clock', hb, rfl⟩ := h
  refine ⟨by simp [Go.ChangeMaps.setBlock], fun k hk => ChangeMaps.heap_setBlock_other hb _ hk, rfl, rfl, rfl⟩
set_option maxHeartbeats 1000000 in
set_option maxRecDepth 100000 in
theorem Dk.cls1_c {w : World} {q : Nat → Nat} {b bf ba f : Nat} {l : Dk.Dir} {s : Dk.Str} (hm : Dk.PM w q b l) (ha : Dk.Asc l) (hl : l.length ≤ 400000) (hs : s.length ≤ 1048576)
    (h1 : w.cell? ⟨bf, 0, none⟩ = some (.pointer (some ⟨q f, 0, none⟩))) (h2 : w.cell? ⟨ba, 0, none⟩ = some (.string (Ty.S s))) :
    Calls Try.prog 59 #[.map (some b), .pointer (some ⟨bf, 0, none⟩), .pointer (some ⟨ba, 0, none⟩)] w fun e w' => e = .returned (.tuple #[]) ∧ Dk.PM w' q b (Dk.wi l (s, f)) ∧ w.mapTurned w' b := by
  obtain ⟨w', hrun, hm', ht⟩ := hm.store ha (by omega) s (by omega) f
  have HM := Lib.hid hm'
  have HT := Lib.hid ht
  generalize Ty.S s = sx at h2 hrun
  generalize q f = qf at h1 hrun
  clear hm hm' ht ha hl hs
  go_enter Try.func59, Try.ntmps59
  go_wp2
  go_end0
  exact ⟨rfl, HM.out, HT.out⟩
set_option maxHeartbeats 1000000 in
set_option maxRecDepth 100000 in
theorem Dk.cls3_c {w : World} {q : Nat → Nat} {b ba : Nat} {l : Dk.Dir} {s : Dk.Str} (hm : Dk.PM w q b l) (hs : s.length ≤ 1048576)
    (h2 : w.cell? ⟨ba, 0, none⟩ = some (.string (Ty.S s))) :
    Calls Try.prog 62 #[.map (some b), .pointer (some ⟨ba, 0, none⟩)] w fun e w' => e = .returned (.tuple #[]) ∧ Dk.PM w' q b (Dk.wo l s) ∧ w.mapTurned w' b := by
  have HP : Hid (∀ ty, ∃ w', (Builtin.delete_ #[57, 9] ty #[.map (some b), .string (Ty.S s)]).run Try.prog w = .ok (.tuple #[]) w' ∧ Dk.PM w' q b (Dk.wo l s) ∧ w.mapTurned w' b) := Lib.hid fun ty => hm.drop s (by omega) ty
  generalize Ty.S s = sx at h2 HP
  obtain ⟨w', hrun, hm', ht⟩ := HP.out 0
  have HM := Lib.hid hm'
  have HT := Lib.hid ht
  clear hm hm' ht hs HP
  go_enter Try.func62, Try.ntmps62
  go_wp2
  go_end0
  exact ⟨rfl, HM.out, HT.out⟩
set_option maxHeartbeats 1000000 in
set_option maxRecDepth 100000 in
theorem Dk.cls2_c {w : World} {q : Nat → Nat} {b ba bb f : Nat} {l : Dk.Dir} {s t : Dk.Str} (hm : Dk.PM w q b l) (ha : Dk.Asc l) (hl : l.length ≤ 400000) (hs : s.length ≤ 1048576) (ht : t.length ≤ 1048576) (hlk : Dk.look l s = some f) (hne : s ≠ t)
    (h1 : w.cell? ⟨ba, 0, none⟩ = some (.string (Ty.S s))) (h2 : w.cell? ⟨bb, 0, none⟩ = some (.string (Ty.S t))) (hab : ba ≠ b) :
    Calls Try.prog 61 #[.map (some b), .pointer (some ⟨ba, 0, none⟩), .pointer (some ⟨bb, 0, none⟩)] w fun e w' => e = .returned (.tuple #[]) ∧ Dk.PM w' q b (Dk.wi (Dk.wo l s) (t, f)) ∧ w.mapTurned w' b := by
  have hlook := hm.look s (by omega)
  rw [hlk] at hlook
  simp only at hlook
  obtain ⟨w1, hrun1, hm1, ht1⟩ := hm.store ha (by omega) t (by omega) f
  obtain ⟨w2, hrun2, hm2, ht2⟩ := hm1.drop s (by omega) 0
  have h3 : w1.cell? ⟨ba, 0, none⟩ = some (.string (Ty.S s)) := by
    rw [← h1]
    exact World.cell?_of_block ((Dk.turned_other ht1).2.1 ba hab)
  have HM := Lib.hid (hm2.congr (l' := Dk.wi (Dk.wo l s) (t, f)) fun x => by
    rw [Dk.look_wi (Dk.asc_wo ha s), Dk.look_wo, Dk.look_wo, Dk.look_wi ha]
    simp only
    by_cases e1 : x = t
    · rw [if_pos e1, if_neg (fun e2 => hne (e2.symm.trans e1)), if_pos e1]
    · rw [if_neg e1]
      by_cases e2 : x = s
      · rw [if_pos e2, if_pos e2]
      · rw [if_neg e2, if_neg e2, if_neg e1])
  have HT := Lib.hid (ht1.trans ht2)
  generalize Ty.S s = sx at h1 h3 hlook hrun2
  generalize Ty.S t = tx at h2 hrun1
  generalize q f = qf at hlook hrun1
  clear hm hm1 hm2 ht1 ht2 ha hl hs ht hlk hne hab
  go_enter Try.func61, Try.ntmps61
  go_wp2
  go_end0
  exact ⟨rfl, HM.out, HT.out⟩
/-- The change c, made of the map b. -/
theorem Dk.cls_c {S : Nat → Prop} {w : World} {q : Nat → Nat} {n b : Nat} {l : Dk.Dir} {c : Dk.Ch} {v : Dk.Cls} (hc : Dk.PC S w q n v c) (hm : Dk.PM w q b l) (hw : Dk.Well n l) (hl : l.length ≤ 400000) (hok : Dk.Ok n l c) (hs : c.a.length ≤ 1048576) (ht : c.b.length ≤ 1048576) :
    Calls Try.prog v.1 (#[.map (some b)] ++ v.2) w fun e w' => e = .returned (.tuple #[]) ∧ Dk.PM w' q b (Dk.apply l c) ∧ w.mapTurned w' b := by
  obtain ⟨es, ck, hbm⟩ := hm.isMap
  rcases hc with ⟨hb, ba, bb, rfl, h1, h2⟩ | ⟨hb, hf, ba, rfl, h1⟩ | ⟨hb, hf, _, bf, ba, rfl, h0, h1⟩
  · unfold Dk.Ok at hok
    rw [if_pos hb] at hok
    obtain ⟨f, hlk, hne⟩ := hok
    have := Dk.cls2_c hm hw.asc hl hs ht hlk hne h1.c h2.c (fun e => by
      have := h1.2
      rw [e, hbm] at this
      simp at this)
    have e : Dk.apply l c = Dk.wi (Dk.wo l c.a) (c.b, f) := by
      unfold Dk.apply
      rw [if_pos hb, hlk]
    rw [e]
    exact this
  · have e : Dk.apply l c = Dk.wo l c.a := by
      unfold Dk.apply
      rw [if_neg (by simpa using hb), if_pos hf]
    rw [e]
    exact Dk.cls3_c hm hs h1.c
  · have e : Dk.apply l c = Dk.wi l (c.a, c.f.toNat) := by
      unfold Dk.apply
      rw [if_neg (by simpa using hb), if_neg (by omega)]
    rw [e]
    exact Dk.cls1_c hm hw.asc hl hs (by rw [cell_of_row w _ _ _ _ _ h0.2]; rfl) h1.c
end Go.Proofs.Ytfkdkdkdpenblaa
