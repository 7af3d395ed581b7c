/-
  The document's disk in memory; the calls that count, that turn a number.
  The document's disk: the calls that count, that turn a number; a change of the directory.
  The document's disk: Space, Stop, Refuse; a change; what is held.
  The document's disk: a change of the directory.
-/
import Derived.Test.YtfkdkdkdpenblaaZL
import Derived.Deep.AppendLies
import Derived.Deep.RegionLaw
namespace Go.Proofs.Ytfkdkdkdpenblaa
open Go.RowKit
/-- From w to w' nothing was written but what is of S, and new blocks. -/
structure Dk.Off (S : Nat → Prop) (w w' : World) : Prop where
  os : w'.os = w.os
  tape : w'.tape = w.tape
  output : w'.output = w.output
  size : w.heap.size ≤ w'.heap.size
  block : ∀ k, k < w.heap.size → ¬ S k → w'.heap[k]? = w.heap[k]?
/-- S and what is new. -/
def Dk.More (S : Nat → Prop) (w w' : World) (b : Nat) : Prop := S b ∨ (w.heap.size ≤ b ∧ b < w'.heap.size)
theorem Dk.Off.refl (S : Nat → Prop) (w : World) : Dk.Off S w w := ⟨rfl, rfl, rfl, Nat.le_refl _, fun _ _ _ => rfl⟩
theorem Dk.Off.trans {S : Nat → Prop} {w w1 w2 : World} (h : Dk.Off S w w1) (g : Dk.Off (Dk.More S w w1) w1 w2) : Dk.Off S w w2 :=
  ⟨g.os.trans h.os, g.tape.trans h.tape, g.output.trans h.output, Nat.le_trans h.size g.size, fun k hk hn =>
    (g.block k (Nat.lt_of_lt_of_le hk h.size) (fun hm => by
      rcases hm with hm | ⟨hm, _⟩
      · exact hn hm
      · omega)).trans (h.block k hk hn)⟩
theorem Dk.Off.of_below {S : Nat → Prop} {w w' : World} (h : Below w.heap.size w w') : Dk.Off S w w' := ⟨h.os, h.tape, h.output, h.size, fun k hk _ => h.block k hk⟩
theorem Dk.Off.below {S : Nat → Prop} {w w' : World} (h : Dk.Off S w w') {B : Nat} (hB : B ≤ w.heap.size) (hS : ∀ b, S b → B ≤ b) : Below B w w' :=
  ⟨h.os, h.tape, h.output, h.size, fun k hk => h.block k (by omega) (fun hs => by have := hS k hs; omega)⟩
theorem Dk.Off.set {S : Nat → Prop} {w : World} {b i : Nat} (hb : S b) (u : Value) : Dk.Off S w (w.setCell ⟨b, i, none⟩ u) :=
  ⟨rfl, rfl, rfl, by simp, fun k _ hn => Below.heap_setCell _ _ _ _ (fun e => hn (by show S k; rw [e]; exact hb))⟩
theorem Dk.Off.grew {S : Nat → Prop} {w w' : World} {v v' : Value} (g : Ty.Grew w w' v v') (h : ∀ b, v.ownBlock = some b → S b) : Dk.Off S w w' :=
  ⟨g.by_.os, g.by_.tape, g.by_.output, g.by_.size, fun k hk hn => g.by_.block k hk (fun e => hn (h k e.symm))⟩
section
variable {α : Type} {P : Nat → Prop} {e : TypeId} {k : Nat} {enc : α → List Value}
theorem Dk.At.other {w w' : World} {v : Value} {L : List α} (h : Dk.At P e k enc w v L) (g : ∀ b cs fr, P b → w.heap[b]? = some (.cells cs e fr) → w'.heap[b]? = w.heap[b]?) : Dk.At P e k enc w' v L := by
  obtain ⟨a, c, hv, hc, h⟩ := h
  refine ⟨a, c, hv, hc, ?_⟩
  rcases h with h | ⟨b, o, cs, fr, ha, hP, hb, h⟩
  · exact .inl h
  · refine .inr ⟨b, o, cs, fr, ha, hP, (g b cs fr hP hb).trans hb, fun i j x hi hj => ?_⟩
    rw [← h i j x hi hj]
    exact World.cell?_of_block (g b cs fr hP hb)
theorem Dk.Own.other {base : Nat} {w w' : World} {v : Value} {L : List α} (h : Dk.Own e k enc base w v L) (g : ∀ b cs, v.ownBlock = some b → w.heap[b]? = some (.cells cs e (0, 0)) → w'.heap[b]? = w.heap[b]?) : Dk.Own e k enc base w' v L :=
  h.same fun b hb => by
    obtain ⟨cs, hcs⟩ := h.typed b hb
    exact g b cs hb hcs
end
def Dk.tD : TypeId := 67
def Dk.rcells (vF vD vS vC : Value) (room halt deny calls : Int) : Array Value := #[vF, vD, vS, vC, .int .i64 room, .int .i64 halt, .int .i64 deny, .int .i64 calls]
abbrev Dk.Fown (w : World) (v : Value) (l : List (Dk.Str × Nat)) : Prop := Dk.Own 69 2 Dk.encN 0 w v l
abbrev Dk.Cown (w : World) (v : Value) (l : List Dk.Ch) : Prop := Dk.Own 88 3 Dk.encC 0 w v l
/-- The document's disk in memory. -/
structure Dk.RA (S : Nat → Prop) (w : World) (p : Nat) (d : Dk.D) (vF vD vS vC : Value) : Prop where
  blk : w.heap[p]? = some (.cells (Dk.rcells vF vD vS vC d.room d.halt d.deny (d.calls : Int)) 67 (0, 0))
  files : Dk.Fown w vF d.files
  filesS : ∀ b, vF.ownBlock = some b → S b
  dir : Dk.Dat S w vD d.dir
  sure : Dk.Dat S w vS d.sure
  chg : Dk.Cown w vC d.chg
  chgS : ∀ b, vC.ownBlock = some b → S b
  mine : S p
  alive : ∀ b, S b → b < w.heap.size
def Dk.RAt (S : Nat → Prop) (w : World) (p : Nat) (d : Dk.D) : Prop := ∃ vF vD vS vC, Dk.RA S w p d vF vD vS vC
section
variable {S S' : Nat → Prop} {w w' : World} {p : Nat} {d d' : Dk.D} {vF vD vS vC : Value}
theorem Dk.RA.mono (h : Dk.RA S w p d vF vD vS vC) (hs : ∀ b, S b → S' b) (ha : ∀ b, S' b → b < w.heap.size) : Dk.RA S' w p d vF vD vS vC :=
  ⟨h.blk, h.files, fun b hb => hs b (h.filesS b hb), h.dir.imp hs, h.sure.imp hs, h.chg, fun b hb => hs b (h.chgS b hb), hs p h.mine, ha⟩
theorem Dk.RA.same (h : Dk.RA S w p d vF vD vS vC) (hs : w.heap.size ≤ w'.heap.size) (g : ∀ b, S b → w'.heap[b]? = w.heap[b]?) : Dk.RA S w' p d vF vD vS vC :=
  ⟨(g p h.mine).trans h.blk, h.files.same fun b hb => g b (h.filesS b hb), h.filesS, h.dir.same g, h.sure.same g, h.chg.same fun b hb => g b (h.chgS b hb), h.chgS, h.mine, fun b hb => Nat.lt_of_lt_of_le (h.alive b hb) hs⟩
theorem Dk.RAt.same (h : Dk.RAt S w p d) (hs : w.heap.size ≤ w'.heap.size) (g : ∀ b, S b → w'.heap[b]? = w.heap[b]?) : Dk.RAt S w' p d := by
  obtain ⟨a, b, c, e, h⟩ := h
  exact ⟨a, b, c, e, h.same hs g⟩
theorem Dk.RAt.mono (h : Dk.RAt S w p d) (hs : ∀ b, S b → S' b) (ha : ∀ b, S' b → b < w.heap.size) : Dk.RAt S' w p d := by
  obtain ⟨a, b, c, e, h⟩ := h
  exact ⟨a, b, c, e, h.mono hs ha⟩
theorem Dk.RAt.alive (h : Dk.RAt S w p d) : ∀ b, S b → b < w.heap.size := by
  obtain ⟨a, b, c, e, h⟩ := h
  exact h.alive
theorem Dk.RA.kept (h : Dk.RA S w p d vF vD vS vC) (g : Below w.heap.size w w') : Dk.RA S w' p d vF vD vS vC := h.same g.size fun b hb => g.block b (h.alive b hb)
theorem Dk.RAt.kept (h : Dk.RAt S w p d) (g : Below w.heap.size w w') : Dk.RAt S w' p d := h.same g.size fun b hb => g.block b (h.alive b hb)
/-- Another disk's doing. -/
theorem Dk.RAt.apart (h : Dk.RAt S w p d) {T : Nat → Prop} (g : Dk.Off T w w') (ht : ∀ b, S b → ¬ T b) : Dk.RAt S w' p d :=
  h.same g.size fun b hb => g.block b (h.alive b hb) (ht b hb)
theorem Dk.more_alive (ha : ∀ b, S b → b < w.heap.size) (hs : w.heap.size ≤ w'.heap.size) : ∀ b, Dk.More S w w' b → b < w'.heap.size := fun b hb => by
  rcases hb with hb | hb
  · exact Nat.lt_of_lt_of_le (ha b hb) hs
  · exact hb.2
theorem Dk.more_more {w2 : World} (h1 : w.heap.size ≤ w'.heap.size) (h2 : w'.heap.size ≤ w2.heap.size) : ∀ b, Dk.More (Dk.More S w w') w' w2 b → Dk.More S w w2 b := fun b hb => by
  rcases hb with (hb | hb) | hb
  · exact .inl hb
  · exact .inr ⟨hb.1, by omega⟩
  · exact .inr ⟨by omega, hb.2⟩
/-- What a call that writes leaves. -/
def Dk.Did (S : Nat → Prop) (w : World) (p : Nat) (d' : Dk.D) (w' : World) : Prop := Dk.RAt (Dk.More S w w') w' p d' ∧ Dk.Off S w w'
theorem Dk.Did.then {d1 d2 : Dk.D} {w1 w2 : World} (h : Dk.Did S w p d1 w1) (g : Dk.Did (Dk.More S w w1) w1 p d2 w2) (ha : ∀ b, S b → b < w.heap.size) : Dk.Did S w p d2 w2 := by
  have hs := Nat.le_trans h.2.size g.2.size
  exact ⟨g.1.mono (Dk.more_more h.2.size g.2.size) (Dk.more_alive ha hs), h.2.trans g.2⟩
theorem Dk.Did.of (h : Dk.RAt S w' p d') (g : Dk.Off S w w') : Dk.Did S w p d' w' := ⟨h.mono (fun _ hb => .inl hb) (fun b hb => by
  rcases hb with hb | hb
  · exact h.alive b hb
  · exact hb.2), g⟩
theorem Dk.RA.c (h : Dk.RA S w p d vF vD vS vC) : w.cell? ⟨p, 0, none⟩ = some vF ∧ w.cell? ⟨p, 1, none⟩ = some vD ∧ w.cell? ⟨p, 2, none⟩ = some vS ∧ w.cell? ⟨p, 3, none⟩ = some vC ∧
    w.cell? ⟨p, 4, none⟩ = some (.int .i64 d.room) ∧ w.cell? ⟨p, 5, none⟩ = some (.int .i64 d.halt) ∧ w.cell? ⟨p, 6, none⟩ = some (.int .i64 d.deny) ∧ w.cell? ⟨p, 7, none⟩ = some (.int .i64 (d.calls : Int)) := by
  have hb := h.blk
  refine ⟨?_, ?_, ?_, ?_, ?_, ?_, ?_, ?_⟩ <;> (rw [cell_of_row w p _ _ _ _ hb]; rfl)
theorem Dk.RA.fz (h : Dk.RA S w p d vF vD vS vC) (i : Nat) : w.frozen? ⟨p, i, none⟩ = false := frozen_of_row w p i _ _ h.blk
theorem Dk.RA.lt (h : Dk.RA S w p d vF vD vS vC) : p < w.heap.size := h.alive p h.mine
/-- Another cell of the disk itself. -/
theorem Dk.RA.put (h : Dk.RA S w p d vF vD vS vC) (i : Nat) (u : Value) {vF' vD' vS' vC' : Value} {room halt deny : Int} {calls : Nat}
    (hc : (Dk.rcells vF vD vS vC d.room d.halt d.deny (d.calls : Int)).setIfInBounds i u = Dk.rcells vF' vD' vS' vC' room halt deny (calls : Int))
    (hf : vF' = vF) (hd : Dk.Dat S w vD' d'.dir) (hs : Dk.Dat S w vS' d'.sure) (hC : Dk.Cown w vC' d'.chg) (hCS : ∀ b, vC'.ownBlock = some b → S b) (ef : d'.files = d.files) (er : d'.room = room) (eh : d'.halt = halt) (ed : d'.deny = deny) (ec : d'.calls = calls) :
    Dk.RA S (w.setCell ⟨p, i, none⟩ u) p d' vF' vD' vS' vC' := by
  have ho : ∀ b, b ≠ p → (w.setCell ⟨p, i, none⟩ u).heap[b]? = w.heap[b]? := fun b hb => Below.heap_setCell _ _ _ _ hb
  have hne : ∀ (b : Nat) (cs : Array Value) (fr : Nat × Nat) (T : TypeId), T ≠ 67 → w.heap[b]? = some (.cells cs T fr) → b ≠ p := fun b cs fr T hT hb e => by
    rw [e, h.blk] at hb
    simp only [Option.some.injEq, Obj.cells.injEq] at hb
    exact hT hb.2.1.symm
  subst er eh ed ec hf
  refine ⟨?_, ?_, h.filesS, ?_, ?_, ?_, hCS, h.mine, fun b hb => by simpa using h.alive b hb⟩
  · rw [heap_setCell_same w p i _ _ u h.blk, hc]
  · rw [ef]; exact h.files.other fun b cs _ hb => ho b (hne b cs _ _ (by decide) hb)
  · exact hd.other fun b cs fr _ hb => ho b (hne b cs fr _ (by decide) hb)
  · exact hs.other fun b cs fr _ hb => ho b (hne b cs fr _ (by decide) hb)
  · exact hC.other fun b cs _ hb => ho b (hne b cs _ _ (by decide) hb)
end
set_option maxHeartbeats 1000000 in
set_option maxRecDepth 100000 in
theorem Dk.rnew_c (n : Int) (w : World) :
    Calls Try.prog 14 #[.int .i64 n] w fun e w' => e = .returned (.pointer (some ⟨w.heap.size, 0, none⟩)) ∧ Dk.RAt (fun b => b = w.heap.size) w' w.heap.size (Dk.new n) ∧ Below w.heap.size w w' := by
  obtain ⟨m, hm⟩ : ∃ m, m = max n 0 := ⟨_, rfl⟩
  have HM : Hid (Dk.new n = ⟨[], [], [], [], m, -1, -1, 0⟩) := Lib.hid (by rw [hm]; rfl)
  have HR : Hid (∀ w', w' = w.alloc (.cells (Dk.rcells (.slice none 0 0) (.slice none 0 0) (.slice none 0 0) (.slice none 0 0) m (-1) (-1) 0) 67) → Dk.RAt (fun b => b = w.heap.size) w' w.heap.size (Dk.new n) ∧ Below w.heap.size w w') := Lib.hid fun w' hw' => by
    rw [HM.out, hw']
    refine ⟨⟨_, _, _, _, heap_alloc_new w _, Dk.Own.nil _ _, by simp [Value.ownBlock], Dk.At.nil _, Dk.At.nil _, Dk.Own.nil _ _, by simp [Value.ownBlock], rfl, fun b hb => by rw [hb, World.size_alloc]; omega⟩, (Below.refl _ w).alloc (Nat.le_refl _) _⟩
  go_enter Try.func14, Try.ntmps14
  go_wp2
  · go_ret
    exact ⟨rfl, HR.out _ (by rw [show m = 0 by omega]; rfl)⟩
  · go_ret
    exact ⟨rfl, HR.out _ (by rw [show m = n by omega]; rfl)⟩
end Go.Proofs.Ytfkdkdkdpenblaa

namespace Go.Proofs.Ytfkdkdkdpenblaa
open Go.RowKit
/-- So great that nothing overflows. -/
structure Dk.Fit (d : Dk.D) : Prop where
  inv : Dk.Inv d
  sz : Dk.Sz 100000 d
  room0 : 0 ≤ d.room
  room : d.room ≤ 9223372036854775807
  dir : ∀ y ∈ d.dir, y.1.length ≤ 1048576
  sure : ∀ y ∈ d.sure, y.1.length ≤ 1048576
  chg : ∀ c ∈ d.chg, c.a.length ≤ 1048576 ∧ c.b.length ≤ 1048576
set_option maxHeartbeats 1000000 in
set_option maxRecDepth 100000 in
theorem Dk.rcall_c {S : Nat → Prop} {p : Nat} {d : Dk.D} {vF vD vS vC : Value} {w : World} (h : Dk.RA S w p d vF vD vS vC) (hk : d.calls ≤ 1000000) :
    Calls Try.prog 64 #[.pointer (some ⟨p, 0, none⟩)] w fun e w' => e = .returned (.int .i64 ((Dk.callE d : Nat) : Int)) ∧ Dk.RA S w' p (Dk.tick d) vF vD vS vC ∧ Dk.Off S w w' := by
  obtain ⟨_, _, _, _, _, c5, c6, c7⟩ := h.c
  have f7 := h.fz 7
  have HP := Lib.hid (h.put (d' := Dk.tick d) 7 (.int .i64 (((d.calls + 1 : Nat) : Nat) : Int)) (vF' := vF) (vD' := vD) (vS' := vS) (vC' := vC) (room := d.room) (halt := d.halt) (deny := d.deny) (calls := d.calls + 1) rfl rfl h.dir h.sure h.chg h.chgS rfl rfl rfl rfl rfl)
  have HO := Lib.hid (Dk.Off.set (S := S) (w := w) (i := 7) h.mine (.int .i64 (((d.calls + 1 : Nat) : Nat) : Int)))
  have HE : Hid (Dk.callE d = if 0 ≤ d.halt ∧ d.halt ≤ (d.calls : Int) then 11 else if (d.calls : Int) = d.deny then 9 else 0) := Lib.hid rfl
  have e1 : ((d.calls + 1 : Nat) : Int) = (d.calls : Int) + 1 := by omega
  rw [e1] at HP HO
  generalize Dk.callE d = E at HE ⊢
  generalize Dk.tick d = D at HP ⊢
  generalize d.halt = hl at c5 HE
  generalize d.deny = dn at c6 HE
  generalize d.calls = n at c7 HP HO HE hk e1
  have hn0 : (0 : Int) ≤ (n : Int) := by omega
  have hn1 : (n : Int) < 9223372036854775807 := by omega
  clear h hk e1
  by_cases h1 : 0 ≤ hl
  · have d1 : decide (hl ≥ 0) = true := by simpa using h1
    by_cases h2 : hl ≤ (n : Int)
    · have d2 : (n : Int) ≥ hl := h2
      have HX : Hid (E = 11) := Lib.hid (by rw [HE.out, if_pos ⟨h1, h2⟩])
      clear HE
      go_enter Try.func64, Try.ntmps64
      go_wp2
      go_ret
      exact ⟨by rw [HX.out]; rfl, HP.out, HO.out⟩
    · have d2 : ¬ (n : Int) ≥ hl := h2
      by_cases h3 : (n : Int) = dn
      · have HX : Hid (E = 9) := Lib.hid (by rw [HE.out, if_neg (fun h => h2 h.2), if_pos h3])
        have b3 : ((n : Int) == dn) = true := by rw [beq_iff_eq]; exact h3
        clear HE h3
        go_enter Try.func64, Try.ntmps64
        go_wp2
        go_ret
        exact ⟨by rw [HX.out]; rfl, HP.out, HO.out⟩
      · have HX : Hid (E = 0) := Lib.hid (by rw [HE.out, if_neg (fun h => h2 h.2), if_neg h3])
        have b3 : ((n : Int) == dn) = false := by rw [beq_eq_false_iff_ne]; exact h3
        clear HE h3
        go_enter Try.func64, Try.ntmps64
        go_wp2
        go_ret
        exact ⟨by rw [HX.out]; rfl, HP.out, HO.out⟩
  · have d1 : ¬ hl ≥ 0 := h1
    by_cases h3 : (n : Int) = dn
    · have HX : Hid (E = 9) := Lib.hid (by rw [HE.out, if_neg (fun h => h1 h.1), if_pos h3])
      have b3 : ((n : Int) == dn) = true := by rw [beq_iff_eq]; exact h3
      clear HE h3
      go_enter Try.func64, Try.ntmps64
      go_wp2
      go_ret
      exact ⟨by rw [HX.out]; rfl, HP.out, HO.out⟩
    · have HX : Hid (E = 0) := Lib.hid (by rw [HE.out, if_neg (fun h => h1 h.1), if_neg h3])
      have b3 : ((n : Int) == dn) = false := by rw [beq_eq_false_iff_ne]; exact h3
      clear HE h3
      go_enter Try.func64, Try.ntmps64
      go_wp2
      go_ret
      exact ⟨by rw [HX.out]; rfl, HP.out, HO.out⟩
end Go.Proofs.Ytfkdkdkdpenblaa

namespace Go.Proofs.Ytfkdkdkdpenblaa
open Go.RowKit
set_option maxHeartbeats 1000000 in
set_option maxRecDepth 100000 in
theorem Dk.rlater_c {S : Nat → Prop} {p : Nat} {d : Dk.D} {vF vD vS vC : Value} {w : World} (h : Dk.RA S w p d vF vD vS vC) (hk : d.calls ≤ 1000000) (n : Int) :
    Calls Try.prog 66 #[.pointer (some ⟨p, 0, none⟩), .int .i64 n] w fun e w' => e = .returned (.int .i64 (Dk.later d n)) ∧ w' = w := by
  obtain ⟨_, _, _, _, _, _, _, c7⟩ := h.c
  have HE : Hid (Dk.later d n = if n < 0 ∨ 1099511627776 < n then -1 else (d.calls : Int) + n) := Lib.hid rfl
  generalize Dk.later d n = E at HE ⊢
  generalize d.calls = c at c7 HE hk
  have hc0 : (0 : Int) ≤ (c : Int) := by omega
  have hc1 : (c : Int) ≤ 1000000 := by omega
  clear h hk
  by_cases h1 : n < 0
  · have HX : Hid (E = -1) := Lib.hid (by rw [HE.out, if_pos (.inl h1)])
    clear HE
    go_enter Try.func66, Try.ntmps66
    go_wp2
    go_ret
    exact ⟨by rw [HX.out]; rfl, rfl⟩
  · by_cases h2 : n > 1099511627776
    · have HX : Hid (E = -1) := Lib.hid (by rw [HE.out, if_pos (.inr h2)])
      clear HE
      go_enter Try.func66, Try.ntmps66
      go_wp2
      go_ret
      exact ⟨by rw [HX.out]; rfl, rfl⟩
    · have HX : Hid (E = (c : Int) + n) := Lib.hid (by rw [HE.out, if_neg (by omega)])
      have hn0 : 0 ≤ n := by omega
      have hn2 : n ≤ 1099511627776 := by omega
      clear HE
      go_enter Try.func66, Try.ntmps66
      go_wp2
      go_ret
      exact ⟨by rw [HX.out]; rfl, rfl⟩
set_option maxHeartbeats 1000000 in
set_option maxRecDepth 100000 in
theorem Dk.rstop_c {S : Nat → Prop} {p : Nat} {d : Dk.D} {vF vD vS vC : Value} {w : World} (h : Dk.RA S w p d vF vD vS vC) (hk : d.calls ≤ 1000000) (n : Int) :
    Calls Try.prog 45 #[.pointer (some ⟨p, 0, none⟩), .int .i64 n] w fun e w' => e = .returned (.tuple #[]) ∧ Dk.RA S w' p (Dk.stop d n) vF vD vS vC ∧ Dk.Off S w w' := by
  have cl := Dk.rlater_c h hk n
  obtain ⟨_, _, _, _, _, c5, _, _⟩ := h.c
  have f5 := h.fz 5
  have HP := Lib.hid (h.put (d' := Dk.stop d n) 5 (.int .i64 (Dk.later d n)) (vF' := vF) (vD' := vD) (vS' := vS) (vC' := vC) (room := d.room) (halt := Dk.later d n) (deny := d.deny) (calls := d.calls) rfl rfl h.dir h.sure h.chg h.chgS rfl rfl rfl rfl rfl)
  have HO := Lib.hid (Dk.Off.set (S := S) (w := w) (i := 5) h.mine (.int .i64 (Dk.later d n)))
  generalize Dk.stop d n = D at HP ⊢
  generalize Dk.later d n = x at cl HP HO
  clear h hk
  go_enter Try.func45, Try.ntmps45
  go_wp2_with fail
  with_reducible refine cl.mono ?_
  rintro e w1 ⟨rfl, h1⟩
  subst w1
  clear cl
  go_wp2
  go_end0
  exact ⟨rfl, HP.out, HO.out⟩
set_option maxHeartbeats 1000000 in
set_option maxRecDepth 100000 in
theorem Dk.rrefuse_c {S : Nat → Prop} {p : Nat} {d : Dk.D} {vF vD vS vC : Value} {w : World} (h : Dk.RA S w p d vF vD vS vC) (hk : d.calls ≤ 1000000) (n : Int) :
    Calls Try.prog 46 #[.pointer (some ⟨p, 0, none⟩), .int .i64 n] w fun e w' => e = .returned (.tuple #[]) ∧ Dk.RA S w' p (Dk.refuse d n) vF vD vS vC ∧ Dk.Off S w w' := by
  have cl := Dk.rlater_c h hk n
  obtain ⟨_, _, _, _, _, _, c6, _⟩ := h.c
  have f6 := h.fz 6
  have HP := Lib.hid (h.put (d' := Dk.refuse d n) 6 (.int .i64 (Dk.later d n)) (vF' := vF) (vD' := vD) (vS' := vS) (vC' := vC) (room := d.room) (halt := d.halt) (deny := Dk.later d n) (calls := d.calls) rfl rfl h.dir h.sure h.chg h.chgS rfl rfl rfl rfl rfl)
  have HO := Lib.hid (Dk.Off.set (S := S) (w := w) (i := 6) h.mine (.int .i64 (Dk.later d n)))
  generalize Dk.refuse d n = D at HP ⊢
  generalize Dk.later d n = x at cl HP HO
  clear h hk
  go_enter Try.func46, Try.ntmps46
  go_wp2_with fail
  with_reducible refine cl.mono ?_
  rintro e w1 ⟨rfl, h1⟩
  subst w1
  clear cl
  go_wp2
  go_end0
  exact ⟨rfl, HP.out, HO.out⟩
set_option maxHeartbeats 1000000 in
set_option maxRecDepth 100000 in
theorem Dk.rspace_c {S : Nat → Prop} {p : Nat} {d : Dk.D} {vF vD vS vC : Value} {w : World} (h : Dk.RA S w p d vF vD vS vC) (n : Int) :
    Calls Try.prog 44 #[.pointer (some ⟨p, 0, none⟩), .int .i64 n] w fun e w' => e = .returned (.tuple #[]) ∧ Dk.RA S w' p (Dk.space d n) vF vD vS vC ∧ Dk.Off S w w' := by
  obtain ⟨_, _, _, _, c4, _, _, _⟩ := h.c
  have f4 := h.fz 4
  have HP : Hid (∀ m, m = max n 0 → Dk.RA S (w.setCell ⟨p, 4, none⟩ (.int .i64 m)) p (Dk.space d n) vF vD vS vC ∧ Dk.Off S w (w.setCell ⟨p, 4, none⟩ (.int .i64 m))) := Lib.hid fun m hm => by
    subst hm
    exact ⟨h.put (d' := Dk.space d n) 4 (.int .i64 (max n 0)) (vF' := vF) (vD' := vD) (vS' := vS) (vC' := vC) (room := max n 0) (halt := d.halt) (deny := d.deny) (calls := d.calls) rfl rfl h.dir h.sure h.chg h.chgS rfl rfl rfl rfl rfl, Dk.Off.set h.mine _⟩
  generalize Dk.space d n = D at HP ⊢
  clear h
  go_enter Try.func44, Try.ntmps44
  go_wp2
  · go_end0
    exact ⟨rfl, HP.out 0 (by omega)⟩
  · go_end0
    exact ⟨rfl, HP.out n (by omega)⟩
end Go.Proofs.Ytfkdkdkdpenblaa

namespace Go.Proofs.Ytfkdkdkdpenblaa
open Go.RowKit
theorem Dk.kept_by_type {w w4 : World} {v v4 : Value} {e : TypeId} (g : Ty.Grew w w4 v v4) (hv : ∀ b, v.ownBlock = some b → ∃ cs, w.heap[b]? = some (.cells cs e (0, 0))) {b : Nat} {T : TypeId} {cs : Array Value} {fr : Nat × Nat}
    (hb : w.heap[b]? = some (.cells cs T fr)) (hT : T ≠ e) : w4.heap[b]? = w.heap[b]? := by
  have hlt : b < w.heap.size := lt_of_block hb
  refine g.by_.block b hlt fun e2 => ?_
  obtain ⟨cs2, h2⟩ := hv b e2.symm
  rw [hb] at h2
  simp only [Option.some.injEq, Obj.cells.injEq] at h2
  exact hT h2.2.1
/-- A change appended and stored. -/
theorem Dk.RA.chgPut {S S' : Nat → Prop} {w w4 : World} {p : Nat} {d : Dk.D} {vF vD vS vC v4 : Value} (h : Dk.RA S w p d vF vD vS vC) (g : Ty.Grew w w4 vC v4) {cs : List Dk.Ch} (o4 : Dk.Cown w4 v4 cs)
    (hs : ∀ b, S b → S' b) (ha : ∀ b, S' b → b < w4.heap.size) (h4 : ∀ b, v4.ownBlock = some b → S' b) :
    Dk.RA S' (w4.setCell ⟨p, 3, none⟩ v4) p { d with chg := cs } vF vD vS v4 := by
  have hk : ∀ {b : Nat} {T : TypeId} {cs : Array Value} {fr : Nat × Nat}, w.heap[b]? = some (.cells cs T fr) → T ≠ 88 → w4.heap[b]? = w.heap[b]? := fun hb hT => Dk.kept_by_type g h.chg.typed hb hT
  have hb4 := (hk h.blk (by decide)).trans h.blk
  have ho : ∀ b, b ≠ p → (w4.setCell ⟨p, 3, none⟩ v4).heap[b]? = w4.heap[b]? := fun b hb => Below.heap_setCell _ _ _ _ hb
  have hne : ∀ {b : Nat} {T : TypeId} {cs : Array Value} {fr : Nat × Nat}, w4.heap[b]? = some (.cells cs T fr) → T ≠ 67 → b ≠ p := fun hb hT e => by
    rw [e, hb4] at hb
    simp only [Option.some.injEq, Obj.cells.injEq] at hb
    exact hT hb.2.1.symm
  have hkk : ∀ {b : Nat} {T : TypeId} {cs : Array Value} {fr : Nat × Nat}, w.heap[b]? = some (.cells cs T fr) → T ≠ 88 → T ≠ 67 → (w4.setCell ⟨p, 3, none⟩ v4).heap[b]? = w.heap[b]? := fun hb hT hT2 =>
    (ho _ (hne ((hk hb hT).trans hb) hT2)).trans (hk hb hT)
  refine ⟨?_, ?_, fun b hb => hs b (h.filesS b hb), ?_, ?_, ?_, h4, hs p h.mine, fun b hb => by simpa using ha b hb⟩
  · rw [heap_setCell_same w4 p 3 _ _ v4 hb4]; rfl
  · exact h.files.other fun b cs _ hb => hkk hb (by decide) (by decide)
  · exact (h.dir.other fun b cs fr _ hb => hkk hb (by decide) (by decide)).imp hs
  · exact (h.sure.other fun b cs fr _ hb => hkk hb (by decide) (by decide)).imp hs
  · exact o4.other fun b cs _ hb => ho b (hne hb (by decide))
set_option maxHeartbeats 4000000 in
set_option maxRecDepth 100000 in
theorem Dk.rchange_c {S : Nat → Prop} {p : Nat} {d : Dk.D} {c : Dk.Ch} {vF vD vS vC : Value} {w : World} (h : Dk.RA S w p d vF vD vS vC) (hl : Dk.Short d.dir) (ha : c.a.length ≤ 1048576) (hb : c.b.length ≤ 1048576) (hcl : d.chg.length ≤ 1048576) :
    Calls Try.prog 65 #[.pointer (some ⟨p, 0, none⟩), .agg #[.string (Ty.S c.a), .string (Ty.S c.b), .int .i64 c.f]] w fun e w' => e = .returned (.tuple #[]) ∧ Dk.Did S w p (Dk.change d c) w' := by
  obtain ⟨wb, hwb⟩ : ∃ wb, wb = w.alloc (.cells #[.string (Ty.S c.a), .string (Ty.S c.b), .int .i64 c.f] 88) := ⟨_, rfl⟩
  have hb0 : Below w.heap.size w wb := by rw [hwb]; exact (Below.refl _ w).alloc (Nat.le_refl _) _
  have d0 : wb.cell? ⟨w.heap.size, 0, none⟩ = some (.string (Ty.S c.a)) := by rw [hwb]; exact Kn.cell_new w _ _ 0 _ rfl
  have d1 : wb.cell? ⟨w.heap.size, 1, none⟩ = some (.string (Ty.S c.b)) := by rw [hwb]; exact Kn.cell_new w _ _ 1 _ rfl
  have d2 : wb.cell? ⟨w.heap.size, 2, none⟩ = some (.int .i64 c.f) := by rw [hwb]; exact Kn.cell_new w _ _ 2 _ rfl
  have hB := h.kept hb0
  have CA : Hid (∀ W, Below wb.heap.size wb W → Calls Try.prog 67 #[vD, .agg #[.string (Ty.S c.a), .string (Ty.S c.b), .int .i64 c.f]] W fun e w' => ∃ u, e = .returned u ∧ Dk.Dat (fun b => S b ∨ W.heap.size ≤ b) w' u (Dk.apply d.dir c) ∧ Below W.heap.size W w') := Lib.hid fun W g => Dk.rapply_c vD d.dir c W (hB.dir.kept g) hl ha hb
  obtain ⟨_, c1, _, _, _⟩ := hB.c
  have f1 := hB.fz 1
  have HH := Lib.hid hB
  have HAL := Lib.hid h.alive
  have HCS : Hid (#[.string (Ty.S c.a), .string (Ty.S c.b), .int .i64 c.f] = (Dk.encC c).toArray) := Lib.hid rfl
  have HB0 := Lib.hid hb0
  generalize hsa : Ty.S c.a = sa at d0 hwb CA HCS ⊢
  generalize hsb : Ty.S c.b = sb at d1 hwb CA HCS ⊢
  have HD0 : Hid (Below wb.heap.size wb wb.drew) := Lib.hid (Bt.drewN_below wb 1)
  clear hB hb0 hl ha hb h
  go_enter Try.func65, Try.ntmps65
  go_wp2_with fail
  rw [← hwb]
  clear hwb hsa hsb
  go_region_law (first | (go_simp; go_at_call 67; (with_reducible refine (CA.out _ HD0.out).mono ?_); rintro e w2 ⟨u, rfl, hO2, g2⟩; have HR2 := Lib.hid (HH.out.kept (HD0.out.trans g2)); have HO2 := Lib.hid hO2; obtain ⟨ad, cp, rfl, _, _⟩ := hO2; have f1' := HR2.out.fz 1; have c1' := HR2.out.c.2.1))
  all_goals
    have hg2 : Below wb.heap.size wb w2 := HD0.out.trans g2
    have hwl := HB0.out.size
    have hw2 := hg2.size
    obtain ⟨u, hu⟩ : ∃ u, u = Value.slice ad (Dk.apply d.dir c).length cp := ⟨_, rfl⟩
    rw [← hu] at HO2 ⊢
    have hdd : Dk.Dat (Dk.More S w w2) w2 u (Dk.apply d.dir c) := (HO2.out.alive).imp fun b hb => by
      rcases hb with ⟨hb | hb, hlt⟩
      · exact .inl hb
      · exact .inr ⟨by have : wb.heap.size = wb.drew.heap.size := rfl; omega, hlt⟩
    have hm : Dk.RA (Dk.More S w w2) w2 p d vF vD vS vC := HR2.out.mono (fun b hb => .inl hb) (Dk.more_alive HAL.out (by omega))
    have h3 := hm.put (d' := { d with dir := Dk.apply d.dir c }) 1 u (vF' := vF) (vD' := u) (vS' := vS) (vC' := vC) (room := d.room) (halt := d.halt) (deny := d.deny) (calls := d.calls) rfl rfl hdd hm.sure hm.chg hm.chgS rfl rfl rfl rfl rfl
    have hpw : p < w.heap.size := HAL.out p HH.out.mine
    have hcell : ∀ i x, wb.cell? ⟨w.heap.size, i, none⟩ = some x → (w2.setCell ⟨p, 1, none⟩ u).cell? ⟨w.heap.size, i, none⟩ = some x := fun i x hx => by
      rw [World.cell?_of_block (Below.heap_setCell _ _ _ _ (show w.heap.size ≠ p by omega))]
      exact (hg2.cell (p := ⟨w.heap.size, i, none⟩) (World.block_lt_of_cell? wb _ hx)).trans hx
    have e0 := hcell 0 _ d0
    have e1 := hcell 1 _ d1
    have e2 := hcell 2 _ d2
    have hoff : Dk.Off S w (w2.setCell ⟨p, 1, none⟩ u) := (Dk.Off.of_below (HB0.out.trans (hg2.mono HB0.out.size))).trans (Dk.Off.set (.inl HH.out.mine) _)
    have hsz : (w2.setCell ⟨p, 1, none⟩ u).heap.size = w2.heap.size := by simp
    generalize w2.setCell ⟨p, 1, none⟩ u = w3 at h3 e0 e1 e2 hoff hsz ⊢
    have H3 := Lib.hid h3
    have HOFF := Lib.hid hoff
    obtain ⟨_, _, _, c3, _⟩ := h3.c
    have hC3 : Dk.Cown w3.drew vC d.chg := h3.chg
    have c3n : (w3.alloc (.cells #[.string sa, .string sb, .int .i64 c.f] 88)).cell? ⟨p, 3, none⟩ = some vC := (((Below.refl _ w3).alloc (Nat.le_refl _) _).cell (p := ⟨p, 3, none⟩) h3.lt).trans c3
    have HSZ := Lib.hid hsz
    clear hsz HO2 hdd hm HR2 g2 hg2 d0 d1 d2 c1 f1 c1' f1' CA hcell h3 hoff HD0 hu
    go_wp2_with fail
    go_region_law (first
      | (refine Dk.step_appendB 65 _ 40 Try.underlying65 Dk.infoC rfl (by decide) Dk.encC_len Dk.encC_one [c] (Nat.zero_le _) (World.ownsRow.alloc hC3 _) (by simp only [List.length_singleton]; omega) (by simp only [List.length_singleton]; omega) _ _ _ (by rfl) (by rfl) (by rfl) (by rfl) (Dk.src_cell (Dk.cell_new HCS.out)) ?_; intro v4 w4 o4 g4; have H4 := Lib.hid (And.intro o4 g4); obtain ⟨gg, cc, rfl, _, _⟩ := o4.form1; have f4 : w4.frozen? ⟨p, 3, none⟩ = false := frozen_of_row w4 p 3 _ _ ((Dk.kept_by_type (w := w3.drew) (g4.behind _) H3.out.chg.typed H3.out.blk (by decide)).trans H3.out.blk); have c4 : ∃ x, w4.cell? ⟨p, 3, none⟩ = some x := ⟨_, (cell_of_row w4 p 3 _ _ _ ((Dk.kept_by_type (w := w3.drew) (g4.behind _) H3.out.chg.typed H3.out.blk (by decide)).trans H3.out.blk)).trans rfl⟩; obtain ⟨x4, c4⟩ := c4))
    all_goals
      have HS5 : ∀ (w4 : World) (v4 : Value), Dk.Cown w4 v4 (d.chg ++ [c]) → Ty.Grew (w3.drew.alloc (.cells #[.string sa, .string sb, .int .i64 c.f] 88)) w4 vC v4 → Dk.Did S w p (Dk.change d c) (w4.setCell ⟨p, 3, none⟩ v4) := fun w4 v4 o4 g4 => by
        have hsz := HSZ.out
        have hsz4 : w3.heap.size ≤ w4.heap.size := by have := (g4.behind _).by_.size; exact this
        have hal : ∀ b, Dk.More S w w4 b → b < w4.heap.size := Dk.more_alive HAL.out (by omega)
        have hb4 : ∀ b, v4.ownBlock = some b → Dk.More S w w4 b := fun b hb => by
          have hlt := o4.lt b hb
          rcases (g4.behind _).own with e | ⟨k, e, hk⟩
          · rcases H3.out.chgS b (e ▸ hb) with h | h
            · exact .inl h
            · exact .inr ⟨h.1, hlt⟩
          · rw [hb] at e
            have : w3.heap.size ≤ b := by have := Option.some.inj e; rw [this]; exact hk
            exact .inr ⟨by omega, hlt⟩
        have hms : ∀ b, Dk.More S w w2 b → Dk.More S w w4 b := fun b hb => by
          rcases hb with h | h
          · exact .inl h
          · exact .inr ⟨h.1, by omega⟩
        have hra := Dk.RA.chgPut (w := w3.drew) (S := Dk.More S w w2) (S' := Dk.More S w w4) (d := { d with dir := Dk.apply d.dir c }) ⟨H3.out.blk, H3.out.files, H3.out.filesS, H3.out.dir, H3.out.sure, H3.out.chg, H3.out.chgS, H3.out.mine, H3.out.alive⟩ (g4.behind _) o4 hms hal hb4
        refine ⟨⟨_, _, _, _, hra.mono (fun b hb => ?_) (fun b hb => ?_)⟩, ?_⟩
        · rcases hb with h | h
          · exact .inl h
          · exact .inr ⟨h.1, by simpa using h.2⟩
        · have : (w4.setCell ⟨p, 3, none⟩ v4).heap.size = w4.heap.size := by simp
          rcases hb with h | h
          · have := hal b (.inl h); omega
          · have := h.2; omega
        · have ho1 : Dk.Off (Dk.More S w w3) w3 w4 := Dk.Off.grew (g4.behind _).drawn fun b hb => by
            rcases H3.out.chgS b hb with h | h
            · exact .inl h
            · exact .inr ⟨h.1, by omega⟩
          have ho2 := HOFF.out.trans ho1
          exact ho2.trans (Dk.Off.set (.inl HH.out.mine) _)
      have HF := Lib.hid (HS5 w4 _ H4.out.1 H4.out.2)
      clear HS5 H4
      go_wp2
      go_end0
      exact ⟨rfl, HF.out⟩
end Go.Proofs.Ytfkdkdkdpenblaa
