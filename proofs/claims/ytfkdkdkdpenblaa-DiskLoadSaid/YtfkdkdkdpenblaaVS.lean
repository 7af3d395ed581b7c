/-
  The developers' alarms; a call that counts; the calls that turn a number.
  The developers' disk: New, Space, Stop, Refuse, Held.
  The developers' disk: which names are valid; a call on a file; reading; sorted names.
  The developers' disk: its names, sorted.
-/
import Derived.Test.YtfkdkdkdpenblaaZR
import Derived.Deep.RegionHeld3
import Derived.Deep.RegionLaw
import Derived.Laws.ResultCell
import Derived.Test.YtfkdkdkdpenblaaZL
import Derived.Laws.Pointers
import Derived.Test.YtfkdkdkdpenblaaLay
namespace Go.Proofs.Ytfkdkdkdpenblaa
open Go.RowKit Go.Maps
/-- Only the block p turned; what it holds now. -/
structure Dk.Row (w w' : World) (p : Nat) (cs : Array Value) (T : TypeId) : Prop where
  at_ : w'.heap[p]? = some (.cells cs T (0, 0))
  size : w'.heap.size = w.heap.size
  other : ∀ b, b ≠ p → w'.heap[b]? = w.heap[b]?
  os : w'.os = w.os
  tape : w'.tape = w.tape
  output : w'.output = w.output
theorem Dk.Row.set {w w' : World} {p : Nat} {cs cs' : Array Value} {T : TypeId} (h : Dk.Row w w' p cs T) (i : Nat) (u : Value) (e : cs.setIfInBounds i u = cs') : Dk.Row w (w'.setCell ⟨p, i, none⟩ u) p cs' T :=
  ⟨by rw [heap_setCell_same w' p i _ _ u h.at_, e], by rw [← h.size]; simp, fun b hb => (Below.heap_setCell _ _ _ _ hb).trans (h.other b hb), h.os, h.tape, h.output⟩
theorem Dk.Row.refl {w : World} {p : Nat} {cs : Array Value} {T : TypeId} (h : w.heap[p]? = some (.cells cs T (0, 0))) : Dk.Row w w p cs T := ⟨h, rfl, fun _ _ => rfl, rfl, rfl, rfl⟩
theorem Dk.Row.trans {w w' w2 : World} {p : Nat} {cs cs' : Array Value} {T T' : TypeId} (h : Dk.Row w w' p cs T) (g : Dk.Row w' w2 p cs' T') : Dk.Row w w2 p cs' T' :=
  ⟨g.at_, g.size.trans h.size, fun b hb => (g.other b hb).trans (h.other b hb), g.os.trans h.os, g.tape.trans h.tape, g.output.trans h.output⟩
theorem Dk.Row.drawn {w w' : World} {p : Nat} {cs : Array Value} {T : TypeId} (h : Dk.Row w.drew w' p cs T) : Dk.Row w w' p cs T := ⟨h.at_, h.size, h.other, h.os, h.tape, h.output⟩
theorem Dk.Row.off {S : Nat → Prop} {w w' : World} {p : Nat} {cs : Array Value} {T : TypeId} (h : Dk.Row w w' p cs T) (hp : S p) : Dk.Off S w w' :=
  ⟨h.os, h.tape, h.output, by rw [h.size]; exact Nat.le_refl _, fun k _ hk => h.other k (fun e => hk (by rw [e]; exact hp))⟩
set_option maxHeartbeats 1000000 in
set_option maxRecDepth 100000 in
/-- count: an alarm in the cells o, o + 1 of the block p. -/
theorem Dk.count_c (w : World) (p o : Nat) (cs : Array Value) (T : TypeId) (s : Bool) (a : Int) (hb : w.heap[p]? = some (.cells cs T (0, 0))) (hs : cs[o]? = some (.bool s)) (ha : cs[o + 1]? = some (.int .i64 a)) (h0 : -9223372036854775808 ≤ a) (h1 : a ≤ 9223372036854775807) :
    Calls Try.prog 71 #[.pointer (some ⟨p, o, none⟩)] w fun e w' => e = .returned (.bool (if 0 < a then false else s)) ∧ Dk.Row w w' p (cs.setIfInBounds (o + 1) (.int .i64 (if 0 < a then a - 1 else a))) T := by
  have c0 : w.cell? ⟨p, o, none⟩ = some (.bool s) := by rw [cell_of_row w p _ _ _ _ hb, hs]
  have c1 : w.cell? ⟨p, o + 1, none⟩ = some (.int .i64 a) := by rw [cell_of_row w p _ _ _ _ hb, ha]
  have f1 : w.frozen? ⟨p, o + 1, none⟩ = false := frozen_of_row w p _ _ _ hb
  have HR : Hid (∀ x : Int, Dk.Row w (w.setCell ⟨p, o + 1, none⟩ (.int .i64 x)) p (cs.setIfInBounds (o + 1) (.int .i64 x)) T) := Lib.hid fun x => (Dk.Row.refl hb).set _ _ rfl
  have HS : Hid (Dk.Row w w p (cs.setIfInBounds (o + 1) (.int .i64 a)) T) := Lib.hid (by
    have e : cs.setIfInBounds (o + 1) (.int .i64 a) = cs := by
      apply Array.ext_getElem?
      intro i
      rw [Array.getElem?_setIfInBounds]
      by_cases e : o + 1 = i
      · rw [if_pos e]
        rw [← e, ha]
        split
        · rfl
        · next h => exact absurd (Array.getElem?_eq_some_iff.1 ha).1 h
      · rw [if_neg e]
    rw [e]
    exact Dk.Row.refl hb)
  clear hb hs ha
  by_cases hp : 0 < a
  · have hp' : a > 0 := hp
    have hw : IntKind.i64.wrap (a - 1) = a - 1 := by rw [IntKind.wrap_i64]; omega
    go_enter Try.func71, Try.ntmps71
    go_wp2
    go_ret
    exact ⟨rfl, HR.out _⟩
  · have hp' : ¬ a > 0 := hp
    go_enter Try.func71, Try.ntmps71
    go_wp2
    go_ret
    exact ⟨rfl, HS.out⟩
section
variable {m : Bool} {S S' : Nat → Prop} {w w' : World} {p : Nat} {d d' : Dk.D} {q : Nat → Nat} {vb : Nat → Value} {vs : List Dk.Cls} {vN vD vP : Value} {ss rs : Bool} {sa ra : Int}
theorem Dk.AStop.tick (h : Dk.AStop d ss sa) (hk : d.calls ≤ 1000000) : Dk.AStop (Dk.tick d) ss (if 0 < sa then sa - 1 else sa) := by
  unfold Dk.AStop at h ⊢
  have e1 : (Dk.tick d).halt = d.halt := rfl
  have e2 : ((Dk.tick d).calls : Int) = (d.calls : Int) + 1 := by show ((d.calls + 1 : Nat) : Int) = _; omega
  rw [e1, e2]
  obtain ⟨h0, h1, h2⟩ := h
  by_cases hp : 0 < sa
  · rw [if_pos hp]
    refine ⟨by omega, by omega, ?_⟩
    rcases h2 with h | h | h
    · omega
    · exact .inr (.inl ⟨h.1, by omega, h.2.2⟩)
    · exact .inr (.inr ⟨h.1, h.2.1, by omega⟩)
  · rw [if_neg hp]
    refine ⟨h0, h1, ?_⟩
    rcases h2 with h | h | h
    · exact .inl h
    · omega
    · exact .inr (.inr ⟨h.1, h.2.1, by omega⟩)
theorem Dk.AStop.says (h : Dk.AStop d ss sa) (hk : d.calls ≤ 1000000) : (if 0 < sa then false else ss) = decide (0 ≤ d.halt ∧ d.halt ≤ (d.calls : Int)) := by
  unfold Dk.AStop at h
  obtain ⟨h0, h1, h2⟩ := h
  by_cases hp : 0 < sa
  · rw [if_pos hp]
    symm
    rw [decide_eq_false_iff_not]
    rcases h2 with h | h | h <;> omega
  · rw [if_neg hp]
    rcases h2 with h | h | h
    · rw [h.1]; symm; rw [decide_eq_false_iff_not]; omega
    · omega
    · rw [h.1]; symm; rw [decide_eq_true_eq]; omega
theorem Dk.ARef.says (h : Dk.ARef d rs ra) (hk : d.calls ≤ 1000000) : (if 0 < ra then false else rs) = decide ((d.calls : Int) = d.deny) := by
  unfold Dk.ARef at h
  obtain ⟨h0, h1, h2⟩ := h
  by_cases hp : 0 < ra
  · rw [if_pos hp]
    symm
    rw [decide_eq_false_iff_not]
    rcases h2 with h | h | h <;> omega
  · rw [if_neg hp]
    rcases h2 with h | h | h
    · rw [h.1]; symm; rw [decide_eq_false_iff_not]; omega
    · omega
    · rw [h.1]; symm; rw [decide_eq_true_eq]; omega
theorem Dk.ARef.tick (h : Dk.ARef d rs ra) (hk : d.calls ≤ 1000000) (hn : (d.calls : Int) ≠ d.deny) : Dk.ARef (Dk.tick d) rs (if 0 < ra then ra - 1 else ra) := by
  unfold Dk.ARef at h ⊢
  have e1 : (Dk.tick d).deny = d.deny := rfl
  have e2 : ((Dk.tick d).calls : Int) = (d.calls : Int) + 1 := by show ((d.calls + 1 : Nat) : Int) = _; omega
  rw [e1, e2]
  obtain ⟨h0, h1, h2⟩ := h
  by_cases hp : 0 < ra
  · rw [if_pos hp]
    refine ⟨by omega, by omega, ?_⟩
    rcases h2 with h | h | h
    · omega
    · exact .inr (.inl ⟨h.1, by omega, by omega⟩)
    · exact .inr (.inr ⟨h.1, by omega, by omega⟩)
  · rw [if_neg hp]
    refine ⟨h0, h1, ?_⟩
    rcases h2 with h | h | h
    · exact .inl ⟨h.1, h.2.1, by omega⟩
    · omega
    · omega
theorem Dk.ARef.reset (hn : (d.calls : Int) = d.deny) : Dk.ARef (Dk.tick d) false 0 := by
  unfold Dk.ARef
  have e1 : (Dk.tick d).deny = d.deny := rfl
  have e2 : ((Dk.tick d).calls : Int) = (d.calls : Int) + 1 := by show ((d.calls + 1 : Nat) : Int) = _; omega
  rw [e1, e2]
  exact ⟨by omega, by omega, .inl ⟨rfl, by omega, by omega⟩⟩
theorem Dk.PA.row (h : Dk.PA m S w p d q vb vs vN vD vP ss sa rs ra) {vN' vD' vP' : Value} {vs' : List Dk.Cls} {ss' rs' : Bool} {sa' ra' : Int}
    (hr : Dk.Row w w' p (Dk.pcells vN' vD' vP' d'.room (Dk.held d' : Int) ss' sa' rs' ra') 62) (ef : d'.files = d.files)
    (hd : Dk.PDirs S w q vN' vD' d'.dir d'.sure) (hown : Dk.POwn w vP' vs') (hownS : ∀ b, vP'.ownBlock = some b → S b) (hchg : Dk.PCs S w q d.files.length vs' d'.chg) (hs : Dk.AStop d' ss' sa') (hr2 : Dk.ARef d' rs' ra') (hmade : vN' = .map none → vs' = []) :
    Dk.PA m S w' p d' q vb vs' vN' vD' vP' ss' sa' rs' ra' := h.put hr.size hr.at_ hr.other ef hd hown hownS hchg hs hr2 hmade
end
/-- A call was counted. -/
def Dk.Ticked (m : Bool) (S : Nat → Prop) (w : World) (p : Nat) (d : Dk.D) (q : Nat → Nat) (vb : Nat → Value) (vs : List Dk.Cls) (vN vD vP : Value) (w' : World) : Prop :=
  ∃ ss sa rs ra, Dk.PA m S w' p (Dk.tick d) q vb vs vN vD vP ss sa rs ra ∧ Dk.Row w w' p (Dk.pcells vN vD vP d.room (Dk.held d : Int) ss sa rs ra) 62
set_option maxHeartbeats 2000000 in
set_option maxRecDepth 100000 in
theorem Dk.pcall_c {m : Bool} {S : Nat → Prop} {w : World} {p : Nat} {d : Dk.D} {q : Nat → Nat} {vb : Nat → Value} {vs : List Dk.Cls} {vN vD vP : Value} {ss rs : Bool} {sa ra : Int} (h : Dk.PA m S w p d q vb vs vN vD vP ss sa rs ra) (hk : d.calls ≤ 1000000) :
    Calls Try.prog 55 #[.pointer (some ⟨p, 0, none⟩)] w fun e w' => e = .returned (.int .i64 ((Dk.callE d : Nat) : Int)) ∧
      Dk.Ticked m S w p d q vb vs vN vD vP w' := by
  have HH := Lib.hid h
  have hs1 := h.stop.says hk
  have hr1 := h.ref.says hk
  have C1 : Hid (Calls Try.prog 71 #[.pointer (some ⟨p, 5, none⟩)] w.drew fun e w' => e = .returned (.bool (decide (0 ≤ d.halt ∧ d.halt ≤ (d.calls : Int)))) ∧ Dk.Row w w' p (Dk.pcells vN vD vP d.room (Dk.held d : Int) ss (if 0 < sa then sa - 1 else sa) rs ra) 62) := Lib.hid (by
    have := Dk.count_c w.drew p 5 _ _ ss sa h.blk rfl rfl h.stop.1 h.stop.2.1
    rw [hs1] at this
    refine this.mono ?_
    rintro e w' ⟨he, hr⟩
    exact ⟨he, hr.drawn⟩)
  have C2 : Hid (∀ w1, Dk.Row w w1 p (Dk.pcells vN vD vP d.room (Dk.held d : Int) ss (if 0 < sa then sa - 1 else sa) rs ra) 62 → Calls Try.prog 71 #[.pointer (some ⟨p, 7, none⟩)] w1 fun e w' => e = .returned (.bool (decide ((d.calls : Int) = d.deny))) ∧
      Dk.Row w w' p (Dk.pcells vN vD vP d.room (Dk.held d : Int) ss (if 0 < sa then sa - 1 else sa) rs (if 0 < ra then ra - 1 else ra)) 62) := Lib.hid fun w1 hrow => by
    have := Dk.count_c w1 p 7 _ _ rs ra hrow.at_ rfl rfl h.ref.1 h.ref.2.1
    rw [hr1] at this
    refine this.mono ?_
    rintro e w' ⟨he, hr⟩
    exact ⟨he, hrow.trans hr⟩
  have HF : Hid (∀ (rs' : Bool) (ra' : Int) (w' : World), Dk.Row w w' p (Dk.pcells vN vD vP d.room (Dk.held d : Int) ss (if 0 < sa then sa - 1 else sa) rs' ra') 62 → Dk.ARef (Dk.tick d) rs' ra' → Dk.PA m S w' p (Dk.tick d) q vb vs vN vD vP ss (if 0 < sa then sa - 1 else sa) rs' ra') := Lib.hid fun rs' ra' w' hrow hra =>
    HH.out.row hrow rfl HH.out.dirs HH.out.own HH.out.ownS HH.out.chg (HH.out.stop.tick hk) hra HH.out.made
  have HT : Hid ((d.calls : Int) ≠ d.deny → Dk.ARef (Dk.tick d) rs (if 0 < ra then ra - 1 else ra)) := Lib.hid fun hn => HH.out.ref.tick hk hn
  have HZ : Hid ((d.calls : Int) = d.deny → Dk.ARef (Dk.tick d) false 0) := Lib.hid Dk.ARef.reset
  have HE : Hid (Dk.callE d = if decide (0 ≤ d.halt ∧ d.halt ≤ (d.calls : Int)) = true then 11 else if decide ((d.calls : Int) = d.deny) = true then 9 else 0) := Lib.hid (by unfold Dk.callE; simp only [decide_eq_true_eq])
  have HD : Hid ((decide ((d.calls : Int) = d.deny) = true → (d.calls : Int) = d.deny) ∧ (decide ((d.calls : Int) = d.deny) = false → (d.calls : Int) ≠ d.deny)) := Lib.hid ⟨fun e => by simpa using e, fun e => by simpa using e⟩
  generalize (if 0 < sa then sa - 1 else sa) = sa' at C1 C2 HF
  generalize (if 0 < ra then ra - 1 else ra) = ra' at C2 HT
  generalize decide (0 ≤ d.halt ∧ d.halt ≤ (d.calls : Int)) = st at C1 HE
  generalize decide ((d.calls : Int) = d.deny) = rf at C2 HE HD
  have HW2 : Hid (∀ w2, Dk.Row w w2 p (Dk.pcells vN vD vP d.room (Dk.held d : Int) ss sa' rs ra') 62 → w2.cell? ⟨p, 7, none⟩ = some (.bool rs) ∧ w2.cell? ⟨p, 8, none⟩ = some (.int .i64 ra') ∧ w2.frozen? ⟨p, 7, none⟩ = false ∧ w2.frozen? ⟨p, 8, none⟩ = false) := Lib.hid fun w2 hr =>
    ⟨by rw [cell_of_row w2 p _ _ _ _ hr.at_]; rfl, by rw [cell_of_row w2 p _ _ _ _ hr.at_]; rfl, frozen_of_row w2 p _ _ _ hr.at_, frozen_of_row w2 p _ _ _ hr.at_⟩
  clear hs1 hr1 h
  go_enter Try.func55, Try.ntmps55
  go_wp2_with fail
  go_region_law (first
    | (go_simp; go_at_call 71; (with_reducible refine C1.out.mono ?_); rintro e w1 ⟨rfl, r1⟩)
    | (go_simp; go_at_call 71; (with_reducible refine (C2.out _ r1).mono ?_); rintro e w2 ⟨rfl, r2⟩))
  all_goals
    clear C1 C2 r1
    obtain ⟨x7, x8, y7, y8⟩ := HW2.out _ r2
    have HR2 := Lib.hid r2
    clear r2 HW2
    cases rf <;> cases st
    · go_wp2
      go_ret
      exact ⟨by rw [HE.out]; rfl, _, _, _, _, HF.out _ _ _ HR2.out (HT.out (HD.out.2 (by trivial))), HR2.out⟩
    · go_wp2
      go_ret
      exact ⟨by rw [HE.out]; rfl, _, _, _, _, HF.out _ _ _ HR2.out (HT.out (HD.out.2 (by trivial))), HR2.out⟩
    · go_wp2
      go_ret
      have hr := (HR2.out.set 7 (.bool false) rfl).set 8 (.int .i64 0) rfl
      exact ⟨by rw [HE.out]; rfl, _, _, _, _, HF.out _ _ _ hr (HZ.out (HD.out.1 (by trivial))), hr⟩
    · go_wp2
      go_ret
      have hr := (HR2.out.set 7 (.bool false) rfl).set 8 (.int .i64 0) rfl
      exact ⟨by rw [HE.out]; rfl, _, _, _, _, HF.out _ _ _ hr (HZ.out (HD.out.1 (by trivial))), hr⟩
section
variable {m : Bool} {S : Nat → Prop} {w : World} {p : Nat} {d : Dk.D}
/-- The number of a later call. -/
theorem Dk.AStop.at_ (n : Int) (hn : Ty.I64 n) : Dk.AStop (Dk.stop d n) (decide (0 ≤ n)) n := by
  unfold Dk.AStop Dk.stop Dk.later
  refine ⟨hn.1, hn.2, ?_⟩
  by_cases h0 : 0 ≤ n
  · simp only [decide_eq_true h0]
    by_cases h1 : 1099511627776 < n
    · refine .inr (.inl ⟨by trivial, ?_, ?_⟩)
      · show 1099511627776 < n + (d.calls : Int); omega
      · rw [if_pos (.inr h1)]; decide
    · refine .inr (.inr ⟨by trivial, ?_, ?_⟩)
      · rw [if_neg (by omega)]; omega
      · rw [if_neg (by omega)]
        show n = max ((d.calls : Int) + n - (d.calls : Int)) 0
        omega
  · simp only [decide_eq_false h0]
    refine .inl ⟨by trivial, by omega, ?_⟩
    rw [if_pos (.inl (by omega))]; decide
theorem Dk.ARef.at_ (n : Int) (hn : Ty.I64 n) : Dk.ARef (Dk.refuse d n) (decide (0 ≤ n)) n := by
  unfold Dk.ARef Dk.refuse Dk.later
  refine ⟨hn.1, hn.2, ?_⟩
  by_cases h0 : 0 ≤ n
  · simp only [decide_eq_true h0]
    by_cases h1 : 1099511627776 < n
    · refine .inr (.inl ⟨by trivial, ?_, ?_⟩)
      · show 1099511627776 < n + (d.calls : Int); omega
      · rw [if_pos (.inr h1)]
        show (-1 : Int) < (d.calls : Int); omega
    · refine .inr (.inr ⟨by trivial, h0, ?_⟩)
      rw [if_neg (by omega)]
  · simp only [decide_eq_false h0]
    refine .inl ⟨by trivial, by omega, ?_⟩
    rw [if_pos (.inl (by omega))]
    show (-1 : Int) < (d.calls : Int); omega
end
/-- A function's one result that lies in a cell. -/
theorem Dk.results_cell {fn : Func} {p : Tmp} {ty : TypeId} (h : fn.results = #[.cell p ty]) (tmps : Array Value) (P : Program) (w : World) :
    (results fn tmps).run P w = ((asAddr (tmps.getD p undef)).run P w).andThen fun a w1 => (loadVar ty a).run P w1 := by
  simp only [results, h]
  simp [Sem.run_bind, Result.andThen]
set_option maxRecDepth 100000 in
theorem Dk.alarm_c (n : Int) (w : World) : Calls Try.prog 63 #[.int .i64 n] w fun e w' => e = .returned (.agg #[.bool (decide (0 ≤ n)), .int .i64 n]) ∧ Below w.heap.size w w' := by
  go_enter Try.func63, Try.ntmps63
  go_wp2
  (try simp only [Exit.inBlock, Exit.then])
  refine bodyPost_ret (v := .agg #[.bool (decide (0 ≤ n)), .int .i64 n]) ?_ rfl ⟨rfl, (Below.refl _ w).alloc (Nat.le_refl _) _⟩
  rw [Dk.results_cell rfl]
  go_simp
end Go.Proofs.Ytfkdkdkdpenblaa

namespace Go.Proofs.Ytfkdkdkdpenblaa
open Go.RowKit Go.Maps
section
variable {m : Bool} {S S' : Nat → Prop} {w w' : World} {p : Nat} {d d' : Dk.D} {q : Nat → Nat} {vb : Nat → Value} {vs : List Dk.Cls} {vN vD vP : Value} {ss rs : Bool} {sa ra : Int}
theorem Dk.PDidM.of (h : Dk.PAtM m S w' p d') (g : Dk.Off S w w') : Dk.PDidM m S w p d' w' := ⟨h.mono (fun _ hb => .inl hb) (fun b hb => by
  rcases hb with hb | hb
  · exact h.alive b hb
  · exact hb.2), g⟩
theorem Dk.PDidM.then' {w1 w2 : World} {d1 d2 : Dk.D} (h : Dk.PDidM m S w p d1 w1) (g : Dk.PDidM m (Dk.More S w w1) w1 p d2 w2) (ha : ∀ b, S b → b < w.heap.size) : Dk.PDidM m S w p d2 w2 := by
  have hs := Nat.le_trans h.2.size g.2.size
  exact ⟨g.1.mono (Dk.more_more h.2.size g.2.size) (Dk.more_alive ha hs), h.2.trans g.2⟩
theorem Dk.PA.at_ (h : Dk.PA m S w p d q vb vs vN vD vP ss sa rs ra) : Dk.PAtM m S w p d := ⟨_, _, _, _, _, _, _, _, _, _, h⟩
theorem Dk.PA.didRow (h : Dk.PA m S w' p d' q vb vs vN vD vP ss sa rs ra) {cs : Array Value} {T : TypeId} (hr : Dk.Row w w' p cs T) : Dk.PDidM m S w p d' w' := Dk.PDidM.of h.at_ (hr.off h.mine)
end
set_option maxHeartbeats 1000000 in
set_option maxRecDepth 100000 in
theorem Dk.pspaceM_c {m : Bool} {S : Nat → Prop} {p : Nat} {d : Dk.D} {w : World} (h : Dk.PAtM m S w p d) (n : Int) :
    Calls Try.prog 27 #[.pointer (some ⟨p, 0, none⟩), .int .i64 n] w fun e w' => e = .returned (.tuple #[]) ∧ Dk.PDidM m S w p (Dk.space d n) w' := by
  obtain ⟨q, vb, vs, vN, vD, vP, ss, sa, rs, ra, h⟩ := h
  have f3 := h.fz 3
  obtain ⟨_, _, _, c3, _⟩ := h.c
  have HR : Hid (∀ x : Int, x = max n 0 → Dk.PDidM m S w p (Dk.space d n) (w.setCell ⟨p, 3, none⟩ (.int .i64 x))) := Lib.hid fun x hx => by
    have hr : Dk.Row w (w.setCell ⟨p, 3, none⟩ (.int .i64 x)) p (Dk.pcells vN vD vP (Dk.space d n).room (Dk.held (Dk.space d n) : Int) ss sa rs ra) 62 := (Dk.Row.refl h.blk).set 3 (.int .i64 x) (by rw [hx]; rfl)
    exact (h.row (d' := Dk.space d n) hr rfl h.dirs h.own h.ownS h.chg h.stop h.ref h.made).didRow hr
  clear h
  go_enter Try.func27, Try.ntmps27
  go_wp2
  all_goals
    go_end0
    exact ⟨rfl, HR.out _ (by omega)⟩
set_option maxHeartbeats 1000000 in
set_option maxRecDepth 100000 in
theorem Dk.pstopM_c {m : Bool} {S : Nat → Prop} {p : Nat} {d : Dk.D} {w : World} (h : Dk.PAtM m S w p d) (n : Int) (hn : Ty.I64 n) :
    Calls Try.prog 36 #[.pointer (some ⟨p, 0, none⟩), .int .i64 n] w fun e w' => e = .returned (.tuple #[]) ∧ Dk.PDidM m S w p (Dk.stop d n) w' := by
  obtain ⟨q, vb, vs, vN, vD, vP, ss, sa, rs, ra, h⟩ := h
  have ca := Dk.alarm_c n w
  have HA := Lib.hid h.alive
  have HR : Hid (∀ w1, Below w.heap.size w w1 → (w1.cell? ⟨p, 5, none⟩ = some (.bool ss) ∧ w1.cell? ⟨p, 6, none⟩ = some (.int .i64 sa) ∧ w1.frozen? ⟨p, 5, none⟩ = false ∧ w1.frozen? ⟨p, 6, none⟩ = false) ∧
      Dk.PDidM m S w p (Dk.stop d n) ((w1.setCell ⟨p, 5, none⟩ (.bool (decide (0 ≤ n)))).setCell ⟨p, 6, none⟩ (.int .i64 n))) := Lib.hid fun w1 g => by
    have h1 := h.same g.size fun b hb => g.block b (h.alive b hb)
    obtain ⟨_, _, _, _, _, c5, c6, _, _⟩ := h1.c
    refine ⟨⟨c5, c6, h1.fz 5, h1.fz 6⟩, ?_⟩
    have hr : Dk.Row w1 ((w1.setCell ⟨p, 5, none⟩ (.bool (decide (0 ≤ n)))).setCell ⟨p, 6, none⟩ (.int .i64 n)) p (Dk.pcells vN vD vP (Dk.stop d n).room (Dk.held (Dk.stop d n) : Int) (decide (0 ≤ n)) n rs ra) 62 :=
      ((Dk.Row.refl h1.blk).set 5 (.bool (decide (0 ≤ n))) rfl).set 6 (.int .i64 n) rfl
    have hd := (h1.row (d' := Dk.stop d n) hr rfl h1.dirs h1.own h1.ownS h1.chg (Dk.AStop.at_ n hn) h1.ref h1.made).didRow hr
    exact (Dk.PDidM.of (w := w) h1.at_ (Dk.Off.of_below g)).then' ⟨hd.1.mono (fun b hb => by
      rcases hb with hb | hb
      · exact .inl (.inl hb)
      · exact .inr hb) (Dk.more_alive (Dk.more_alive h.alive g.size) hd.2.size), ⟨hd.2.os, hd.2.tape, hd.2.output, hd.2.size, fun k hk hn => hd.2.block k hk fun hs => hn (.inl hs)⟩⟩ h.alive
  clear h HA
  go_enter Try.func36, Try.ntmps36
  go_wp2_with fail
  with_reducible refine ca.mono ?_
  rintro e w1 ⟨rfl, g⟩
  obtain ⟨⟨c5, c6, f5, f6⟩, hd⟩ := HR.out w1 g
  have HD := Lib.hid hd
  clear ca g hd HR
  go_wp2
  go_end0
  exact ⟨rfl, HD.out⟩
set_option maxHeartbeats 1000000 in
set_option maxRecDepth 100000 in
theorem Dk.prefuseM_c {m : Bool} {S : Nat → Prop} {p : Nat} {d : Dk.D} {w : World} (h : Dk.PAtM m S w p d) (n : Int) (hn : Ty.I64 n) :
    Calls Try.prog 37 #[.pointer (some ⟨p, 0, none⟩), .int .i64 n] w fun e w' => e = .returned (.tuple #[]) ∧ Dk.PDidM m S w p (Dk.refuse d n) w' := by
  obtain ⟨q, vb, vs, vN, vD, vP, ss, sa, rs, ra, h⟩ := h
  have ca := Dk.alarm_c n w
  have HR : Hid (∀ w1, Below w.heap.size w w1 → (w1.cell? ⟨p, 7, none⟩ = some (.bool rs) ∧ w1.cell? ⟨p, 8, none⟩ = some (.int .i64 ra) ∧ w1.frozen? ⟨p, 7, none⟩ = false ∧ w1.frozen? ⟨p, 8, none⟩ = false) ∧
      Dk.PDidM m S w p (Dk.refuse d n) ((w1.setCell ⟨p, 7, none⟩ (.bool (decide (0 ≤ n)))).setCell ⟨p, 8, none⟩ (.int .i64 n))) := Lib.hid fun w1 g => by
    have h1 := h.same g.size fun b hb => g.block b (h.alive b hb)
    obtain ⟨_, _, _, _, _, _, _, c5, c6⟩ := h1.c
    refine ⟨⟨c5, c6, h1.fz 7, h1.fz 8⟩, ?_⟩
    have hr : Dk.Row w1 ((w1.setCell ⟨p, 7, none⟩ (.bool (decide (0 ≤ n)))).setCell ⟨p, 8, none⟩ (.int .i64 n)) p (Dk.pcells vN vD vP (Dk.refuse d n).room (Dk.held (Dk.refuse d n) : Int) ss sa (decide (0 ≤ n)) n) 62 :=
      ((Dk.Row.refl h1.blk).set 7 (.bool (decide (0 ≤ n))) rfl).set 8 (.int .i64 n) rfl
    have hd := (h1.row (d' := Dk.refuse d n) hr rfl h1.dirs h1.own h1.ownS h1.chg h1.stop (Dk.ARef.at_ n hn) h1.made).didRow hr
    exact (Dk.PDidM.of (w := w) h1.at_ (Dk.Off.of_below g)).then' ⟨hd.1.mono (fun b hb => by
      rcases hb with hb | hb
      · exact .inl (.inl hb)
      · exact .inr hb) (Dk.more_alive (Dk.more_alive h.alive g.size) hd.2.size), ⟨hd.2.os, hd.2.tape, hd.2.output, hd.2.size, fun k hk hn => hd.2.block k hk fun hs => hn (.inl hs)⟩⟩ h.alive
  clear h
  go_enter Try.func37, Try.ntmps37
  go_wp2_with fail
  with_reducible refine ca.mono ?_
  rintro e w1 ⟨rfl, g⟩
  obtain ⟨⟨c5, c6, f5, f6⟩, hd⟩ := HR.out w1 g
  have HD := Lib.hid hd
  clear ca g hd HR
  go_wp2
  go_end0
  exact ⟨rfl, HD.out⟩
set_option maxRecDepth 100000 in
theorem Dk.pheldM_c {m : Bool} {S : Nat → Prop} {p : Nat} {d : Dk.D} {w : World} (h : Dk.PAtM m S w p d) :
    Calls Try.prog 17 #[.pointer (some ⟨p, 0, none⟩)] w fun e w' => e = .returned (.int .i64 ((Dk.held d : Nat) : Int)) ∧ Below w.heap.size w w' := by
  obtain ⟨q, vb, vs, vN, vD, vP, ss, sa, rs, ra, h⟩ := h
  obtain ⟨_, _, _, _, c4, _⟩ := h.c
  clear h
  go_enter Try.func17, Try.ntmps17
  go_wp2
  go_ret
  exact ⟨rfl, Below.refl _ w⟩
set_option maxHeartbeats 1000000 in
set_option maxRecDepth 100000 in
theorem Dk.pnewM_c (n : Int) (w : World) :
    Calls Try.prog 13 #[.int .i64 n] w fun e w' => ∃ p, e = .returned (.pointer (some ⟨p, 0, none⟩)) ∧ Dk.PAt (fun b => w.heap.size ≤ b ∧ b < w'.heap.size) w' p (Dk.new n) ∧ Below w.heap.size w w' := by
  have HR : Hid (∀ x : Int, x = max n 0 → Dk.PAt (fun b => w.heap.size ≤ b ∧ b < (w.alloc (.cells (Dk.pcells (.map none) (.map none) (.slice none 0 0) x 0 false 0 false 0) 62)).heap.size) (w.alloc (.cells (Dk.pcells (.map none) (.map none) (.slice none 0 0) x 0 false 0 false 0) 62)) w.heap.size (Dk.new n) ∧
      Below w.heap.size w (w.alloc (.cells (Dk.pcells (.map none) (.map none) (.slice none 0 0) x 0 false 0 false 0) 62))) := Lib.hid fun x hx => by
    subst hx
    refine ⟨⟨fun _ => 0, fun _ => .slice none 0 0, [], _, _, _, _, _, _, _, heap_alloc_new w _, Dk.PF.nil, .inl ⟨rfl, rfl, rfl, rfl⟩, Dk.Own.nil _ _, by simp [Value.ownBlock], Dk.PCs.nil, ⟨by decide, by decide, .inl ⟨rfl, by decide, (show (-1 : Int) < 0 by decide)⟩⟩, ⟨by decide, by decide, .inl ⟨rfl, by decide, (show (-1 : Int) < 0 by decide)⟩⟩, ⟨Nat.le_refl _, by rw [World.size_alloc]; omega⟩, fun b hb => hb.2, fun _ => rfl⟩, (Below.refl _ w).alloc (Nat.le_refl _) _⟩

  go_enter Try.func13, Try.ntmps13
  go_wp2
  all_goals
    go_ret
    exact ⟨_, rfl, HR.out _ (by omega)⟩
end Go.Proofs.Ytfkdkdkdpenblaa

namespace Go.Proofs.Ytfkdkdkdpenblaa
open Go.RowKit Go.Maps
set_option maxHeartbeats 2000000 in
set_option maxRecDepth 100000 in
theorem Dk.pvalid_c (s : ByteArray) (hs : s.size ≤ 140737488355328) (w : World) :
    Calls Try.prog 56 #[.string s] w fun e w' => e = .returned (.bool (Dk.right s.data.toList)) ∧ w' = w := by
  have HS := Lib.hid hs
  have HST : Hid (∀ k (h : k < s.size), (s.data.toList.take (k + 1)).all Dk.okc = ((s.data.toList.take k).all Dk.okc && Dk.okc s[k])) := Lib.hid fun k h => Dk.right_step h
  have HR : Hid (Dk.right s.data.toList = (s.data.toList.all Dk.okc && (decide (1 ≤ s.size) && decide (s.size ≤ 12)))) := Lib.hid (by unfold Dk.right; rw [Ty.length_data])
  have HB : Hid (∀ k, (s.data.toList.take k).all Dk.okc = false → s.data.toList.all Dk.okc = false) := Lib.hid fun k h => by
    cases ha : s.data.toList.all Dk.okc with
    | false => rfl
    | true =>
      have : (s.data.toList.take k).all Dk.okc = true := List.all_eq_true.2 fun x hx => List.all_eq_true.1 ha x (List.mem_of_mem_take hx)
      rw [this] at h
      cases h
  have HEM : Hid (s.toList.isEmpty = decide (s.size = 0)) := Lib.hid (by
    rw [ByteArray.toList_eq]
    have := Ty.length_data s
    cases h : s.data.toList with
    | nil =>
      rw [h] at this
      show true = decide (s.size = 0)
      symm
      rw [decide_eq_true_eq]
      exact this.symm
    | cons a l =>
      rw [h] at this
      show false = decide (s.size = 0)
      symm
      rw [decide_eq_false_iff_not]
      intro e
      rw [e] at this
      cases this)
  by_cases hz : s.size = 0
  · have he : s.toList.isEmpty = true := by rw [HEM.out]; simpa using hz
    have HE : Hid (Dk.right s.data.toList = false) := Lib.hid (by rw [HR.out, hz]; simp)
    clear hz hs
    go_enter Try.func56, Try.ntmps56
    go_wp2
    go_ret
    exact ⟨by rw [HE.out]; rfl, rfl⟩
  · have he : s.toList.isEmpty = false := by rw [HEM.out]; simpa using hz
    by_cases hm : 12 < s.size
    · have hm' : (s.size : Int) > 12 := by omega
      have HE : Hid (Dk.right s.data.toList = false) := Lib.hid (by
        rw [HR.out]
        have : decide (s.size ≤ 12) = false := by simp; omega
        rw [this]; simp)
      clear hz hs
      go_enter Try.func56, Try.ntmps56
      go_wp2
      go_ret
      exact ⟨by rw [HE.out]; rfl, rfl⟩
    · have hm' : ¬ (s.size : Int) > 12 := by omega
      have HRR : Hid (Dk.right s.data.toList = s.data.toList.all Dk.okc) := Lib.hid (by
        rw [HR.out]
        have h1 : decide (s.size ≤ 12) = true := by simp; omega
        have h2 : decide (1 ≤ s.size) = true := by simp; omega
        rw [h1, h2]; simp)
      clear hz HR hm
      go_enter Try.func56, Try.ntmps56
      go_wp2
      go_loop [3, 4, 14] (fun _ _ i => ∃ k : Nat, k ≤ s.size ∧ i = .int .i64 k ∧ (s.data.toList.take k).all Dk.okc = true) (fun _ _ i => s.size - (intOf i).toNat)
      case atStart => exact ⟨0, by omega, rfl, by simp⟩
      case round =>
        obtain ⟨k, hk, rfl, hp⟩ := hrel
        have HP := Lib.hid hp
        have hk0 : (0 : Int) ≤ (k : Int) := by omega
        clear hp
        by_cases hl : k < s.size
        · have hki : (k : Int) < (s.size : Int) := by omega
          have hks : (k : Int) < 9223372036854775807 := by have := HS.out; omega
          have HN := Lib.hid (HST.out k hl)
          have hw := Dk.okc_ways s[k]
          generalize hbb : s[k] = b at HN hw
          rcases hw with ⟨ho, hw⟩ | ⟨ho, hw⟩
          · rw [ho, HP.out] at HN
            rcases hw with ⟨h1, h2⟩ | ⟨h1, h2⟩ | h1
            · have i1 : (97 : Int) ≤ (b.toNat : Int) := by omega
              have i2 : (b.toNat : Int) ≤ 122 := by omega
              clear h1 h2 hs
              go_wp2
              go_round
              case rel => exact ⟨k + 1, by omega, by simp, HN.out⟩
              case measure => simp [intOf]; omega
            · have i1 : ¬ (97 : Int) ≤ (b.toNat : Int) := by omega
              have i2 : (48 : Int) ≤ (b.toNat : Int) := by omega
              have i3 : (b.toNat : Int) ≤ 57 := by omega
              clear h1 h2 hs
              go_wp2
              go_round
              case rel => exact ⟨k + 1, by omega, by simp, HN.out⟩
              case measure => simp [intOf]; omega
            · have i0 : (b.toNat : Int) = 46 := by omega
              have i1 : ¬ (97 : Int) ≤ (b.toNat : Int) := by omega
              have i2 : ¬ (48 : Int) ≤ (b.toNat : Int) := by omega
              clear h1 hs
              go_wp2
              go_round
              case rel => exact ⟨k + 1, by omega, by simp, HN.out⟩
              case measure => simp [intOf]; omega
          · rw [ho, Bool.and_false] at HN
            have HE : Hid (Dk.right s.data.toList = false) := Lib.hid (by rw [HRR.out, HB.out _ HN.out])
            have i0 : ((b.toNat : Int) == 46) = false := by rw [beq_eq_false_iff_ne]; omega
            rcases hw with h1 | h1 | ⟨h1, h2⟩ | h1
            · have i1 : ¬ (97 : Int) ≤ (b.toNat : Int) := by omega
              have i2 : ¬ (48 : Int) ≤ (b.toNat : Int) := by omega
              clear h1 hs
              go_wp2
              go_ret
              exact ⟨by rw [HE.out]; rfl, rfl⟩
            · have i1 : ¬ (97 : Int) ≤ (b.toNat : Int) := by omega
              have i2 : ¬ (48 : Int) ≤ (b.toNat : Int) := by omega
              clear h1 hs
              go_wp2
              go_ret
              exact ⟨by rw [HE.out]; rfl, rfl⟩
            · have i1 : ¬ (97 : Int) ≤ (b.toNat : Int) := by omega
              have i2 : (48 : Int) ≤ (b.toNat : Int) := by omega
              have i3 : ¬ (b.toNat : Int) ≤ 57 := by omega
              clear h1 h2 hs
              go_wp2
              go_ret
              exact ⟨by rw [HE.out]; rfl, rfl⟩
            · have i1 : (97 : Int) ≤ (b.toNat : Int) := by omega
              have i2 : ¬ (b.toNat : Int) ≤ 122 := by omega
              have i3 : (48 : Int) ≤ (b.toNat : Int) := by omega
              have i4 : ¬ (b.toNat : Int) ≤ 57 := by omega
              clear h1 hs
              go_wp2
              go_ret
              exact ⟨by rw [HE.out]; rfl, rfl⟩
        · obtain rfl : k = s.size := by omega
          have hki : ¬ (s.size : Int) < (s.size : Int) := by omega
          have HP2 : Hid (Dk.right s.data.toList = true) := Lib.hid (by
            have := HP.out
            rw [HRR.out]
            rwa [List.take_of_length_le (by rw [Ty.length_data]; exact Nat.le_refl _)] at this)
          clear hs
          go_wp2
          go_ret
          exact ⟨by rw [HP2.out]; rfl, rfl⟩
/-- The file of a name, as a pointer. -/
def Dk.ptrOf (q : Nat → Nat) (o : Option Nat) : Value := .pointer (match o with | none => none | some f => some ⟨q f, 0, none⟩)
section
variable {m : Bool} {S S' : Nat → Prop} {w w' : World} {p : Nat} {d d' : Dk.D} {q : Nat → Nat} {vb : Nat → Value} {vs : List Dk.Cls} {vN vD vP : Value} {ss rs : Bool} {sa ra : Int}
theorem Dk.PDirs.look {l k : Dk.Dir} (h : Dk.PDirs S w q vN vD l k) (s : Dk.Str) (hs : s.length ≤ 140737488351232) :
    (Instr.lookup 57 vN (.string (Ty.S s)) false).run Try.prog w = .ok (Dk.ptrOf q (Dk.look l s)) w := by
  rcases h with ⟨rfl, _, rfl, _⟩ | ⟨bN, bD, rfl, _, _, _, _, h, _⟩
  · exact Dk.look_nil s hs w
  · exact h.look s hs
end
/-- What callOn answers. -/
def Dk.onV (q : Nat → Nat) (d : Dk.D) (s : Dk.Str) : Value :=
  if Dk.callE d ≠ 0 then .tuple #[.pointer none, .int .i64 ((Dk.callE d : Nat) : Int)] else match Dk.look d.dir s with
  | none => .tuple #[.pointer none, .int .i64 12]
  | some f => .tuple #[.pointer (some ⟨q f, 0, none⟩), .int .i64 0]
set_option maxHeartbeats 2000000 in
set_option maxRecDepth 100000 in
theorem Dk.pcallOn_c {m : Bool} {S : Nat → Prop} {w : World} {p : Nat} {d : Dk.D} {q : Nat → Nat} {vb : Nat → Value} {vs : List Dk.Cls} {vN vD vP : Value} {ss rs : Bool} {sa ra : Int} (h : Dk.PA m S w p d q vb vs vN vD vP ss sa rs ra) (hk : d.calls ≤ 1000000) (s : Dk.Str) (hs : s.length ≤ 140737488351232) :
    Calls Try.prog 60 #[.pointer (some ⟨p, 0, none⟩), .string (Ty.S s)] w fun e w' => e = .returned (Dk.onV q d s) ∧ Dk.Ticked m S w p d q vb vs vN vD vP w' := by
  have cl := Dk.pcall_c h hk
  have HL : Hid (∀ w1, Dk.Ticked m S w p d q vb vs vN vD vP w1 → (Instr.lookup 57 vN (.string (Ty.S s)) false).run Try.prog w1 = .ok (Dk.ptrOf q (Dk.look d.dir s)) w1 ∧ w1.cell? ⟨p, 0, none⟩ = some vN) := Lib.hid fun w1 ht => by
    obtain ⟨_, _, _, _, h1, _⟩ := ht
    exact ⟨h1.dirs.look s hs, h1.c.1⟩
  clear h hk
  by_cases he : Dk.callE d = 0
  · have HE : Hid (∀ o, Dk.look d.dir s = o → Dk.onV q d s = match o with | none => .tuple #[.pointer none, .int .i64 12] | some f => .tuple #[.pointer (some ⟨q f, 0, none⟩), .int .i64 0]) := Lib.hid fun o ho => by
      unfold Dk.onV; rw [if_neg (by simpa using he), ho]
    rw [he] at cl
    generalize Dk.look d.dir s = o at HL HE
    generalize Ty.S s = sx at HL
    have HE' := Lib.hid (HE.out o rfl)
    clear HE he
    cases o with
    | none =>
      go_enter Try.func60, Try.ntmps60
      go_wp2_with fail
      with_reducible refine cl.mono ?_
      rintro e w1 ⟨rfl, ht⟩
      obtain ⟨hl, c0⟩ := HL.out w1 ht
      unfold Dk.ptrOf at hl
      simp only at hl
      have HT := Lib.hid ht
      clear cl ht HL
      go_wp2
      go_ret2
      exact ⟨by rw [HE'.out]; rfl, HT.out⟩
    | some f =>
      go_enter Try.func60, Try.ntmps60
      go_wp2_with fail
      with_reducible refine cl.mono ?_
      rintro e w1 ⟨rfl, ht⟩
      obtain ⟨hl, c0⟩ := HL.out w1 ht
      unfold Dk.ptrOf at hl
      simp only at hl
      have HT := Lib.hid ht
      clear cl ht HL
      go_wp2
      go_ret2
      exact ⟨by rw [HE'.out]; rfl, HT.out⟩
  · have HE : Hid (Dk.onV q d s = .tuple #[.pointer none, .int .i64 ((Dk.callE d : Nat) : Int)]) := Lib.hid (by unfold Dk.onV; rw [if_pos he])
    have hnb : (((Dk.callE d : Nat) : Int) != 0) = true := by rw [bne_iff_ne]; omega
    generalize Dk.callE d = E at cl HE hnb
    generalize Ty.S s = sx
    clear he HL
    go_enter Try.func60, Try.ntmps60
    go_wp2_with fail
    with_reducible refine cl.mono ?_
    rintro e w1 ⟨rfl, ht⟩
    have HT := Lib.hid ht
    clear cl ht
    go_wp2
    go_ret2
    exact ⟨by rw [HE.out]; rfl, HT.out⟩
set_option maxHeartbeats 2000000 in
set_option maxRecDepth 100000 in
theorem Dk.preadM_c {m : Bool} {S : Nat → Prop} {p : Nat} {d : Dk.D} {w : World} (h : Dk.PAtM m S w p d) (hi : Dk.Inv d) (s : Dk.Str) (hs : s.length ≤ 140737488351232) :
    Calls Try.prog 19 #[.pointer (some ⟨p, 0, none⟩), .string (Ty.S s)] w fun e w' => e = .returned (.tuple #[.string (Ty.S (Dk.read d s).1), .int .i64 (((Dk.read d s).2 : Nat) : Int)]) ∧ Below w.heap.size w w' := by
  obtain ⟨q, vb, vs, vN, vD, vP, ss, sa, rs, ra, h⟩ := h
  obtain ⟨c0, _⟩ := h.c
  have hl := h.dirs.look s hs
  have HE : Hid (Dk.read d s = match Dk.look d.dir s with | none => ([], 12) | some f => ((Dk.file d.files f).1, 0)) := Lib.hid rfl
  have HF : Hid (∀ f, Dk.look d.dir s = some f → w.cell? ⟨q f, 0, none⟩ = some (vb f) ∧ (convert 73 9 (vb f)).run Try.prog w = .ok (.string (Ty.S (Dk.file d.files f).1)) w) := Lib.hid fun f hf => by
    have hlt := hi.dirlt hf
    exact ⟨(h.files.cells hlt).1, (h.files.bytes f hlt).string⟩
  unfold Dk.ptrOf at hl
  clear h hi
  generalize Ty.S s = sx at hl
  cases ho : Dk.look d.dir s with
  | none =>
    rw [ho] at hl HE
    simp only at hl
    clear HF ho
    go_enter Try.func19, Try.ntmps19
    go_wp2
    go_ret2
    exact ⟨by rw [HE.out]; rfl, Below.refl _ w⟩
  | some f =>
    obtain ⟨f0, hc⟩ := HF.out f ho
    rw [ho] at hl HE
    simp only at hl
    generalize hsb : Ty.S (Dk.file d.files f).1 = sb at hc
    have HSB := Lib.hid hsb
    clear HF ho hsb
    go_enter Try.func19, Try.ntmps19
    go_wp2
    go_ret2
    exact ⟨by rw [HE.out, ← HSB.out]; rfl, Below.refl _ w⟩
end Go.Proofs.Ytfkdkdkdpenblaa

namespace Go.Proofs.Ytfkdkdkdpenblaa
open Go.RowKit Go.Maps Go.Sort Go.Shelf
theorem Dk.keysOf_c (mb : Option Nat) (w : World) :
    Calls Try.prog 69 #[.map mb] w fun e w' => e = .returned (.func (.func 77) #[] #[.pointer (some ⟨w.heap.size, 0, none⟩)]) ∧ w' = w.alloc (.cells #[.map mb] 57) :=
  callsIn_wide.1 (AnyZ.keys_in Try.keysL Fence.wide 5 trivial rfl mb w)
theorem Dk.sorts (n : Nat) : AnyZ.SortsIn Try.prog Try.sortedL_ren Fence.wide n :=
  ⟨fun blk off cap ss w hH hblk hsz => callsIn_wide.2 (AnyM.slices_Sort_string Try.sortL blk off cap ss w hH hblk hsz), fun p cap w => callsIn_wide.2 (AnyM.slices_Sort_string_none Try.sortL p cap w)⟩
theorem Dk.names_sorted {l : Dk.Dir} (ha : Dk.Asc l) {ss : List Dk.Str} (h : (l.map (·.1)).Perm ss) : ss.mergeSort (fun x y => decide (x ≤ y)) = l.map (·.1) := by
  rw [mergeSort_of_perm h.symm]
  refine List.mergeSort_of_pairwise ?_
  unfold Dk.Asc at ha
  refine List.pairwise_map.2 (ha.imp fun {x y} hxy => ?_)
  unfold Dk.lt at hxy
  rw [bytesLess_eq, decide_eq_true_eq] at hxy
  exact decide_eq_true (List.le_of_lt hxy)
theorem Dk.enc_sv (L : List Dk.Str) : L.map encStr = (List.range L.length).map (Tx.sv L) := by
  refine List.ext_getElem (by simp) fun i h1 h2 => ?_
  have hi : i < L.length := by simpa using h1
  rw [List.getElem_map, List.getElem_map, List.getElem_range]
  unfold Tx.sv
  rw [List.getD, List.getElem?_eq_getElem hi]
  rfl
/-- A directory in hand. -/
def Dk.PD (w : World) (q : Nat → Nat) (v : Value) (l : Dk.Dir) : Prop := (v = .map none ∧ l = []) ∨ ∃ b, v = .map (some b) ∧ Dk.PM w q b l
theorem Dk.PDirs.names {S : Nat → Prop} {w : World} {q : Nat → Nat} {vN vD : Value} {l k : Dk.Dir} (h : Dk.PDirs S w q vN vD l k) : Dk.PD w q vN l := by
  rcases h with ⟨h1, _, h3, _⟩ | ⟨bN, bD, e1, _, _, _, _, h3, _⟩
  · exact .inl ⟨h1, h3⟩
  · exact .inr ⟨bN, e1, h3⟩
set_option maxHeartbeats 1000000 in
/-- slices.Sorted behind maps.Keys ('w': the world ahead of Keys). -/
theorem Dk.sortedOf_c {w : World} {q : Nat → Nat} {mb : Option Nat} {l : Dk.Dir} (h : Dk.PD w q (.map mb) l) (ha : Dk.Asc l) (hn : l.length ≤ 1000000) :
    Calls Try.prog 68 #[.func (.func 77) #[] #[.pointer (some ⟨w.heap.size, 0, none⟩)]] (w.alloc (.cells #[.map mb] 57)) fun e w' => ∃ v, e = .returned v ∧ Tx.Own w.heap.size w' v (l.map (·.1)) ∧ Below w.heap.size w w' := by
  have key : ∀ (S : List Dk.Str → Prop) (N : Nat), (∀ ss, S ss → (l.map (·.1)).Perm ss) → N = l.length → SeqGives Fence.wide 2 Try.prog 77 #[.pointer (some ⟨w.heap.size, 0, none⟩)] encStr S N (w.alloc (.cells #[.map mb] 57)) →
      Calls Try.prog 68 #[.func (.func 77) #[] #[.pointer (some ⟨w.heap.size, 0, none⟩)]] (w.alloc (.cells #[.map mb] 57)) fun e w' => ∃ v, e = .returned v ∧ Tx.Own w.heap.size w' v (l.map (·.1)) ∧ Below w.heap.size w w' := by
    intro S N hS hN hseq
    have hc := callsIn_wide.1 (AnyZ.sorted_in Try.sortedL Fence.wide 5 trivial trivial trivial trivial rfl (by omega) (Dk.sorts _) (enters_of Try.func76 (by kernel_rfl) rfl) 77 #[.pointer (some ⟨w.heap.size, 0, none⟩)] trivial (enters_of Try.func77 (by kernel_rfl) rfl) _ _ (by rw [hN]; unfold maxLen; omega) (by rw [hN]; omega) _ hseq)
    refine hc.mono ?_
    rintro e w' ⟨v, ss, rfl, hs, hrow, hnil, hb⟩
    have hp := hS ss hs
    have hd := Dk.names_sorted ha hp
    have hlen : ss.length = (l.map (·.1)).length := hp.length_eq.symm
    refine ⟨v, rfl, ?_, ?_⟩
    · have e1 : (ss.mergeSort (fun x y => decide (x ≤ y))).map encStr = (List.range (l.map (·.1)).length).map (Tx.sv (l.map (·.1))) := by rw [hd, Dk.enc_sv]
      have h2 := hrow
      rw [e1, hlen] at h2
      exact Tx.Own.mono (B := (w.alloc (.cells #[.map mb] 57)).heap.size) h2 (by simp)
    · exact ((Below.refl _ w).alloc (Nat.le_refl _) _).trans (hb.mono (by simp))
  rcases h with ⟨e, rfl⟩ | ⟨b, e, hm⟩
  · obtain rfl : mb = none := by simpa using e
    exact key (fun ss => ss = []) 0 (fun ss hs => by subst hs; exact List.Perm.refl _) rfl (AnyZ.keys_gives_nil { Try.keysL with } Fence.wide _ trivial rfl w.heap.size _ (by simp) (by simp))
  · obtain rfl : mb = some b := by simpa using e
    obtain ⟨D, hown, _, hp, hs⟩ := hm.keys ha
    have hbl := hown.lt
    exact key (fun ss => ss.Perm (strKeys D)) (Maps.size D) (fun ss hss => hp.trans hss.symm) hs
      (AnyZ.keys_gives (ρ := Try.keysL_ren) { Try.keysL with } Fence.wide _ trivial rfl (by omega) w.heap.size b l.length D _ (by simp) (by simp) (hown.alloc _))
set_option maxRecDepth 100000 in
theorem Dk.psorted_c {w : World} {q : Nat → Nat} {v : Value} {l : Dk.Dir} (h : Dk.PD w q v l) (ha : Dk.Asc l) (hn : l.length ≤ 1000000) :
    Calls Try.prog 49 #[v] w fun e w' => ∃ u, e = .returned u ∧ Tx.Own w.heap.size w' u (l.map (·.1)) ∧ Below w.heap.size w w' := by
  obtain ⟨mb, rfl⟩ : ∃ mb, v = .map mb := by
    rcases h with ⟨e, _⟩ | ⟨b, e, _⟩
    · exact ⟨_, e⟩
    · exact ⟨_, e⟩
  have c1 := Dk.keysOf_c mb w
  have C2 := Lib.hid (Dk.sortedOf_c h ha hn)
  clear h
  go_enter Try.func49, Try.ntmps49
  go_wp2_with fail
  with_reducible refine c1.mono ?_
  rintro e w1 ⟨rfl, rfl⟩
  have c2 := C2.out
  clear c1 C2
  go_wp2_with fail
  with_reducible refine c2.mono ?_
  rintro e w2 ⟨u, rfl, ho, hb⟩
  have HO := Lib.hid ho
  have HB := Lib.hid hb
  clear c2 ho hb
  go_wp2
  go_ret
  exact ⟨u, rfl, HO.out, HB.out⟩
/-- Not so great that anything overflows: what Names and Crash want (a disk that was loaded may hold more than one that was filled). -/
structure Dk.FitL (d : Dk.D) : Prop where
  inv : Dk.Inv d
  dirs : d.sure.length + d.chg.length ≤ 100000
  bytes : Dk.size d.files ≤ 1000000000000000
  sure : ∀ y ∈ d.sure, y.1.length ≤ 140737488351232
  chg : ∀ c ∈ d.chg, c.a.length ≤ 1048576 ∧ c.b.length ≤ 1048576
theorem Dk.Fit.loose {d : Dk.D} (h : Dk.Fit d) : Dk.FitL d :=
  ⟨h.inv, h.sz.dirs, by have := h.sz.bytes; omega, fun y hy => by have := h.sure y hy; omega, h.chg⟩
theorem Dk.FitL.dirl {d : Dk.D} (h : Dk.FitL d) : d.dir.length ≤ 100000 := by
  have := Dk.len_fold d.chg d.sure
  rw [← h.inv.chain.fold] at this
  have := h.dirs
  omega
set_option maxRecDepth 100000 in
theorem Dk.pnamesM_c {m : Bool} {S : Nat → Prop} {p : Nat} {d : Dk.D} {w : World} (h : Dk.PAtM m S w p d) (hf : Dk.FitL d) :
    Calls Try.prog 22 #[.pointer (some ⟨p, 0, none⟩)] w fun e w' => ∃ v, e = .returned v ∧ Tx.Own w.heap.size w' v (Dk.names d) ∧ Below w.heap.size w w' := by
  obtain ⟨q, vb, vs, vN, vD, vP, ss, sa, rs, ra, h⟩ := h
  obtain ⟨c0, _⟩ := h.c
  have cs := Dk.psorted_c h.dirs.names hf.inv.dir.asc (by have := hf.dirl; omega)
  have HN : Hid (Dk.names d = d.dir.map (·.1)) := Lib.hid rfl
  generalize d.dir.map (·.1) = L at cs HN
  clear h hf
  go_enter Try.func22, Try.ntmps22
  go_wp2_with fail
  with_reducible refine cs.mono ?_
  rintro e w2 ⟨u, rfl, ho, hb⟩
  have HO := Lib.hid ho
  have HB := Lib.hid hb
  clear cs ho hb
  go_wp2
  go_ret
  exact ⟨u, rfl, by rw [HN.out]; exact HO.out, HB.out⟩
end Go.Proofs.Ytfkdkdkdpenblaa
