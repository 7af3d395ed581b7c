/-
  Contracts of package ints: the reader of differences.
-/
import Derived.Test.YtkgmildbhelelaaDoorI9
import Derived.StillTailTactics
namespace Go.Proofs.YtkgmildbhelelaaDoor
open Go.RowKit
open Ig (nth encI encR grp diffs prv low off sg rest rdInts acc)
open Ty (encU num)
/-- A store into a slice that the call owns. -/
theorem Ig.buf_set {e : TypeId} {base : Nat} {w : World} {g n c : Nat} {f : Nat → Value} (h : Bt.Buf e base w (.slice (some ⟨g, 0, none⟩) n c) n f) {i : Nat} (u : Value) (hi : i < n) :
    Bt.Buf e base (w.setCell ⟨g, i, none⟩ u) (.slice (some ⟨g, 0, none⟩) n c) n (fun j => if j = i then u else f j) := by
  refine ⟨by simp, .inr ?_⟩
  rcases h.2 with ⟨e1, _⟩ | ⟨g', cap, cur, e1, hb, hg, h1, h2, h3, h4⟩
  · simp at e1
  · simp only [Value.slice.injEq, Option.some.injEq, Addr.mk.injEq, and_true, true_and] at e1
    obtain ⟨rfl, rfl⟩ := e1
    have hlt := (Array.getElem?_eq_some_iff.1 hg).1
    refine ⟨g, c, cur.set! i u, rfl, hb, ?_, h1, h2, by simpa using h3, ?_⟩
    · have h' : w.heap[g] = .cells cur e (0, 0) := by simpa [Array.getElem?_eq_getElem hlt] using hg
      show (w.heap.modify g _)[g]? = _
      rw [Array.getElem?_eq_getElem (by simpa using hlt), Array.getElem_modify_self, h']
      rfl
    · rw [Nat.mul_one] at h4 ⊢
      refine List.ext_getElem? fun j => ?_
      by_cases hj : j < n
      · rw [List.getElem?_take_of_lt hj, List.getElem?_map, List.getElem?_range hj]
        have hc : cur.toList[j]? = some (f j) := by
          have := congrArg (·[j]?) h4
          simp only [List.getElem?_map, List.getElem?_range hj] at this
          rwa [List.getElem?_take_of_lt hj] at this
        by_cases hji : j = i
        · subst hji
          have hs : j < cur.size := by rw [h3]; omega
          simp [hs]
        · simp only [Option.map_some, if_neg hji]
          simp only [Array.set!_eq_setIfInBounds, Array.toList_setIfInBounds]
          rw [List.getElem?_set_ne (fun h => hji h.symm)]
          exact hc
      · rw [List.getElem?_eq_none (by rw [List.length_take]; omega), List.getElem?_eq_none (by simp; omega)]
theorem Ig.buf_cell {e : TypeId} {base : Nat} {w : World} {g n c : Nat} {f : Nat → Value} (h : Bt.Buf e base w (.slice (some ⟨g, 0, none⟩) n c) n f) {i : Nat} (hi : i < n) : w.cell? ⟨g, i, none⟩ = some (f i) ∧ w.frozen? ⟨g, i, none⟩ = false := by
  have hs := Bt.Buf.sl h
  obtain ⟨a, c', e1, h1⟩ := hs
  simp only [Value.slice.injEq] at e1
  obtain ⟨rfl, _, _⟩ := e1
  rcases h1 with h1 | ⟨b, o, e2, _, h1⟩
  · omega
  · simp only [Option.some.injEq, Addr.mk.injEq, and_true] at e2
    obtain ⟨rfl, rfl⟩ := e2
    refine ⟨by have := h1 i hi; rwa [Nat.zero_add] at this, ?_⟩
    rcases h.2 with ⟨e1, _⟩ | ⟨g', cap, cur, e1, hb, hg, _⟩
    · simp at e1
    · simp only [Value.slice.injEq, Option.some.injEq, Addr.mk.injEq, and_true, true_and] at e1
      obtain ⟨rfl, rfl⟩ := e1
      simp [World.frozen?, hg]
/-- The first k are sums, the others differences. -/
def Ig.mix (A D : List Int) (k i : Nat) : Value := .int .i64 (if i < k then nth A i else nth D i)
theorem Ig.acc_nth : ∀ (D : List Int) (p : Int) (k : Nat), k < D.length → nth (acc p D) k = wrap64 ((match k with | 0 => p | j + 1 => nth (acc p D) j) + nth D k)
  | [], _, _, h => by simp at h
  | x :: D, p, 0, _ => rfl
  | x :: D, p, k + 1, h => by
    have hk : k < D.length := by simpa using h
    have ih := Ig.acc_nth D (wrap64 (p + x)) k hk
    have e1 : nth (acc p (x :: D)) (k + 1) = nth (acc (wrap64 (p + x)) D) k := by simp [nth, acc]
    have e2 : nth (x :: D) (k + 1) = nth D k := by simp [nth]
    rw [e1, e2, ih]
    cases k with
    | zero => rfl
    | succ j =>
      have : nth (acc p (x :: D)) (j + 1) = nth (acc (wrap64 (p + x)) D) j := by simp [nth, acc]
      simp only [this]
theorem Ig.acc_first {D : List Int} (h : 0 < D.length) (hD : ∀ x ∈ D, Ty.I64 x) : nth (acc 0 D) 0 = nth D 0 := by
  have hx := Ig.nth_i64 hD h
  have e := Ig.acc_nth D 0 0 h
  simp only at e
  rw [e]
  unfold Ty.I64 at hx
  unfold wrap64
  omega
theorem Ig.acc_next {D : List Int} {k : Nat} (h : k + 1 < D.length) : nth (acc 0 D) (k + 1) = wrap64 (nth D (k + 1) + nth (acc 0 D) k) := by
  rw [Ig.acc_nth D 0 (k + 1) h]
  simp only
  rw [Int.add_comm]
theorem Ig.rdInts_i64 (n : Nat) : ∀ l, ∀ x ∈ (rdInts n l).2.1, Ty.I64 x := by
  induction n with
  | zero => intro l x hx; simp [rdInts] at hx
  | succ n ih =>
    intro l x hx
    simp only [rdInts] at hx
    split at hx
    · simp at hx
    · rcases List.mem_cons.1 hx with rfl | hx
      · exact Ig.sg_i64 l
      · exact ih _ x hx
/-- What the reader of differences leaves. -/
def Ig.rdDelta (n : Nat) (l : List UInt8) : Nat × List Int × List UInt8 := ((rdInts n l).1, acc 0 (rdInts n l).2.1, (rdInts n l).2.2)
set_option maxRecDepth 100000 in
set_option maxHeartbeats 2000000 in
theorem Ig.readDelta_c (b n : Nat) (l : List UInt8) (w : World) (hw : Ty.Tabs w) (hG : Ty.G ≤ b) (h : Ty.Cur b w l 0) (hl : l.length ≤ 140737488355328) (hn : n ≤ 65536) :
    Calls Tryd.prog 63 #[.pointer (some ⟨b, 0, none⟩), .int .i64 n] w (Ig.Rd b w (Ig.rdDelta n l)) := by
  have hbw := h.lt
  have c0 := Ig.readPlain_c b n l w hw hG h hl hn
  have hRD : Ig.rdDelta n l = ((rdInts n l).1, acc 0 (rdInts n l).2.1, (rdInts n l).2.2) := rfl
  have hlen : (if (rdInts n l).1 = 0 then (rdInts n l).2.1 else []).length ≤ 65536 := by
    split
    · rename_i h0
      rw [(Ig.rdInts_only n l h0).2.1]; exact hn
    · simp
  have hi64 : ∀ x ∈ (if (rdInts n l).1 = 0 then (rdInts n l).2.1 else []), Ty.I64 x := by
    split
    · exact Ig.rdInts_i64 n l
    · intro x hx; cases hx
  rw [hRD]
  generalize hr : rdInts n l = r at c0 hlen hi64 ⊢
  obtain ⟨er, L, l2⟩ := r
  simp only at hlen hi64 ⊢
  have HLN := Lib.hid hlen
  have HI := Lib.hid hi64
  clear hRD hr hlen hi64 hw hG h hl hn
  go_enter Tryd.func63, Tryd.ntmps63
  go_wp2_with fail
  refine c0.mono ?_
  rintro e w1 ⟨v, rfl, hO, hc, hg⟩
  clear c0
  simp only at hO hc
  generalize hD : (if er = 0 then L else []) = D at hO HLN HI
  have HDD : Hid ((if er = 0 then acc 0 L else []) = acc 0 D) := Lib.hid (by
    rw [← hD]
    split <;> rfl)
  have HC := Lib.hid hc
  have HG := Lib.hid hg
  have hO0 := hO
  clear hc hg hD
  rcases hO.2 with ⟨rfl, hn0⟩ | ⟨g, cap, cur, rfl, hbg, hgg, hcap, _⟩
  · obtain rfl : D = [] := List.eq_nil_of_length_eq_zero hn0
    clear hO hn0
    go_wp2
    refine wp_loop_rounds 1 ?_; rw [rounds_succ]
    go_wp2
    go_ret2
    exact ⟨_, rfl, by rw [HDD.out]; exact hO0, HC.out, HG.out⟩
  · have hgl := HG.out.size
    have hgs : g < w1.heap.size := (Array.getElem?_eq_some_iff.1 hgg).1
    clear hO hgg
    go_wp2_with fail
    go_loopw [8] (fun i wr => ∃ j : Nat, (j = 0 ∨ j < D.length) ∧ i = .int .i64 ((j : Int) + 1) ∧ Bt.Buf 2 w.heap.size wr (.slice (some ⟨g, 0, none⟩) D.length cap) D.length (Ig.mix (acc 0 D) D (j + 1)) ∧ (er = 0 → Ty.Cur b wr l2 0) ∧ w.grownBy wr (some b)) (fun i _ => D.length - (intOf i).toNat)
    case atStart => exact ⟨0, .inl rfl, rfl, Bt.Buf.congr hO0 fun i hi => by
      unfold Ig.iv Ig.mix
      by_cases h0 : i < 0 + 1
      · obtain rfl : i = 0 := by omega
        rw [if_pos h0, Ig.acc_first hi HI.out]
      · rw [if_neg h0], HC.out, HG.out⟩
    case round =>
      obtain ⟨j, hk2, rfl, hB, hc, hg⟩ := hrel
      have HB := Lib.hid hB
      have HCC := Lib.hid hc
      have HGG := Lib.hid hg
      clear hB hc hg hO0
      by_cases hl2 : j + 1 < D.length
      · have hc1 := (Ig.buf_cell HB.out hl2).1
        have hf1 := (Ig.buf_cell HB.out hl2).2
        have hc0 := (Ig.buf_cell HB.out (i := j) (by omega)).1
        unfold Ig.mix at hc1 hc0
        rw [if_neg (Nat.lt_irrefl _)] at hc1
        rw [if_pos (Nat.lt_succ_self _)] at hc0
        have HA := Lib.hid (Ig.acc_next hl2)
        generalize hx : nth D (j + 1) = x at hc1 HA
        generalize hy : nth (acc 0 D) j = y at hc0 HA
        have hkl : (j : Int) + 1 < (D.length : Int) := by omega
        have hkl2 : (j : Int) < (D.length : Int) := by omega
        have hk0 : (0 : Int) ≤ (j : Int) := by omega
        have hk00 : (0 : Int) ≤ (j : Int) + 1 := by omega
        have hsub : IntKind.i64.wrap (j : Int) = (j : Int) := by have := HLN.out; rw [IntKind.wrap_i64]; omega
        have htn : ((j : Int) + 1).toNat = j + 1 := by omega
        have hj5 : (j : Int) ≤ 65536 := by have := HLN.out; omega
        clear hx hy
        go_wp2_with fail
        refine wp_region_still_tail 11 (by kernel_rfl) (by kernel_rfl) ?_
        simp only [List.take_succ_cons, List.take_zero, List.drop_succ_cons, List.drop_zero]
        change wpStill _ _ (World.drew _) (fun a' => wpList _ _ _ _ a' (World.drew _)) _ _
        still_step
        still_step
        still_step
        still_step
        still_step
        still_step
        still_step
        still_step
        still_step
        still_step
        still_step
        refine wpStill_nil ?_
        clear hsub htn
        go_wp2
        have hs2 : Bt.Buf 2 w.heap.size (wr.setCell ⟨g, j + 1, none⟩ (.int .i64 (wrap64 (x + y)))).drew (.slice (some ⟨g, 0, none⟩) D.length cap) D.length (Ig.mix (acc 0 D) D (j + 1 + 1)) := by
          have h1 := Ig.buf_set HB.out (.int .i64 (wrap64 (x + y))) hl2
          refine (Bt.Buf.congr h1 fun i hi => ?_ : Bt.Buf 2 w.heap.size (wr.setCell ⟨g, j + 1, none⟩ (.int .i64 (wrap64 (x + y)))) _ _ _)
          unfold Ig.mix
          by_cases he : i = j + 1
          · subst he
            rw [if_pos rfl, if_pos (Nat.lt_succ_self _), HA.out]
          · rw [if_neg he]
            by_cases h3 : i < j + 1
            · rw [if_pos h3, if_pos (by omega)]
            · rw [if_neg h3, if_neg (by omega)]
        have hg2 : w.grownBy (wr.setCell ⟨g, j + 1, none⟩ (.int .i64 (wrap64 (x + y)))).drew (some b) :=
          ⟨HGG.out.os, HGG.out.tape, HGG.out.output, by have := HGG.out.size; simpa [World.setCell] using this, fun k hk hn => (Below.heap_setCell _ _ _ _ (by show k ≠ g; omega)).trans (HGG.out.block k hk hn)⟩
        have hc2 : er = 0 → Ty.Cur b (wr.setCell ⟨g, j + 1, none⟩ (.int .i64 (wrap64 (x + y)))).drew l2 0 := fun h => by
          have := HCC.out h
          unfold Ty.Cur at this ⊢
          exact (Below.heap_setCell _ _ _ _ (by show b ≠ g; omega)).trans this
        refine ⟨⟨j + 1, .inr hl2, by simp, hs2, hc2, hg2⟩, ?_⟩
        simp [intOf]
        omega
      · have hki : ¬ (j : Int) + 1 < (D.length : Int) := by omega
        go_wp2
        go_ret2
        refine ⟨_, rfl, ?_, HCC.out, HGG.out⟩
        rw [HDD.out]
        have h1 : Bt.Buf 2 w.heap.size _ (.slice (some ⟨g, 0, none⟩) D.length cap) D.length (Ig.iv (acc 0 D)) := Bt.Buf.congr HB.out fun i hi => by
          unfold Ig.mix Ig.iv
          rw [if_pos (by omega)]
        unfold Ig.Own
        rw [Ig.acc_len]
        exact h1
end Go.Proofs.YtkgmildbhelelaaDoor
