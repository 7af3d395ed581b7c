/-
  Contracts of package ints: numbers that a call owns; the plain reader.
-/
import Derived.Test.YtkgmildbhelelaaDoorI8
import Derived.Laws.MakeOwn
namespace Go.Proofs.YtkgmildbhelelaaDoor
open Go.RowKit
open Ig (nth encI encR grp diffs prv low off sg rest rdInts acc)
open Ty (encU num)
/-- The numbers as cells; a slice of them that a call owns. -/
def Ig.iv (L : List Int) (i : Nat) : Value := .int .i64 (nth L i)
def Ig.Own (base : Nat) (w : World) (v : Value) (L : List Int) : Prop := Bt.Buf 2 base w v L.length (Ig.iv L)
theorem Ig.infoI : (Tryd.prog.info? 2).map (fun i => (i.zero, i.size, i.bytes)) = some (some (.int .i64 0), 1, 8) := by kernel_rfl
theorem Ig.nth_snoc (M : List Int) (x : Int) : nth (M ++ [x]) M.length = x := by simp [nth]
theorem Ig.nth_left (M R : List Int) {i : Nat} (h : i < M.length) : nth (M ++ R) i = nth M i := by
  unfold nth
  rw [List.getD, List.getD, List.getElem?_append_left h]
theorem Ig.Own.nil (base : Nat) (w : World) : Ig.Own base w (.slice none 0 0) [] := Bt.Buf.nil _ _ _ _
theorem Ig.Own.pre {base : Nat} {w : World} {v : Value} {M : List Int} (h : Ig.Own base w v M) (x : Int) : Bt.Buf 2 base w v M.length (Ig.iv (M ++ [x])) :=
  Bt.Buf.congr h fun i hi => by unfold Ig.iv; rw [Ig.nth_left M [x] hi]
theorem Ig.Own.post {base : Nat} {w : World} {v : Value} {M : List Int} {x : Int} (h : Bt.Buf 2 base w v (M.length + 1) (Ig.iv (M ++ [x]))) : Ig.Own base w v (M ++ [x]) := by
  unfold Ig.Own
  rw [List.length_append, List.length_singleton]
  exact h
theorem Ig.iv_snoc (M : List Int) (x : Int) : Value.int .i64 x = Ig.iv (M ++ [x]) M.length := by unfold Ig.iv; rw [Ig.nth_snoc]
theorem Ig.buf_ne {e : TypeId} {base : Nat} {w : World} {v : Value} {n : Nat} {f : Nat → Value} (h : Bt.Buf e base w v n f) {b : Nat} (hb : b < base) : v.ownBlock ≠ some b := fun e => by have := h.base_le b e; omega
theorem Ig.buf_by {e : TypeId} {base b : Nat} {w w' : World} {v : Value} {n : Nat} {f : Nat → Value} (h : Bt.Buf e base w v n f) (hg : w.grownBy w' (some b)) (hb : b < base) : Bt.Buf e base w' v n f :=
  World.ownsRow.kept h hg (.inr (Ig.buf_ne h hb))
theorem Ig.Own.by {base b : Nat} {w w' : World} {v : Value} {L : List Int} (h : Ig.Own base w v L) (hg : w.grownBy w' (some b)) (hb : b < base) : Ig.Own base w' v L := Ig.buf_by h hg hb
theorem Ig.Own.at {base : Nat} {w : World} {v : Value} {L : List Int} (h : Ig.Own base w v L) : Ig.At w.heap.size w v L := by
  have hs := Bt.Buf.sl h
  obtain ⟨a, c, rfl, h1⟩ := hs
  have hc : L.length ≤ c := by
    rcases h.2 with ⟨e, e0⟩ | ⟨g, cap, cur, e, _, _, hcap, _⟩
    · omega
    · simp only [Value.slice.injEq] at e
      omega
  refine ⟨a, c, rfl, hc, Nat.le_refl _, ?_⟩
  rcases h1 with h1 | h1
  · exact .inl (List.eq_nil_of_length_eq_zero h1)
  · exact .inr h1
/-- A Grew as growing of one row. -/
theorem Ig.grew_by {w w' : World} {v v' : Value} (h : Ty.Grew w w' v v') {w0 : World} {b : Nat} (g : w0.grownBy w (some b)) (hv : ∀ k, v.ownBlock = some k → w0.heap.size ≤ k) : w0.grownBy w' (some b) :=
  ⟨h.by_.os.trans g.os, h.by_.tape.trans g.tape, h.by_.output.trans g.output, Nat.le_trans g.size h.by_.size, fun k hk hn => (h.by_.block k (Nat.lt_of_lt_of_le hk g.size) (fun e => by have := hv k e.symm; omega)).trans (g.block k hk hn)⟩
theorem Ig.below_by {w w' w0 : World} (h : Below w.heap.size w w') {b : Nat} (g : w0.grownBy w (some b)) : w0.grownBy w' (some b) :=
  ⟨h.os.trans g.os, h.tape.trans g.tape, h.output.trans g.output, Nat.le_trans g.size h.size, fun k hk hn => (h.block k (Nat.lt_of_lt_of_le hk g.size)).trans (g.block k hk hn)⟩
theorem Ig.cur_grew {b : Nat} {w w' : World} {v v' : Value} {l : List UInt8} {e : Nat} (h : Ty.Cur b w l e) (g : Ty.Grew w w' v v') (hv : v.ownBlock ≠ some b) : Ty.Cur b w' l e := h.by g.by_ hv
/-- The cursor's numbers in our own words. -/
theorem Ig.cint_m (b : Nat) (l : List UInt8) (w : World) (hw : Ty.Tabs w) (h : Ty.Cur b w l 0) (hl : l.length ≤ 9223372036854775807) :
    Calls Tryd.prog 95 #[.pointer (some ⟨b, 0, none⟩)] w (Ty.Left b w (.int .i64 (sg l)) (rest l) (num l).2.2) := by
  have e : Ty.rdU l 0 = ((num l).1, rest l, (num l).2.2) := by unfold Ty.rdU; rw [if_neg (by omega)]; rfl
  have := Ty.cint_c b l 0 w hw h hl
  rw [e] at this
  exact this
theorem Ig.cuint_m (b : Nat) (l : List UInt8) (w : World) (hw : Ty.Tabs w) (h : Ty.Cur b w l 0) (hl : l.length ≤ 9223372036854775807) :
    Calls Tryd.prog 39 #[.pointer (some ⟨b, 0, none⟩)] w (Ty.Left b w (.int .u64 ((num l).1 : Int)) (rest l) (num l).2.2) := by
  have e : Ty.rdU l 0 = ((num l).1, rest l, (num l).2.2) := by unfold Ty.rdU; rw [if_neg (by omega)]; rfl
  have := Ty.cuint_c b l 0 w hw h hl
  rw [e] at this
  exact this
theorem Ig.rest_le (l : List UInt8) : (rest l).length ≤ l.length := by unfold rest; rw [List.length_drop]; omega
/-- What a reader leaves. -/
def Ig.Rd (b : Nat) (w : World) (r : Nat × List Int × List UInt8) (e : Ending) (w' : World) : Prop :=
  ∃ v, e = .returned (.tuple #[v, .int .i64 ((r.1 : Nat) : Int)]) ∧ Ig.Own w.heap.size w' v (if r.1 = 0 then r.2.1 else []) ∧ (r.1 = 0 → Ty.Cur b w' r.2.2 0) ∧ w.grownBy w' (some b)
theorem Ig.Rd.bad {b : Nat} {w w' : World} {r : Nat × List Int × List UInt8} {z : Int} (hz : z = ((r.1 : Nat) : Int)) (h : r.1 ≠ 0) (g : w.grownBy w' (some b)) : Ig.Rd b w r (.returned (.tuple #[.slice none 0 0, .int .i64 z])) w' :=
  ⟨_, by rw [hz], by rw [if_neg h]; exact Ig.Own.nil _ _, fun e => absurd e h, g⟩
theorem Ig.Rd.good {b : Nat} {w w' : World} {r : Nat × List Int × List UInt8} {v : Value} (h : r.1 = 0) (ho : Ig.Own w.heap.size w' v r.2.1) (hc : Ty.Cur b w' r.2.2 0) (g : w.grownBy w' (some b)) : Ig.Rd b w r (.returned (.tuple #[v, .int .i64 0])) w' :=
  ⟨_, by rw [h]; rfl, by rw [if_pos h]; exact ho, fun _ => hc, g⟩
/-- So far: k of the numbers are read. -/
def Ig.Mid (n : Nat) (l : List UInt8) (k : Nat) (M : List Int) (l2 : List UInt8) : Prop := M.length = k ∧ k ≤ n ∧ l2.length ≤ l.length ∧ rdInts n l = ((rdInts (n - k) l2).1, M ++ (rdInts (n - k) l2).2.1, (rdInts (n - k) l2).2.2)
theorem Ig.Mid.next {n : Nat} {l : List UInt8} {k : Nat} {M : List Int} {l2 : List UInt8} (h : Ig.Mid n l k M l2) (hk : k < n) (h0 : (num l2).2.2 = 0) : Ig.Mid n l (k + 1) (M ++ [sg l2]) (rest l2) := by
  obtain ⟨h1, h2, h3, h4⟩ := h
  refine ⟨by simp [h1], by omega, Nat.le_trans (Ig.rest_le l2) h3, ?_⟩
  have e : n - k = (n - (k + 1)) + 1 := by omega
  rw [h4, e]
  simp only [rdInts]
  rw [if_neg (by rw [h0]; simp)]
  simp
theorem Ig.Mid.fail {n : Nat} {l : List UInt8} {k : Nat} {M : List Int} {l2 : List UInt8} (h : Ig.Mid n l k M l2) (hk : k < n) (h0 : (num l2).2.2 ≠ 0) : (rdInts n l).1 = (num l2).2.2 := by
  obtain ⟨h1, h2, h3, h4⟩ := h
  have e : n - k = (n - (k + 1)) + 1 := by omega
  rw [h4, e]
  simp only [rdInts]
  rw [if_pos h0]
theorem Ig.Mid.done {n : Nat} {l : List UInt8} {M : List Int} {l2 : List UInt8} (h : Ig.Mid n l n M l2) : rdInts n l = (0, M, l2) := by
  obtain ⟨h1, h2, h3, h4⟩ := h
  rw [h4, Nat.sub_self]
  simp [rdInts]
set_option maxHeartbeats 1000000 in
theorem Ig.readPlain_c (b n : Nat) (l : List UInt8) (w : World) (hw : Ty.Tabs w) (hG : Ty.G ≤ b) (h : Ty.Cur b w l 0) (hl : l.length ≤ 140737488355328) (hn : n ≤ 65536) :
    Calls Tryd.prog 61 #[.pointer (some ⟨b, 0, none⟩), .int .i64 n] w (Ig.Rd b w (rdInts n l)) := by
  obtain ⟨i0, hi0, hz0, hz1, hz2⟩ := info_parts Ig.infoI
  have hbw := h.lt
  have hmk : ∀ m : Nat, m ≤ 65536 → ∃ w2, (Instr.makeSlice 22 (.int .i64 0) (.int .i64 (m : Int))).run Tryd.prog w = .ok (.slice (some ⟨w.heap.size, 0, none⟩) 0 m) w2 ∧ w2.ownsRow w.heap.size 2 1 (.slice (some ⟨w.heap.size, 0, none⟩) 0 m) 0 [] ∧ w.grownBy w2 none := fun m hm =>
    run_make_own w w.heap.size 22 2 i0 _ 1 Tryd.underlying22 hi0 hz0 hz1 .i64 .i64 m (by rw [hz2]; omega) (by unfold maxLen; omega) (Nat.le_refl _)
  have hm0 : Ig.Mid n l 0 [] l := ⟨rfl, by omega, Nat.le_refl _, by simp⟩
  have HM0 := Lib.hid hm0
  clear hm0 hi0 hz0 hz1 hz2
  by_cases hle : (n : Int) ≤ (l.length : Int)
  all_goals
    go_enter Tryd.func61, Tryd.ntmps61
    go_wp2_with fail
    refine (Ty.left_c b l 0 _ h).mono ?_
    rintro e w1 ⟨rfl, rfl⟩
    first
      | (have hm2 : n ≤ l.length := by omega
         obtain ⟨w2, hmr, hown, hg2⟩ := hmk n hn)
      | obtain ⟨w2, hmr, hown, hg2⟩ := hmk l.length (by omega)
    have hc2 := h.none_ hg2
    have H2 := Lib.hid hown
    have hgb := Ty.by_some hg2 b
    clear hmk hown
    go_wp2_with fail
    go_loopw [6, 14] (fun lv i wr => ∃ k M l2, i = .int .i64 ((k : Nat) : Int) ∧ Ig.Mid n l k M l2 ∧ Ig.Own w1.heap.size wr lv M ∧ Ty.Cur b wr l2 0 ∧ w1.grownBy wr (some b)) (fun _ i _ => n - (intOf i).toNat)
    case atStart => exact ⟨0, [], l, rfl, HM0.out, H2.out, hc2, hgb⟩
    case round =>
      obtain ⟨k, M, l2, rfl, hM, hO, hc, hg⟩ := hrel
      clear hmr hc2 hgb hg2
      have hT := hw.by hg (by intro k hk; cases hk; exact hG)
      have hkn := hM.2.1
      have hl2 := hM.2.2.1
      have hMl := hM.1
      have HM := Lib.hid hM
      have HO := Lib.hid hO
      have HGR := Lib.hid hg
      have hws := hg.size
      clear hM hO hg
      by_cases hk : k < n
      · have hki : (k : Int) < (n : Int) := by omega
        have hk0 : (0 : Int) ≤ (k : Int) := by omega
        have ci := Ig.cint_m b l2 wr hT hc (by omega)
        by_cases he : (num l2).2.2 = 0
        · have HN := Lib.hid (HM.out.next hk he)
          rw [he] at ci
          generalize sg l2 = x at ci HN
          generalize rest l2 = l3 at ci HN
          have HL := Lib.hid hMl
          clear he hc hT hl2 hMl
          go_wp2_with fail
          refine ci.mono ?_
          rintro e w3 ⟨rfl, hc3, hg3⟩
          have hO3 := HO.out.by hg3 hbw
          have HC3 := Lib.hid hc3
          have HG3 := Lib.hid (Ty.by_trans HGR.out hg3)
          have hs3 := hg3.size
          clear ci hg3
          go_wp2_with fail
          refine (Ty.err_c b l3 0 _ HC3.out).mono ?_
          rintro e w4 ⟨rfl, rfl⟩
          have HO3 := Lib.hid hO3
          clear hO3 hc3
          go_wp2_with (at_builtin; refine Bt.wpList_append_one 2 22 (.int .i64 0) 8 Tryd.underlying22 Ig.infoI rfl (HO3.out.pre x) (by omega) (by have := HL.out; omega) (by have := HL.out; omega) (.tmp 23) (.tmp 25) _ rfl rfl rfl rfl rfl ?_; intro v5 w5 h5 g5)
          have H5 := Lib.hid (Ig.Own.post (h5 (Ig.iv_snoc M x)))
          have HC5 := Lib.hid (Ig.cur_grew HC3.out g5 (Ig.buf_ne HO3.out hbw))
          have HG5 := Lib.hid (Ig.grew_by g5 HG3.out (Bt.Buf.base_le HO3.out))
          clear h5 g5
          go_roundw
          case rel => exact ⟨k + 1, _, _, by simp, HN.out, H5.out, HC5.out, HG5.out⟩
          case measure => simp [intOf]; omega
        · have HE := Lib.hid (HM.out.fail hk he)
          generalize (num l2).2.2 = q at ci he HE
          have hne : ((q : Int) != 0) = true := by rw [bne_iff_ne]; omega
          have HQ := Lib.hid he
          clear he hT hc
          go_wp2_with fail
          refine ci.mono ?_
          rintro e w3 ⟨rfl, hc3, hg3⟩
          have HG3 := Lib.hid (Ty.by_trans HGR.out hg3)
          have HC3 := Lib.hid hc3
          clear ci hg3 hc3
          go_wp2_with fail
          refine (Ty.err_c b _ q _ HC3.out).mono ?_
          rintro e w4 ⟨rfl, rfl⟩
          go_wp2_with fail
          refine (Ty.err_c b _ q _ HC3.out).mono ?_
          rintro e w4 ⟨rfl, rfl⟩
          go_wp2
          go_ret2
          exact Ig.Rd.bad (by rw [HE.out]) (by rw [HE.out]; exact HQ.out) HG3.out
      · obtain rfl : k = n := by omega
        have hki : ¬ (k : Int) < (k : Int) := by omega
        have HD := Lib.hid HM.out.done
        have HC := Lib.hid hc
        clear hMl hc
        go_wp2
        go_ret2
        exact Ig.Rd.good (by rw [HD.out]) (by rw [HD.out]; exact HO.out) (by rw [HD.out]; exact HC.out) HGR.out
end Go.Proofs.YtkgmildbhelelaaDoor
