import Derived.Test.YtikdcmplihgdcaaZAN
import Derived.Sort.CutIn
import Derived.Test.YtikdcmplihgdcaaZAI
import Derived.Laws.OwnMore
import Derived.Test.YtikdcmplihgdcaaZAM
import Derived.Laws.ResultCell
namespace Go.Proofs.Ytikdcmplihgdcaa
section
open Go Go.RowKit Go.Shelf
attribute [local go_sem] Oper.semAt_some
def Mg.Ir (D : Nat → Prop) (w0 w3 : World) (B bb k : Nat) (L : List Dd.D) (pre : List (Option Addr × Nat × Nat)) (W : World) : Prop :=
 Rn.Kd D w3 W ∧ ∃ v Ps, W.heap[bb]? = some (.cells #[v] 22 (0, 0)) ∧ Dk.Own 25 1 Bk.e1 B W v Ps ∧ Ps.length = pre.length ∧
  ∀ i p, Ps[i]? = some p → ∃ Es, Dk.Own 41 2 Rn.e2 B W (Bk.sv p) Es ∧ Mg.Rd w0 Es (Mg.part k L i)
theorem Mg.Ir.own {D : Nat → Prop} {w0 w3 : World} {B bb k : Nat} {L : List Dd.D} (hD : ∀ b, D b → b < w3.heap.size) : OwnFrom w3.heap.size (Mg.Ir D w0 w3 B bb k L) := by
 rintro pre A' B' row ⟨h1, v, Ps, h2, h3, h4, h5⟩ hg hr
 refine ⟨h1.grew hD hg hr, v, Ps, Rn.blk_own h2 hg hr, Rn.own_own w3.heap.size _ _ _ () _ _ row h3 hg hr, h4, fun i p hp => ?_⟩
 obtain ⟨Es, h6, h7⟩ := h5 i p hp
 exact ⟨Es, Rn.own_own w3.heap.size _ _ _ () _ _ row h6 hg hr, h7⟩
theorem Mg.part_ds {w : World} {b o c k : Nat} {L : List Dd.D} (h : Bk.Ds w (.slice (some ⟨b, o, none⟩) L.length c) L) (i : Nat) : Bk.Ds w (Bk.sv (Mg.ck b o L.length k i)) (Mg.part k L i) := by
 have hl : (Mg.part k L i).length = min k (L.length - k * i) := by unfold Mg.part; rw [List.length_take, List.length_drop]
 obtain ⟨a, c', e, h1, h2, h⟩ := h
 simp only [Value.slice.injEq] at e
 obtain ⟨rfl, _, rfl⟩ := e
 refine ⟨_, _, by unfold Bk.sv Mg.ck; rw [hl], by rw [hl]; exact Nat.le_refl _, Nat.le_trans (Nat.min_le_right _ _) (by omega), ?_⟩
 rcases h with rfl | ⟨b', o', e, hb, hc⟩
 ·exact .inl (by unfold Mg.part; simp)
 ·simp only [Option.some.injEq, Addr.mk.injEq, and_true] at e
  obtain ⟨rfl, rfl⟩ := e
  refine .inr ⟨b, _, rfl, hb, fun j x hx => ?_⟩
  unfold Mg.part at hx
  rw [List.getElem?_take] at hx
  split at hx
  ·rw [List.getElem?_drop] at hx
   have := hc (k * i + j) x hx
   rwa [show o + (k * i + j) * 2 = o + k * i * 2 + j * 2 by rw [Nat.add_mul]; omega] at this
  ·cases hx
theorem Mg.part_ne {k i : Nat} {L : List Dd.D} (hk : 1 ≤ k) (hi : i < Mg.nb L.length k) : Mg.part k L i ≠ [] := by
 have : Mg.part k L i ∈ Mg.cut k L := List.mem_map.2 ⟨i, List.mem_range.2 hi, rfl⟩
 exact Mg.cut_ne hk this
set_option maxHeartbeats 1000000 in
set_option maxRecDepth 100000 in
theorem Mg.chunk0_seq {w : World} {D : Nat → Prop} {a : Option Addr} {c bs bn m : Nat} (c1 : w.cell? ⟨bs, 0, none⟩ = some (.slice a 0 c)) (c2 : w.cell? ⟨bn, 0, none⟩ = some (.int .i64 (m : Int))) :
 Rn.Seq Try.prog 40 #[.pointer (some ⟨bs, 0, none⟩), .pointer (some ⟨bn, 0, none⟩)] (fun x args _ => args = #[Bk.sv x]) D [] w := by
 intro l J Jx W hW hJ hJx hY h0
 have d1 := (hW.cell (p := ⟨bs, 0, none⟩) (World.block_lt_of_cell? w _ c1)).trans c1
 have d2 := (hW.cell (p := ⟨bn, 0, none⟩) (World.block_lt_of_cell? w _ c2)).trans c2
 have HJ0 := Lib.hid h0
 clear c1 c2 hW hJ hJx hY h0
 refine callsIn_of_wp Try.func40 rfl trivial ?_ rfl
 simp only [Try.ntmps40, List.size_toArray, List.length_cons, List.length_nil, Nat.reduceAdd, Nat.reduceSub, Array.replicate_succ, Array.replicate_zero, List.push_toArray, List.append_toArray, List.nil_append, List.cons_append]
 gi_wp2
 gi_loopw [4] (fun at_ wr => at_ = .int .i64 0 ∧ wr = W) (fun _ _ => 0)
 case atStart => exact ⟨rfl, rfl⟩
 case round =>
  obtain ⟨rfl, h9⟩ := hrel
  subst h9
  gi_wp2
  go_end0
  exact ⟨⟨_, rfl⟩, .inl HJ0.out⟩
theorem Mg.chunkA_seq {w : World} {D : Nat → Prop} {a : Option Addr} {b o n c bs bn m : Nat} (c1 : w.cell? ⟨bs, 0, none⟩ = some (.slice a n c)) (c2 : w.cell? ⟨bn, 0, none⟩ = some (.int .i64 (m : Int))) (ha : n = 0 ∨ a = some ⟨b, o, none⟩) (h1 : D bs) (h2 : D bn) (hc : n ≤ c) (hn : n ≤ 4398046511104) (hm : 1 ≤ m) (hm2 : m ≤ 9223372036854775807) :
 Rn.Seq Try.prog 40 #[.pointer (some ⟨bs, 0, none⟩), .pointer (some ⟨bn, 0, none⟩)] (fun x args _ => args = #[Bk.sv x]) D (Mg.cks b o n m (Mg.nb n m)) w := by
 rcases ha with rfl | rfl
 ·have h0 : Mg.nb 0 m = 0 := Nat.le_zero.1 (Mg.nb_le hm (Nat.zero_le _))
  rw [h0]
  exact Mg.chunk0_seq c1 c2
 ·exact Mg.chunk1_seq c1 c2 h1 h2 hc hn hm hm2
theorem Mg.box_grew {α : Type} {e t : TypeId} {k : Nat} {enc : α → List Value} {B bb : Nat} {w w' : World} {v v' : Value} {M : List α} {cs : Array Value} {f : Nat × Nat} (h : Dk.Own e k enc B w v M) (g : Ty.Grew w w' v v') (hb : w.heap[bb]? = some (.cells cs t f)) (he : t ≠ e) : w'.heap[bb]? = w.heap[bb]? :=
 g.by_.block bb (Array.getElem?_eq_some_iff.1 hb).1 fun e' => by
  obtain ⟨cs2, h2⟩ := h.typed bb e'.symm
  rw [hb] at h2
  simp only [Option.some.injEq, Obj.cells.injEq] at h2
  exact he h2.2.1
theorem Mg.own_setbox {α : Type} {e t : TypeId} {k : Nat} {enc : α → List Value} {B bb : Nat} {w : World} {v : Value} {M : List α} {cs : Array Value} {f : Nat × Nat} (h : Dk.Own e k enc B w v M) (hb : w.heap[bb]? = some (.cells cs t f)) (he : t ≠ e) (i : Nat) (u : Value) : Dk.Own e k enc B (w.setCell ⟨bb, i, none⟩ u) v M :=
 h.same fun b hv => heap_setCell_other w ⟨bb, i, none⟩ b _ fun e9 => by
  obtain ⟨cs2, h2⟩ := h.typed b hv
  have e9 : b = bb := e9
  rw [e9, hb] at h2
  simp only [Option.some.injEq, Obj.cells.injEq] at h2
  exact he h2.2.1
theorem Mg.ir_step {D : Nat → Prop} {w0 w3 W w31 w9 : World} {m q k : Nat} {L : List Dd.D} {pre : List (Option Addr × Nat × Nat)} {x u : Option Addr × Nat × Nat} {v v9 : Value} {Ps : List (Option Addr × Nat × Nat)} {Es : List Mg.Y}
 (hD : D = fun b => b < m + 2 ∧ b ≠ q) (_ : q < m + 2) (hkd : Rn.Kd D w3 W) (hbk : W.heap[q]? = some (.cells #[v] 22 (0, 0))) (hown : Dk.Own 25 1 Bk.e1 (m + 2) W v Ps) (hpl : Ps.length = pre.length)
 (hps : ∀ i p, Ps[i]? = some p → ∃ Es, Dk.Own 41 2 Rn.e2 (m + 2) W (Bk.sv p) Es ∧ Mg.Rd w0 Es (Mg.part k L i)) (g31 : Below W.heap.size W w31) (ho : Dk.Own 41 2 Rn.e2 (m + 2) w31 (Bk.sv u) Es) (hrd : Mg.Rd w0 Es (Mg.part k L pre.length))
 (o9 : Dk.Own 25 1 Bk.e1 (m + 2) w9 v9 (Ps ++ [u])) (g9 : Ty.Grew w31 w9 v v9) :
 KeepsFrom w3.heap.size W (w9.setCell ⟨q, 0, none⟩ v9) ∧ Rn.Kd D W (w9.setCell ⟨q, 0, none⟩ v9) ∧ Mg.Ir D w0 w3 (m + 2) q k L (pre ++ [x]) (w9.setCell ⟨q, 0, none⟩ v9) := by
 have hown1 := hown.kept g31
 have hbk1 := (g31.block _ (Array.getElem?_eq_some_iff.1 hbk).1).trans hbk
 have hbk9 := (Mg.box_grew hown1 g9 hbk1 (by decide)).trans hbk1
 have hk : Rn.Kd D W (w9.setCell ⟨q, 0, none⟩ v9) := (Rn.Kd.below g31).trans ((Rn.Kd.grown g9.by_ fun r hr => by
  rw [hD]
  have := hown1.base_le r (by first | exact hr | exact hr.symm)
  omega).trans (Rn.Kd.set _ (by rw [hD]; simp) _))
 have keep : ∀ p Fs, Dk.Own 41 2 Rn.e2 (m + 2) w31 p Fs → Dk.Own 41 2 Rn.e2 (m + 2) (w9.setCell ⟨q, 0, none⟩ v9) p Fs := fun p Fs h =>
  Mg.own_setbox (h.same fun b hb => by
   obtain ⟨cs, hc⟩ := h.typed b hb
   exact Mg.box_grew hown1 g9 hc (by decide)) hbk9 (by decide) 0 v9
 refine ⟨(Rn.kf_below g31).trans ((Rn.kf_grew hown1 g9).trans ((KeepsOthers.setCell _ _ _).from _)), hk, hkd.trans hk, v9, Ps ++ [u], heap_setCell_same w9 q 0 _ _ _ hbk9, Mg.own_setbox o9 hbk9 (by decide) 0 v9, by rw [List.length_append, List.length_append, hpl]; rfl, fun i p hp => ?_⟩
 rcases Nat.lt_or_ge i Ps.length with hi | hi
 ·rw [List.getElem?_append_left hi] at hp
  obtain ⟨Fs, h1, h2⟩ := hps i p hp
  exact ⟨Fs, keep _ _ (h1.kept g31), h2⟩
 ·rw [List.getElem?_append_right hi] at hp
  cases hq : i - Ps.length with
  | zero =>
    rw [hq] at hp
    obtain rfl : u = p := by simpa using hp
    obtain rfl : i = pre.length := by omega
    exact ⟨Es, keep _ _ ho, hrd⟩
  | succ j => rw [hq] at hp; simp at hp
theorem Mg.own_putobj {α : Type} {e : TypeId} {k : Nat} {enc : α → List Value} {B N : Nat} {w : World} {v : Value} {M : List α} {o o' : Obj} (h : Dk.Own e k enc B w v M) (hN : w.heap[N]? = some o) (ho : o.isCells = false) : Dk.Own e k enc B (w.putObj N o') v M :=
 h.same fun b hb => World.putObj_heap_other fun e9 => by
  obtain ⟨cs, hc⟩ := h.typed b hb
  rw [e9, hN] at hc
  cases Option.some.inj hc
  cases ho
theorem Mg.done_ls {w W : World} {B N k : Nat} {L : List Dd.D} {v : Value} {Ps : List (Option Addr × Nat × Nat)} {o : Obj} (hown : Dk.Own 25 1 Bk.e1 B W v Ps) (hpl : Ps.length = Mg.nb L.length k)
 (hps : ∀ i p, Ps[i]? = some p → ∃ Es, Dk.Own 41 2 Rn.e2 B W (Bk.sv p) Es ∧ Mg.Rd w Es (Mg.part k L i)) (hb : Below w.heap.size w W) (hN : w.heap.size ≤ N) (hK : W.heap[N]? = some (.deferred (some []))) : Mg.Ls (W.putObj N o) v (Mg.cut k L) := by
 have hb2 : Below w.heap.size w (W.putObj N o) := ⟨hb.os, hb.tape, hb.output, by simpa using hb.size, fun b hx => (World.putObj_heap_other (by omega)).trans (hb.block b hx)⟩
 refine Mg.own_ls (Mg.own_putobj hown hK rfl) (by rw [hpl]; unfold Mg.cut Mg.nb; simp) fun i X hX => ?_
 unfold Mg.cut at hX
 rw [List.getElem?_map] at hX
 cases hr : (List.range ((L.length + k - 1) / k))[i]? with
 | none => rw [hr] at hX; cases hX
 | some j =>
   rw [hr] at hX
   obtain ⟨hi, hj⟩ := List.getElem?_eq_some_iff.1 hr
   rw [List.getElem_range] at hj
   subst hj
   rw [List.length_range] at hi
   obtain rfl : Mg.part k L i = X := by simpa using hX
   have hp := List.getElem?_eq_getElem (show i < Ps.length by rw [hpl]; exact hi)
   obtain ⟨Es, h1, h2⟩ := hps i _ hp
   exact ⟨_, hp, Mg.own_rd (Mg.own_putobj h1 hK rfl) h2 hb2⟩
set_option maxHeartbeats 8000000 in
set_option maxRecDepth 100000 in
theorem Mg.split_c (v : Value) (L : List Dd.D) (n : Int) (w : World) (hv : Bk.Ds w v L) (hl : L.length ≤ 4398046511104) (hn : n ≤ 9223372036854775807) :
 Calls Try.prog 14 #[v, .int .i64 n] w fun e w' => ∃ u, e = .returned u ∧ Mg.Ls w' u (Mg.cut (Mg.step n L.length) L) ∧ Below w.heap.size w w' := by
 obtain ⟨a, c, rfl, hlc, hcm, h⟩ := id hv
 have hbo : ∃ b o, L.length = 0 ∨ a = some ⟨b, o, none⟩ := by
  rcases h with h | ⟨b, o, ha, _⟩
  ·exact ⟨0, 0, .inl (by rw [h]; rfl)⟩
  ·exact ⟨b, o, .inr ha⟩
 obtain ⟨b, o, hbo⟩ := hbo
 obtain ⟨k, hk⟩ : ∃ k, k = Mg.step n L.length := ⟨_, rfl⟩
 have hk1 : 1 ≤ k := by rw [hk]; exact Mg.step_pos n _
 have hk2 : k ≤ 9223372036854775807 := by rw [hk]; unfold Mg.step; split <;> omega
 have HNB : Hid (∀ i, i < Mg.nb L.length k → i < L.length) := Lib.hid fun i hi => by
  rcases Nat.lt_or_ge i L.length with h1 | h1
  ·exact h1
  ·have h2 := Mg.nb_le (n := L.length) (k := i) hk1 (Nat.le_trans h1 (by have := Nat.mul_le_mul_right i hk1; omega))
   omega
 have HPD : Hid (∀ i, i < Mg.nb L.length k → Bk.Ds w (Bk.sv (Mg.ck b o L.length k i)) (Mg.part k L i)) := Lib.hid fun i hi => by
  rcases hbo with h0 | rfl
  ·have := HNB.out i hi; omega
  ·exact Mg.part_ds hv i
 have HPN : Hid (∀ i, i < Mg.nb L.length k → Mg.part k L i ≠ []) := Lib.hid fun i hi => Mg.part_ne hk1 hi
 have HPL : Hid (∀ i, (Mg.part k L i).length ≤ 4398046511104) := Lib.hid fun i => by
  unfold Mg.part
  rw [List.length_take, List.length_drop]
  omega
 have HBO := Lib.hid hbo
 have HN := Lib.hid (And.intro hlc (And.intro hl (And.intro hk1 hk2)))
 have HK := Lib.hid hk
 obtain ⟨q, hq⟩ : ∃ q, q = w.heap.size := ⟨_, rfl⟩
 obtain ⟨w2, hw2⟩ : ∃ w2, w2 = w.alloc (.cells #[.slice none 0 0] 22) := ⟨_, rfl⟩
 have HB2 : Hid (Below w.heap.size w w2 ∧ w2.heap[q]? = some (.cells #[.slice none 0 0] 22 (0, 0))) := Lib.hid ⟨by rw [hw2]; exact (Below.refl _ w).alloc (Nat.le_refl _) _, by rw [hw2, hq]; exact heap_alloc_new w _⟩
 obtain ⟨m, hm⟩ : ∃ m, m = w2.heap.size := ⟨_, rfl⟩
 have HMQ : Hid (m = q + 1 ∧ q = w.heap.size) := Lib.hid ⟨by rw [hm, hw2, World.size_alloc, hq], hq⟩
 have CC := Lib.hid (Mg.chunk_c (w := w2) a L.length c m k hm hk1)
 have hl0 : (0 : Int) ≤ (L.length : Int) := by omega
 by_cases hn1 : n < 1
 ·have HMX : Hid ((if (L.length : Int) < 1 then (1 : Int) else (L.length : Int)) = (k : Int)) := Lib.hid (by rw [hk]; unfold Mg.step; rw [if_pos hn1]; split <;> omega)
  clear hv h hbo hk hk1 hk2 hlc hcm hm hl hn
  rw [← callsIn_wide (n := 9)]
  refine callsIn_of_wp_marks Try.func14 rfl trivial ?_ rfl
  simp only [Try.ntmps14, List.size_toArray, List.length_cons, List.length_nil, Nat.reduceAdd, Nat.reduceSub, Array.replicate_succ, Array.replicate_zero, List.push_toArray, List.append_toArray, List.nil_append, List.cons_append]
  gi_upto_region 4 with (fail)
  rw [← hw2, ← hq]
  simp only [HMX.out]
  clear hw2 hq
  gi_wp2_with (refine ⟨trivial, ?_⟩; gi_at_call 28; refine (callsIn_wide.2 CC.out).mono ?_; rintro e w3 ⟨rfl, c1, c2, g3, hz3⟩)
  obtain ⟨D, hD⟩ : ∃ D : Nat → Prop, D = fun b => b < m + 2 ∧ b ≠ q := ⟨_, rfl⟩
  have HD := Lib.hid hD
  have HZ3 := Lib.hid hz3
  have HDl : Hid (∀ b, D b → b < w3.heap.size) := Lib.hid fun b hb => by rw [hD] at hb; omega
  have HSEQ := Lib.hid (Mg.chunkA_seq (b := b) (o := o) (D := D) c1 c2 HBO.out (by rw [hD]; have := HMQ.out; omega) (by rw [hD]; have := HMQ.out; omega) HN.out.1 HN.out.2.1 HN.out.2.2.1 HN.out.2.2.2)
  have H30 : Hid (w3.heap[q]? = some (.cells #[.slice none 0 0] 22 (0, 0))) := Lib.hid ((g3.block _ (Array.getElem?_eq_some_iff.1 HB2.out.2).1).trans HB2.out.2)
  have HB3 : Hid (Below w.heap.size w w3) := Lib.hid (HB2.out.1.trans (g3.mono HB2.out.1.size))
  clear c1 c2 g3 hz3 hD CC
  refine Rn.range_w (gf := 40) rfl (enters_of Try.func40 (by kernel_rfl) rfl)
   HSEQ.out (Below.refl _ _) HDl.out (fun x args W he => by rw [he]; rfl)
   (Mg.Ir D w w3 (m + 2) q k L) (fun _ _ _ => False) (Mg.Ir.own HDl.out) (fun c s A' B' row h => h.elim) ⟨Rn.Kd.below (Below.refl _ _), _, [], H30.out, Dk.Own.nil _ _, rfl, fun i p hp => by simp at hp⟩
   (fun pre x a' W => a' = { tmps := #[.slice a L.length c, .int .i64 (k : Int), undef, undef, .slice none 0 0, .pointer (some ⟨q, 0, none⟩), Bk.sv x, .int .i64 n, .bool true, .slice a L.length c, .int .i64 (L.length : Int), .int .i64 (k : Int), .slice a L.length c, .int .i64 (k : Int), .func (.func 40) #[] #[.pointer (some ⟨m, 0, none⟩), .pointer (some ⟨m + 1, 0, none⟩)], Bk.sv x, undef, undef, undef, undef, undef, undef], defers := [] } ∧ Mg.Ir D w w3 (m + 2) q k L pre W) ?zownA ?zassign ?zbody ?zdone ?zstop
  case zownA =>
   rintro pre x a' u A' B' row ⟨h0, h1⟩ hg hr
   exact ⟨h0, Mg.Ir.own HDl.out _ _ _ row h1 hg hr⟩
  case zassign =>
   rintro l pre x args W hI rfl hpx hbW
   have HI := Lib.hid hI
   clear hI hpx hbW
   gi_wp2
   exact ⟨Below.refl _ _, by first | rfl | trivial, HI.out⟩
  case zbody =>
   rintro l pre x a' W hl hlr ⟨rfl, hkd, v, Ps, hbk, hown, hpl, hps⟩ hpx hkw
   obtain ⟨hi, rfl⟩ := Mg.cks_at hpx
   have hlow : Below w.heap.size w3 W := hkd.low (fun b hb => by rw [HD.out]; have := HMQ.out; omega) HB3.out.size
   have hBW : Below w.heap.size w W := HB3.out.trans hlow
   have HDW : Hid (Below W.heap.size W W.drew) := Lib.hid (Below.refl _ W).drew
   have HCW := Lib.hid (Mg.dclone_c (w := W.drew) (HPD.out pre.length hi) hBW.drew (HPN.out pre.length hi) (HPL.out pre.length))
   have c0 : W.cell? ⟨q, 0, none⟩ = some v := by rw [cell_of_row _ _ _ _ _ _ hbk]; rfl
   have HW3 : Hid (w3.heap.size ≤ W.heap.size) := Lib.hid hkd.size
   have HTL : Hid (Ps.length + 1 ≤ 4398046511104) := Lib.hid (by have := HNB.out _ hi; have := HN.out.2.1; omega)
   have HKD := Lib.hid hkd
   have HBK := Lib.hid hbk
   have HOW := Lib.hid hown
   have HPS := Lib.hid (And.intro hpl hps)
   obtain ⟨va, vn, vc, rfl⟩ : ∃ a n c, v = .slice a n c := by
    rcases hown.form with ⟨e, _⟩ | ⟨g, c, e, _⟩
    ·exact ⟨none, 0, 0, e⟩
    ·exact ⟨_, _, c, e⟩
   have HCB : Hid (∀ W', Below W.heap.size W W' → W'.cell? ⟨q, 0, none⟩ = some (.slice va vn vc)) := Lib.hid fun W' g => (g.cell (World.block_lt_of_cell? W _ c0)).trans c0
   have HSTEP : Hid (∀ x w31 u Es w9 v9, Below W.heap.size W w31 → Dk.Own 41 2 Rn.e2 (m + 2) w31 (Bk.sv u) Es → Mg.Rd w Es (Mg.part k L pre.length) → Dk.Own 25 1 Bk.e1 (m + 2) w9 v9 (Ps ++ [u]) → Ty.Grew w31 w9 (.slice va vn vc) v9 → KeepsFrom w3.heap.size W (w9.setCell ⟨q, 0, none⟩ v9) ∧ Rn.Kd D W (w9.setCell ⟨q, 0, none⟩ v9) ∧ Mg.Ir D w w3 (m + 2) q k L (pre ++ [x]) (w9.setCell ⟨q, 0, none⟩ v9)) := Lib.hid fun x w31 u Es w9 v9 h1 h2 h3 h4 h5 => Mg.ir_step HD.out (by have := HMQ.out; omega) hkd hbk hown hpl hps h1 h2 h3 h4 h5
   generalize Mg.ck b o L.length k pre.length = x at HCW ⊢
   obtain ⟨x1, x2, x3⟩ := x
   have HSTEP := Lib.hid (HSTEP.out (x1, x2, x3))
   unfold Bk.sv at HCW ⊢
   clear hl hlr hkd hbk hown hpx hkw hi hlow hBW hpl hps c0
   gi_upto_region 6 with (fail)
   refine Rn.any_region (by kernel_rfl) (by kernel_rfl) ?_
   refine Rn.any_two (i := 0) (k := 1) (by kernel_rfl) rfl rfl (fun K hK => ?za1) (fun K hK => ?zb1)
   case' za1 =>
    have c8 := HCB.out W.drew HDW.out
    go_simp
    refine hK.out _ _ ?_
    clear hK K c8
   case' zb1 =>
    go_simp
    refine hK.out _ _ ?_
    clear hK K
   refine Rn.any_two (i := 0) (k := 2) (by kernel_rfl) rfl rfl (fun K hK => ?za2) (fun K hK => ?zb2)
   case' za2 =>
    have c8 := HCB.out W.drew HDW.out
    go_simp
    refine hK.out _ _ ?_
    clear hK K c8
   case' zb2 =>
    go_simp
    go_at_call 29
    (with_reducible refine (HCW.out).mono ?_); rintro e w31 ⟨⟨ua, un, uc⟩, Es, rfl, ho31, hrd31, g31⟩
    have HB31 : Hid (Below W.heap.size W w31) := Lib.hid (HDW.out.trans (g31.mono HDW.out.size))
    have HPO : Hid (Dk.Own 41 2 Rn.e2 (m + 2) w31 (Bk.sv (ua, un, uc)) Es) := Lib.hid (Mg.own_mono ho31 (by rw [← HZ3.out]; exact Nat.le_trans HW3.out HDW.out.size))
    have HRDE := Lib.hid hrd31
    clear ho31 hrd31 g31
    go_wp2_with fail
    refine hK.out _ _ ?_
    clear hK K
   refine Rn.any_two (i := 0) (k := 3) (by kernel_rfl) rfl rfl (fun K hK => ?za3) (fun K hK => ?zb3)
   case' za3 =>
    have c8 := HCB.out w31 HB31.out
    go_simp
    refine hK.out _ _ ?_
    clear hK K c8
   case' zb3 =>
    go_simp
    refine hK.out _ _ ?_
    clear hK K
   refine Rn.any_one (i := 0) (by kernel_rfl) rfl (fun K hK => ?_)
   have c8 := HCB.out (w31.alloc (.cells #[.slice ua un uc] 25)) (HB31.out.alloc HB31.out.size _)
   go_simp
   refine hK.out _ _ ?_
   clear hK K c8
   case' za1 =>
    refine Rn.any_one (i := 1) (by kernel_rfl) rfl (fun K hK => ?_)
    go_simp
    refine hK.out _ _ ?_
    clear hK K
   case' za1 | za2 =>
    refine Rn.any_one (i := 2) (by kernel_rfl) rfl (fun K hK => ?_)
    go_simp
    go_at_call 29
    (with_reducible refine (HCW.out).mono ?_); rintro e w31 ⟨⟨ua, un, uc⟩, Es, rfl, ho31, hrd31, g31⟩
    have HB31 : Hid (Below W.heap.size W w31) := Lib.hid (HDW.out.trans (g31.mono HDW.out.size))
    have HPO : Hid (Dk.Own 41 2 Rn.e2 (m + 2) w31 (Bk.sv (ua, un, uc)) Es) := Lib.hid (Mg.own_mono ho31 (by rw [← HZ3.out]; exact Nat.le_trans HW3.out HDW.out.size))
    have HRDE := Lib.hid hrd31
    clear ho31 hrd31 g31
    go_wp2_with fail
    refine hK.out _ _ ?_
    clear hK K
   case' za1 | za2 | za3 =>
    refine Rn.any_one (i := 3) (by kernel_rfl) rfl (fun K hK => ?_)
    go_simp
    refine hK.out _ _ ?_
    clear hK K
   all_goals (
    refine Rn.any_one (i := 4) (by kernel_rfl) rfl (fun K hK => ?_)
    have hO9 := (HOW.out.kept HB31.out).kept ((Below.refl _ w31).alloc (Nat.le_refl _) (.cells #[.slice ua un uc] 25))
    have hk9 : (w31.alloc (.cells #[.slice ua un uc] 25)).heap[q]? = some (.cells #[.slice va vn vc] 22 (0, 0)) := ((HB31.out.alloc HB31.out.size _).block _ (Array.getElem?_eq_some_iff.1 HBK.out).1).trans HBK.out
    have HO9 := Lib.hid (And.intro hO9 hk9)
    clear hO9 hk9
    refine Dk.step_appendB (enc := Bk.e1) 22 _ 24 Try.underlying22 Rn.infoB rfl (by decide) Bk.e1_len Bk.e1_one [(ua, un, uc)] (base := m + 2) (by rw [← HZ3.out]; exact Nat.le_trans HW3.out (HB31.out.alloc HB31.out.size _).size) HO9.out.1 (by have := HTL.out; simp only [List.length_singleton]; omega) (by have := HTL.out; simp only [List.length_singleton]; omega) _ _ _ (by rfl) (by rfl) (by rfl) (by rfl) (Dk.src_cell (Dk.cell_new rfl)) ?_; intro v9 w9 o9 g9
    obtain ⟨v9a, v9n, v9c, hv9⟩ : ∃ a n c, v9 = .slice a n c := by
     rcases o9.form with ⟨e, _⟩ | ⟨g, c, e, _⟩
     ·exact ⟨none, 0, 0, e⟩
     ·exact ⟨_, _, c, e⟩
    subst hv9
    have hp9 := (Mg.box_grew HO9.out.1 g9 HO9.out.2 (by decide)).trans HO9.out.2
    have d9 := cell_of_row _ _ 0 _ _ _ hp9
    have k9 := frozen_of_row _ _ 0 _ _ hp9
    simp only [List.getElem?_toArray, List.getElem?_cons_zero] at d9
    have HE := Lib.hid (HSTEP.out w31 (ua, un, uc) Es w9 (.slice v9a v9n v9c) HB31.out HPO.out HRDE.out o9 (g9.behind _))
    clear o9 g9 hp9
    refine hK.out _ _ ?_
    clear hK K
    refine Rn.any_one (i := 5) (by kernel_rfl) rfl (fun K hK => ?_)
    go_simp
    refine hK.out _ _ ?_
    clear hK K
    refine wpAny_done (by kernel_rfl) ?_ _
    refine Sk.Calm.normal ?_
    clear d9 k9
    gi_wp2
    exact HE.out)
  case zstop =>
   rintro N c pre W hN hpre hne h hK
   exact h.elim
  case zdone =>
   rintro N W hN ⟨hkd, v, Ps, hbk, hown, hpl, hps⟩ hK
   rw [Mg.cks_len] at hpl
   have hlow : Below w.heap.size w3 W := hkd.low (fun b hb => by rw [HD.out]; have := HMQ.out; omega) HB3.out.size
   have hBW : Below w.heap.size w W := HB3.out.trans hlow
   have HLS := Lib.hid fun o => Mg.done_ls (o := o) hown hpl hps hBW (by have := HB3.out.size; omega) hK
   have b2 : W.cell? ⟨q, 0, none⟩ = some v := by rw [cell_of_row _ _ _ _ _ _ hbk]; rfl
   have HKN := Lib.hid hK
   have HBW := Lib.hid hBW
   have HNW : Hid (w.heap.size ≤ N) := Lib.hid (by have := HB3.out.size; omega)
   obtain ⟨va, vn, vc, rfl⟩ : ∃ a n c, v = .slice a n c := by
    rcases hown.form with ⟨e, _⟩ | ⟨g, c, e, _⟩
    ·exact ⟨none, 0, 0, e⟩
    ·exact ⟨_, _, c, e⟩
   clear hkd hbk hown hpl hps hlow hBW hN hK
   gi_wp2
   refine ⟨by simp, .inl ⟨_, _, rfl, run_takeDeferred HKN.out, ?_⟩⟩
   refine ⟨_, results_tmp rfl _ _ _, _, rfl, ?_, HBW.out.trans (belowK_b (Nat.le_refl _) W N _ _ HNW.out HKN.out rfl rfl)⟩
   rw [← HK.out]
   exact HLS.out _
 ·have hnk : n = (k : Int) := by rw [hk]; unfold Mg.step; rw [if_neg hn1]; omega
  clear hv h hbo hk hk1 hk2 hlc hcm hm hl hn
  subst hnk
  rw [← callsIn_wide (n := 9)]
  refine callsIn_of_wp_marks Try.func14 rfl trivial ?_ rfl
  simp only [Try.ntmps14, List.size_toArray, List.length_cons, List.length_nil, Nat.reduceAdd, Nat.reduceSub, Array.replicate_succ, Array.replicate_zero, List.push_toArray, List.append_toArray, List.nil_append, List.cons_append]
  gi_upto_region 4 with (fail)
  rw [← hw2, ← hq]
  clear hw2 hq
  gi_wp2_with (refine ⟨trivial, ?_⟩; gi_at_call 28; refine (callsIn_wide.2 CC.out).mono ?_; rintro e w3 ⟨rfl, c1, c2, g3, hz3⟩)
  obtain ⟨D, hD⟩ : ∃ D : Nat → Prop, D = fun b => b < m + 2 ∧ b ≠ q := ⟨_, rfl⟩
  have HD := Lib.hid hD
  have HZ3 := Lib.hid hz3
  have HDl : Hid (∀ b, D b → b < w3.heap.size) := Lib.hid fun b hb => by rw [hD] at hb; omega
  have HSEQ := Lib.hid (Mg.chunkA_seq (b := b) (o := o) (D := D) c1 c2 HBO.out (by rw [hD]; have := HMQ.out; omega) (by rw [hD]; have := HMQ.out; omega) HN.out.1 HN.out.2.1 HN.out.2.2.1 HN.out.2.2.2)
  have H30 : Hid (w3.heap[q]? = some (.cells #[.slice none 0 0] 22 (0, 0))) := Lib.hid ((g3.block _ (Array.getElem?_eq_some_iff.1 HB2.out.2).1).trans HB2.out.2)
  have HB3 : Hid (Below w.heap.size w w3) := Lib.hid (HB2.out.1.trans (g3.mono HB2.out.1.size))
  clear c1 c2 g3 hz3 hD CC
  refine Rn.range_w (gf := 40) rfl (enters_of Try.func40 (by kernel_rfl) rfl)
   HSEQ.out (Below.refl _ _) HDl.out (fun x args W he => by rw [he]; rfl)
   (Mg.Ir D w w3 (m + 2) q k L) (fun _ _ _ => False) (Mg.Ir.own HDl.out) (fun c s A' B' row h => h.elim) ⟨Rn.Kd.below (Below.refl _ _), _, [], H30.out, Dk.Own.nil _ _, rfl, fun i p hp => by simp at hp⟩
   (fun pre x a' W => a' = { tmps := #[.slice a L.length c, .int .i64 (k : Int), undef, undef, .slice none 0 0, .pointer (some ⟨q, 0, none⟩), Bk.sv x, .int .i64 (k : Int), .bool false, undef, undef, undef, .slice a L.length c, .int .i64 (k : Int), .func (.func 40) #[] #[.pointer (some ⟨m, 0, none⟩), .pointer (some ⟨m + 1, 0, none⟩)], Bk.sv x, undef, undef, undef, undef, undef, undef], defers := [] } ∧ Mg.Ir D w w3 (m + 2) q k L pre W) ?ownA ?assign ?body ?done ?stop
  case ownA =>
   rintro pre x a' u A' B' row ⟨h0, h1⟩ hg hr
   exact ⟨h0, Mg.Ir.own HDl.out _ _ _ row h1 hg hr⟩
  case assign =>
   rintro l pre x args W hI rfl hpx hbW
   have HI := Lib.hid hI
   clear hI hpx hbW
   gi_wp2
   exact ⟨Below.refl _ _, by first | rfl | trivial, HI.out⟩
  case body =>
   rintro l pre x a' W hl hlr ⟨rfl, hkd, v, Ps, hbk, hown, hpl, hps⟩ hpx hkw
   obtain ⟨hi, rfl⟩ := Mg.cks_at hpx
   have hlow : Below w.heap.size w3 W := hkd.low (fun b hb => by rw [HD.out]; have := HMQ.out; omega) HB3.out.size
   have hBW : Below w.heap.size w W := HB3.out.trans hlow
   have HDW : Hid (Below W.heap.size W W.drew) := Lib.hid (Below.refl _ W).drew
   have HCW := Lib.hid (Mg.dclone_c (w := W.drew) (HPD.out pre.length hi) hBW.drew (HPN.out pre.length hi) (HPL.out pre.length))
   have c0 : W.cell? ⟨q, 0, none⟩ = some v := by rw [cell_of_row _ _ _ _ _ _ hbk]; rfl
   have HW3 : Hid (w3.heap.size ≤ W.heap.size) := Lib.hid hkd.size
   have HTL : Hid (Ps.length + 1 ≤ 4398046511104) := Lib.hid (by have := HNB.out _ hi; have := HN.out.2.1; omega)
   have HKD := Lib.hid hkd
   have HBK := Lib.hid hbk
   have HOW := Lib.hid hown
   have HPS := Lib.hid (And.intro hpl hps)
   obtain ⟨va, vn, vc, rfl⟩ : ∃ a n c, v = .slice a n c := by
    rcases hown.form with ⟨e, _⟩ | ⟨g, c, e, _⟩
    ·exact ⟨none, 0, 0, e⟩
    ·exact ⟨_, _, c, e⟩
   have HCB : Hid (∀ W', Below W.heap.size W W' → W'.cell? ⟨q, 0, none⟩ = some (.slice va vn vc)) := Lib.hid fun W' g => (g.cell (World.block_lt_of_cell? W _ c0)).trans c0
   have HSTEP : Hid (∀ x w31 u Es w9 v9, Below W.heap.size W w31 → Dk.Own 41 2 Rn.e2 (m + 2) w31 (Bk.sv u) Es → Mg.Rd w Es (Mg.part k L pre.length) → Dk.Own 25 1 Bk.e1 (m + 2) w9 v9 (Ps ++ [u]) → Ty.Grew w31 w9 (.slice va vn vc) v9 → KeepsFrom w3.heap.size W (w9.setCell ⟨q, 0, none⟩ v9) ∧ Rn.Kd D W (w9.setCell ⟨q, 0, none⟩ v9) ∧ Mg.Ir D w w3 (m + 2) q k L (pre ++ [x]) (w9.setCell ⟨q, 0, none⟩ v9)) := Lib.hid fun x w31 u Es w9 v9 h1 h2 h3 h4 h5 => Mg.ir_step HD.out (by have := HMQ.out; omega) hkd hbk hown hpl hps h1 h2 h3 h4 h5
   generalize Mg.ck b o L.length k pre.length = x at HCW ⊢
   obtain ⟨x1, x2, x3⟩ := x
   have HSTEP := Lib.hid (HSTEP.out (x1, x2, x3))
   unfold Bk.sv at HCW ⊢
   clear hl hlr hkd hbk hown hpx hkw hi hlow hBW hpl hps c0
   gi_upto_region 6 with (fail)
   refine Rn.any_region (by kernel_rfl) (by kernel_rfl) ?_
   refine Rn.any_two (i := 0) (k := 1) (by kernel_rfl) rfl rfl (fun K hK => ?a1) (fun K hK => ?b1)
   case' a1 =>
    have c8 := HCB.out W.drew HDW.out
    go_simp
    refine hK.out _ _ ?_
    clear hK K c8
   case' b1 =>
    go_simp
    refine hK.out _ _ ?_
    clear hK K
   refine Rn.any_two (i := 0) (k := 2) (by kernel_rfl) rfl rfl (fun K hK => ?a2) (fun K hK => ?b2)
   case' a2 =>
    have c8 := HCB.out W.drew HDW.out
    go_simp
    refine hK.out _ _ ?_
    clear hK K c8
   case' b2 =>
    go_simp
    go_at_call 29
    (with_reducible refine (HCW.out).mono ?_); rintro e w31 ⟨⟨ua, un, uc⟩, Es, rfl, ho31, hrd31, g31⟩
    have HB31 : Hid (Below W.heap.size W w31) := Lib.hid (HDW.out.trans (g31.mono HDW.out.size))
    have HPO : Hid (Dk.Own 41 2 Rn.e2 (m + 2) w31 (Bk.sv (ua, un, uc)) Es) := Lib.hid (Mg.own_mono ho31 (by rw [← HZ3.out]; exact Nat.le_trans HW3.out HDW.out.size))
    have HRDE := Lib.hid hrd31
    clear ho31 hrd31 g31
    go_wp2_with fail
    refine hK.out _ _ ?_
    clear hK K
   refine Rn.any_two (i := 0) (k := 3) (by kernel_rfl) rfl rfl (fun K hK => ?a3) (fun K hK => ?b3)
   case' a3 =>
    have c8 := HCB.out w31 HB31.out
    go_simp
    refine hK.out _ _ ?_
    clear hK K c8
   case' b3 =>
    go_simp
    refine hK.out _ _ ?_
    clear hK K
   refine Rn.any_one (i := 0) (by kernel_rfl) rfl (fun K hK => ?_)
   have c8 := HCB.out (w31.alloc (.cells #[.slice ua un uc] 25)) (HB31.out.alloc HB31.out.size _)
   go_simp
   refine hK.out _ _ ?_
   clear hK K c8
   case' a1 =>
    refine Rn.any_one (i := 1) (by kernel_rfl) rfl (fun K hK => ?_)
    go_simp
    refine hK.out _ _ ?_
    clear hK K
   case' a1 | a2 =>
    refine Rn.any_one (i := 2) (by kernel_rfl) rfl (fun K hK => ?_)
    go_simp
    go_at_call 29
    (with_reducible refine (HCW.out).mono ?_); rintro e w31 ⟨⟨ua, un, uc⟩, Es, rfl, ho31, hrd31, g31⟩
    have HB31 : Hid (Below W.heap.size W w31) := Lib.hid (HDW.out.trans (g31.mono HDW.out.size))
    have HPO : Hid (Dk.Own 41 2 Rn.e2 (m + 2) w31 (Bk.sv (ua, un, uc)) Es) := Lib.hid (Mg.own_mono ho31 (by rw [← HZ3.out]; exact Nat.le_trans HW3.out HDW.out.size))
    have HRDE := Lib.hid hrd31
    clear ho31 hrd31 g31
    go_wp2_with fail
    refine hK.out _ _ ?_
    clear hK K
   case' a1 | a2 | a3 =>
    refine Rn.any_one (i := 3) (by kernel_rfl) rfl (fun K hK => ?_)
    go_simp
    refine hK.out _ _ ?_
    clear hK K
   all_goals (
    refine Rn.any_one (i := 4) (by kernel_rfl) rfl (fun K hK => ?_)
    have hO9 := (HOW.out.kept HB31.out).kept ((Below.refl _ w31).alloc (Nat.le_refl _) (.cells #[.slice ua un uc] 25))
    have hk9 : (w31.alloc (.cells #[.slice ua un uc] 25)).heap[q]? = some (.cells #[.slice va vn vc] 22 (0, 0)) := ((HB31.out.alloc HB31.out.size _).block _ (Array.getElem?_eq_some_iff.1 HBK.out).1).trans HBK.out
    have HO9 := Lib.hid (And.intro hO9 hk9)
    clear hO9 hk9
    refine Dk.step_appendB (enc := Bk.e1) 22 _ 24 Try.underlying22 Rn.infoB rfl (by decide) Bk.e1_len Bk.e1_one [(ua, un, uc)] (base := m + 2) (by rw [← HZ3.out]; exact Nat.le_trans HW3.out (HB31.out.alloc HB31.out.size _).size) HO9.out.1 (by have := HTL.out; simp only [List.length_singleton]; omega) (by have := HTL.out; simp only [List.length_singleton]; omega) _ _ _ (by rfl) (by rfl) (by rfl) (by rfl) (Dk.src_cell (Dk.cell_new rfl)) ?_; intro v9 w9 o9 g9
    obtain ⟨v9a, v9n, v9c, hv9⟩ : ∃ a n c, v9 = .slice a n c := by
     rcases o9.form with ⟨e, _⟩ | ⟨g, c, e, _⟩
     ·exact ⟨none, 0, 0, e⟩
     ·exact ⟨_, _, c, e⟩
    subst hv9
    have hp9 := (Mg.box_grew HO9.out.1 g9 HO9.out.2 (by decide)).trans HO9.out.2
    have d9 := cell_of_row _ _ 0 _ _ _ hp9
    have k9 := frozen_of_row _ _ 0 _ _ hp9
    simp only [List.getElem?_toArray, List.getElem?_cons_zero] at d9
    have HE := Lib.hid (HSTEP.out w31 (ua, un, uc) Es w9 (.slice v9a v9n v9c) HB31.out HPO.out HRDE.out o9 (g9.behind _))
    clear o9 g9 hp9
    refine hK.out _ _ ?_
    clear hK K
    refine Rn.any_one (i := 5) (by kernel_rfl) rfl (fun K hK => ?_)
    go_simp
    refine hK.out _ _ ?_
    clear hK K
    refine wpAny_done (by kernel_rfl) ?_ _
    refine Sk.Calm.normal ?_
    clear d9 k9
    gi_wp2
    exact HE.out)
  case stop =>
   rintro N c pre W hN hpre hne h hK
   exact h.elim
  case done =>
   rintro N W hN ⟨hkd, v, Ps, hbk, hown, hpl, hps⟩ hK
   rw [Mg.cks_len] at hpl
   have hlow : Below w.heap.size w3 W := hkd.low (fun b hb => by rw [HD.out]; have := HMQ.out; omega) HB3.out.size
   have hBW : Below w.heap.size w W := HB3.out.trans hlow
   have HLS := Lib.hid fun o => Mg.done_ls (o := o) hown hpl hps hBW (by have := HB3.out.size; omega) hK
   have b2 : W.cell? ⟨q, 0, none⟩ = some v := by rw [cell_of_row _ _ _ _ _ _ hbk]; rfl
   have HKN := Lib.hid hK
   have HBW := Lib.hid hBW
   have HNW : Hid (w.heap.size ≤ N) := Lib.hid (by have := HB3.out.size; omega)
   obtain ⟨va, vn, vc, rfl⟩ : ∃ a n c, v = .slice a n c := by
    rcases hown.form with ⟨e, _⟩ | ⟨g, c, e, _⟩
    ·exact ⟨none, 0, 0, e⟩
    ·exact ⟨_, _, c, e⟩
   clear hkd hbk hown hpl hps hlow hBW hN hK
   gi_wp2
   refine ⟨by simp, .inl ⟨_, _, rfl, run_takeDeferred HKN.out, ?_⟩⟩
   refine ⟨_, results_tmp rfl _ _ _, _, rfl, ?_, HBW.out.trans (belowK_b (Nat.le_refl _) W N _ _ HNW.out HKN.out rfl rfl)⟩
   rw [← HK.out]
   exact HLS.out _
end
section
open Go.RowKit
theorem Mg.own_one {base : Nat} (w : World) (y : Mg.Y) (hb : base ≤ w.heap.size) : Dk.Own 41 2 Rn.e2 base (w.alloc (.cells #[.bool y.1, .slice y.2.1 y.2.2.1 y.2.2.2] 41)) (Bk.sv (some ⟨w.heap.size, 0, none⟩, 1, 1)) [y] :=
 World.ownsRow_lit (e := 41) (size := 2) w #[.bool y.1, .slice y.2.1 y.2.2.1 y.2.2.2] 1 hb (by decide) rfl
theorem Mg.cut_len {m k : Nat} {L : List Dd.D} (h : 1 ≤ m) (hl : k ≤ L.length) : (Mg.cut m (L.take k)).length ≤ k := by
 unfold Mg.cut
 rw [List.length_map, List.length_range, List.length_take, Nat.min_eq_left hl]
 rcases Nat.eq_zero_or_pos k with rfl | h0
 ·rw [Nat.zero_add, Nat.div_eq_of_lt (by omega)]; exact Nat.le_refl _
 ·have h1 : (k + m - 1) ≤ k * m := by
   have : (k - 1) * 1 ≤ (k - 1) * m := Nat.mul_le_mul_left _ h
   have e : k * m = (k - 1) * m + m := by
    rw [← Nat.succ_mul]
    congr 1
    omega
   omega
  calc (k + m - 1) / m ≤ (k * m) / m := Nat.div_le_div_right h1
   _ = k := Nat.mul_div_cancel _ (by omega)
def Mg.St (w0 : World) (m : Nat) (L : List Dd.D) (k : Nat) (u : Value) (W : World) : Prop :=
 (k = 0 ∧ u = .slice none 0 0 ∧ Below w0.heap.size w0 W) ∨ (0 < k ∧ ∃ A l z Ps p Es, Mg.cut m (L.take k) = A ++ [l] ∧ Mg.Sp w0 W u A l z Ps p Es)
theorem Mg.St.below {w0 W : World} {m k : Nat} {L : List Dd.D} {u : Value} (h : Mg.St w0 m L k u W) : Below w0.heap.size w0 W := by
 rcases h with ⟨_, _, h⟩ | ⟨_, A, l, z, Ps, p, Es, _, h⟩
 ·exact h
 ·exact h.bw
theorem Mg.St.new {w0 W : World} {m k : Nat} {L : List Dd.D} {u : Value} (h : Mg.St w0 m L k u W) (hm : 1 ≤ m) {d : Dd.D} (hd : L[k]? = some d) (hk : k % m = 0) {y : Mg.Y} (hy : y.1 = d.gone ∧ Kn.Vals w0 (Bk.sv y.2) d.row) :
 ∃ PS, Dk.Own 25 1 Bk.e1 w0.heap.size W u PS ∧ PS.length ≤ k ∧ ∀ (W1 W' : World) (u' : Value) (p' : Option Addr × Nat × Nat), Below W.heap.size W W1 → Dk.Own 41 2 Rn.e2 W.heap.size W1 (Bk.sv p') [y] → Ty.Grew W1 W' u u' → Dk.Own 25 1 Bk.e1 w0.heap.size W' u' (PS ++ [p']) → Mg.St w0 m L (k + 1) u' W' := by
 have hkl := (List.getElem?_eq_some_iff.1 hd).1
 have hnew := Mg.cut_new hm hd hk
 have hlen := Mg.cut_len hm (Nat.le_of_lt hkl)
 rcases h with ⟨rfl, rfl, h⟩ | ⟨h0, A, l, z, Ps, p, Es, e, h⟩
 ·refine ⟨[], Dk.Own.nil _ _, Nat.le_refl _, fun W1 W' u' p' g1 ho g hu => .inr ⟨by omega, [], [d], _, [], p', [y], ?_, Mg.Sp.first h hy.1 hy.2 g1 ho g hu⟩⟩
  rw [hnew, List.take_zero, Mg.cut_nil m hm]
 ·refine ⟨Ps ++ [p], h.ou, ?_, fun W1 W' u' p' g1 ho g hu => .inr ⟨by omega, A ++ [l], [d], _, Ps ++ [p], p', [y], ?_, h.next hy.1 hy.2 g1 ho g hu⟩⟩
  ·rw [e, List.length_append] at hlen
   rw [List.length_append, h.ln]
   exact hlen
  ·rw [hnew, e]
theorem Mg.St.grow {w0 W : World} {m k : Nat} {L : List Dd.D} {u : Value} (h : Mg.St w0 m L k u W) (hm : 1 ≤ m) {d : Dd.D} (hd : L[k]? = some d) (hk : 0 < k % m) {y : Mg.Y} (hy : y.1 = d.gone ∧ Kn.Vals w0 (Bk.sv y.2) d.row) :
 ∃ (b c z N : Nat) (p : Option Addr × Nat × Nat) (Es : List Mg.Y), u = .slice (some ⟨b, 0, none⟩) (N + 1) c ∧ W.cell? ⟨b, N, none⟩ = some (Bk.sv p) ∧ Dk.Own 41 2 Rn.e2 z W (Bk.sv p) Es ∧ z ≤ W.heap.size ∧ List.length Es ≤ k ∧ N ≤ k
   ∧ (∀ W' v', Ty.Grew W W' (Bk.sv p) v' → W'.cell? ⟨b, N, none⟩ = some (Bk.sv p) ∧ W'.frozen? ⟨b, N, none⟩ = false)
   ∧ ∀ W' (p' : Option Addr × Nat × Nat), Dk.Own 41 2 Rn.e2 z W' (Bk.sv p') (Es ++ [y]) → Ty.Grew W W' (Bk.sv p) (Bk.sv p') → Mg.St w0 m L (k + 1) u (W'.setCell ⟨b, N, none⟩ (Bk.sv p')) := by
 have hkl := (List.getElem?_eq_some_iff.1 hd).1
 obtain ⟨A2, l2, h1, h2⟩ := Mg.cut_grow hm hd hk
 have hlen := Mg.cut_len hm (Nat.le_of_lt hkl)
 rcases h with ⟨rfl, rfl, h⟩ | ⟨h0, A, l, z, Ps, p, Es, e, h⟩
 ·rw [Nat.zero_mod] at hk; omega
 ·obtain ⟨b, c, rfl, _, _⟩ := h.ou.form1
  have hj := h1.symm.trans e
  obtain ⟨rfl, hl⟩ := List.append_inj' hj rfl
  obtain rfl : l2 = l := by simpa using hl
  have hfl := Mg.cut_flat hm (L.take k)
  rw [e] at hfl
  have hll : l2.length ≤ k := by
   have := congrArg List.length hfl
   rw [List.flatten_append, List.length_append, List.length_take] at this
   simp only [List.flatten_cons, List.flatten_nil, List.append_nil] at this
   omega
  rw [e, List.length_append] at hlen
  refine ⟨b, c, z, Ps.length, p, Es, rfl, (h.after (Ty.Grew.refl W _)).1, h.la, h.zs, by rw [h.rl.1]; exact hll, by rw [h.ln]; omega, fun W' v' g => h.after g, fun W' p' ho g => .inr ⟨by omega, A2, l2 ++ [d], z, Ps, p', Es ++ [y], h2, h.grow hy.1 hy.2 ho g⟩⟩
theorem Mg.St.ls {w0 W : World} {m : Nat} {L : List Dd.D} {u : Value} (hm : 1 ≤ m) (h : Mg.St w0 m L L.length u W) : Mg.Ls W u (Mg.cut m L) := by
 rcases h with ⟨h0, rfl, h⟩ | ⟨h0, A, l, z, Ps, p, Es, e, h⟩
 ·have : L = [] := List.eq_nil_of_length_eq_zero h0
  rw [this, Mg.cut_nil m hm]
  exact ⟨none, 0, rfl, Nat.le_refl _, by omega, .inl rfl⟩
 ·rw [List.take_length] at e
  rw [e]
  exact h.ls
set_option maxHeartbeats 8000000 in
set_option maxRecDepth 100000 in
theorem Mg.rsplit_c (v : Value) (L : List Dd.D) (n : Int) (w : World) (hv : Bk.Ds w v L) (hl : L.length ≤ 4398046511104) :
 Calls Try.prog 15 #[v, .int .i64 n] w fun e w' => ∃ u, e = .returned u ∧ Mg.Ls w' u (Mg.cut (Mg.step n L.length) L) ∧ Below w.heap.size w w' := by
 obtain ⟨R, hr, hrv⟩ := hv.dr
 have HRV := Lib.hid hrv
 have H2 := Lib.hid hl
 obtain ⟨a, c, rfl, h⟩ := hr
 have HH := Lib.hid h
 have HT := Lib.hid fun (k : Nat) (h : k < L.length) => Mg.step_test (n := n) h
 have HPOS := Lib.hid (Mg.step_pos n L.length)
 generalize Mg.step n L.length = m at HT HPOS ⊢
 clear hv hrv hl h
 go_enter Try.func15, Try.ntmps15
 go_wp2_with fail
 go_loopw [5, 6] (fun out i wr => ∃ k : Nat, k ≤ L.length ∧ i = .int .i64 k ∧ Mg.St w m L k out wr) (fun _ i _ => L.length - (intOf i).toNat)
 case atStart => exact ⟨0, Nat.zero_le _, rfl, .inl ⟨rfl, rfl, Below.refl _ _⟩⟩
 case round =>
  obtain ⟨k, hk, rfl, hS⟩ := hrel
  have HST := Lib.hid hS
  have dk0 : (0 : Int) ≤ (k : Int) := by omega
  by_cases hkl : k < L.length
  ·rcases HH.out with rfl | ⟨b, o, rfl, hlt, hc⟩
   ·simp at hkl
   ·have hB := hS.below
    have hx := List.getElem?_eq_getElem hkl
    generalize L[k] = d at hx
    obtain ⟨d0, d1⟩ := hc k d hx
    have d0 := (hB.cell (p := ⟨b, o + k * 2, none⟩) hlt).trans d0
    have d1 := (hB.cell (p := ⟨b, o + k * 2 + 1, none⟩) hlt).trans d1
    have hvl := HRV.out k d hx
    generalize R k = rk at d1 hvl
    obtain ⟨ua, un, uc⟩ := rk
    simp only [Bk.sv] at d1
    obtain ⟨gd, hgd⟩ : ∃ gd, gd = d.gone := ⟨_, rfl⟩
    have HVL : Hid ((⟨gd, (ua, un, uc)⟩ : Mg.Y).1 = d.gone ∧ Kn.Vals w (Bk.sv (⟨gd, (ua, un, uc)⟩ : Mg.Y).2) d.row) := Lib.hid ⟨hgd, hvl⟩
    rw [← hgd] at d0
    have HTEST := Lib.hid (HT.out k hkl)
    have dk : (k : Int) < (L.length : Int) := by omega
    have HK := Lib.hid hkl
    have HKM : Hid ((k : Int) ≤ 4398046511103) := Lib.hid (by have := H2.out; omega)
    have hkm9 := HKM.out
    clear hc hkl hk hlt hB hS hvl hgd
    by_cases hn : n < 1
    ·rcases Nat.eq_zero_or_pos (k % m) with hkm | hkm
     ·have hi0 : ¬ (0 : Int) < (k : Int) := by have := HTEST.out; rw [decide_eq_true hn, decide_eq_false (show ¬ 0 < k % m by omega)] at this; simp at this; omega
      have hi1 : ¬ 0 < k := by omega
      have hn2 : ¬ (1 : Int) ≤ n := by omega
      obtain ⟨PS, hO, hpl, hfin⟩ := HST.out.new HPOS.out hx hkm HVL.out
      have HFN := Lib.hid hfin
      have HO := Lib.hid hO
      have hbs : w.heap.size ≤ (wr.alloc (.cells #[.bool gd, .slice ua un uc] 41)).heap.size := by have := HST.out.below.size; rw [World.size_alloc]; omega
      have hml : PS.length ≤ 4398046511103 := by have := HKM.out; omega
      clear hfin hx hkm
      go_wp2_with (at_builtin; refine Dk.wpList_append1 22 _ 24 Try.underlying22 Rn.infoB rfl (by decide) Bk.e1_len Bk.e1_one (some ⟨wr.heap.size, 0, none⟩, 1, 1) (World.ownsRow.alloc hO _) hbs (by omega) (by omega) (wr.heap.size + 1) (by rw [World.size_alloc]) _ rfl (.tmp 46) (.tmp 52) (by rfl) (by rfl) (by rfl) (by rfl) ?_; intro v6 w6 h6 g6)
      have HF7 := Lib.hid (HFN.out _ _ _ (some ⟨wr.heap.size, 0, none⟩, 1, 1) ((Below.refl _ wr).alloc (Nat.le_refl _) _) (Mg.own_one wr (gd, (ua, un, uc)) (Nat.le_refl _)) g6 h6)
      clear h6 g6 hO hbs hml
      go_roundw
      case rel => exact ⟨k + 1, HK.out, by simp, HF7.out⟩
      case measure => (have := HK.out; simp [intOf]; omega)
     ·have hi0 : (0 : Int) < (k : Int) := by have := HTEST.out; rw [decide_eq_true hn, decide_eq_true hkm, decide_eq_false (show ¬ 1 ≤ n by omega)] at this; simpa using this
      have hi1 : 0 < k := by omega
      have HGR := Lib.hid (HST.out.grow HPOS.out hx hkm HVL.out)
      obtain ⟨b2, c2, z, N, p, Es, rfl, hcl, how, hzs, hel, hpl, haft, hfin⟩ := HGR.out
      have HAFT := Lib.hid haft
      have HFN := Lib.hid hfin
      have hOw : Dk.Own 41 2 Rn.e2 z wr.drew (Bk.sv p) Es := how
      have hle2 : ∀ o, z ≤ (wr.drew.alloc o).heap.size := fun o => by rw [World.size_alloc]; show z ≤ wr.heap.size + 1; omega
      have HOW := Lib.hid (And.intro hOw hle2)
      obtain ⟨pa, pn, pc⟩ := p
      simp only [Bk.sv] at hcl
      have e9 : (((N + 1 : Nat) : Int) - 1) = (N : Int) := by omega
      have hN0 : (0 : Int) ≤ (N : Int) := by omega
      have hN1 : (N : Int) < ((N + 1 : Nat) : Int) := by omega
      have hN9 : (N : Int) ≤ 4398046511103 := by have := HKM.out; omega
      have hN8 : (N : Int) < (N : Int) + 1 := by omega
      have hw9 : IntKind.i64.wrap (N : Int) = (N : Int) := by rw [IntKind.wrap_i64]; omega
      have HEL : Hid (Es.length ≤ 4398046511103) := Lib.hid (by have := HKM.out; omega)
      have hel2 := HEL.out
      have hcn : (wr.alloc (.cells #[.bool gd, .slice ua un uc] 41)).cell? ⟨b2, N, none⟩ = some (.slice pa pn pc) := (((Below.refl _ wr).alloc (Nat.le_refl _) _).cell (p := ⟨b2, N, none⟩) (World.block_lt_of_cell? wr _ hcl)).trans hcl
      clear haft hfin how hzs hel hOw hle2 hx hkm
      go_upto_region 6 with (fail)
      have C2 := fun d os => cell_regrown hcl d os
      have D0 := fun d os => cell_regrown d0 d os
      have D1 := fun d os => cell_regrown d1 d os
      go_region_law (first
       | (refine Dk.step_appendB (enc := Rn.e2) 25 _ 32 Try.underlying25 Rn.infoD rfl (by decide) Rn.e2_len Rn.e2_one [(gd, (ua, un, uc))] (base := z) (HOW.out.2 _) (World.ownsRow.alloc HOW.out.1 _) (by simp only [List.length_singleton]; omega) (by simp only [List.length_singleton]; omega) _ _ _ (by rfl) (by rfl) (by rfl) (by rfl) (Dk.src_cell (Dk.cell_new rfl)) ?_; intro v7 w7 o7 g7; have H7 := Lib.hid (And.intro o7 (g7.behind _).drawn); obtain ⟨gg, cc, rfl, _, _⟩ := o7.form1; obtain ⟨c7, f7⟩ := HAFT.out _ _ H7.out.2))
      all_goals
       have HF7 := Lib.hid (HFN.out _ (_, _, _) H7.out.1 H7.out.2)
       clear c7 f7
       go_wp2
       go_roundw
       case rel => exact ⟨k + 1, HK.out, by simp, HF7.out⟩
       case measure => (have := HK.out; simp [intOf]; omega)
    ·have hn2 : (1 : Int) ≤ n := by omega
     have hnz : n ≠ 0 := by omega
     rcases Nat.eq_zero_or_pos (k % m) with hkm | hkm
     ·have hi0 : ¬ (0 : Int) < (k : Int) % n := by have := HTEST.out; rw [decide_eq_false hn, decide_eq_true hn2, decide_eq_false (show ¬ 0 < k % m by omega)] at this; simpa using this
      obtain ⟨PS, hO, hpl, hfin⟩ := HST.out.new HPOS.out hx hkm HVL.out
      have HFN := Lib.hid hfin
      have HO := Lib.hid hO
      have hbs : w.heap.size ≤ (wr.alloc (.cells #[.bool gd, .slice ua un uc] 41)).heap.size := by have := HST.out.below.size; rw [World.size_alloc]; omega
      have hml : PS.length ≤ 4398046511103 := by have := HKM.out; omega
      clear hfin hx hkm
      go_wp2_with (at_builtin; refine Dk.wpList_append1 22 _ 24 Try.underlying22 Rn.infoB rfl (by decide) Bk.e1_len Bk.e1_one (some ⟨wr.heap.size, 0, none⟩, 1, 1) (World.ownsRow.alloc hO _) hbs (by omega) (by omega) (wr.heap.size + 1) (by rw [World.size_alloc]) _ rfl (.tmp 46) (.tmp 52) (by rfl) (by rfl) (by rfl) (by rfl) ?_; intro v6 w6 h6 g6)
      have HF7 := Lib.hid (HFN.out _ _ _ (some ⟨wr.heap.size, 0, none⟩, 1, 1) ((Below.refl _ wr).alloc (Nat.le_refl _) _) (Mg.own_one wr (gd, (ua, un, uc)) (Nat.le_refl _)) g6 h6)
      clear h6 g6 hO hbs hml
      go_roundw
      case rel => exact ⟨k + 1, HK.out, by simp, HF7.out⟩
      case measure => (have := HK.out; simp [intOf]; omega)
     ·have hi0 : (0 : Int) < (k : Int) % n := by have := HTEST.out; rw [decide_eq_false hn, decide_eq_true hn2, decide_eq_true hkm] at this; simpa using this
      have HGR := Lib.hid (HST.out.grow HPOS.out hx hkm HVL.out)
      obtain ⟨b2, c2, z, N, p, Es, rfl, hcl, how, hzs, hel, hpl, haft, hfin⟩ := HGR.out
      have HAFT := Lib.hid haft
      have HFN := Lib.hid hfin
      have hOw : Dk.Own 41 2 Rn.e2 z wr.drew (Bk.sv p) Es := how
      have hle2 : ∀ o, z ≤ (wr.drew.alloc o).heap.size := fun o => by rw [World.size_alloc]; show z ≤ wr.heap.size + 1; omega
      have HOW := Lib.hid (And.intro hOw hle2)
      obtain ⟨pa, pn, pc⟩ := p
      simp only [Bk.sv] at hcl
      have e9 : (((N + 1 : Nat) : Int) - 1) = (N : Int) := by omega
      have hN0 : (0 : Int) ≤ (N : Int) := by omega
      have hN1 : (N : Int) < ((N + 1 : Nat) : Int) := by omega
      have hN9 : (N : Int) ≤ 4398046511103 := by have := HKM.out; omega
      have hN8 : (N : Int) < (N : Int) + 1 := by omega
      have hw9 : IntKind.i64.wrap (N : Int) = (N : Int) := by rw [IntKind.wrap_i64]; omega
      have HEL : Hid (Es.length ≤ 4398046511103) := Lib.hid (by have := HKM.out; omega)
      have hel2 := HEL.out
      have hcn : (wr.alloc (.cells #[.bool gd, .slice ua un uc] 41)).cell? ⟨b2, N, none⟩ = some (.slice pa pn pc) := (((Below.refl _ wr).alloc (Nat.le_refl _) _).cell (p := ⟨b2, N, none⟩) (World.block_lt_of_cell? wr _ hcl)).trans hcl
      clear haft hfin how hzs hel hOw hle2 hx hkm
      go_upto_region 6 with (fail)
      have C2 := fun d os => cell_regrown hcl d os
      have D0 := fun d os => cell_regrown d0 d os
      have D1 := fun d os => cell_regrown d1 d os
      go_region_law (first
       | (refine Dk.step_appendB (enc := Rn.e2) 25 _ 32 Try.underlying25 Rn.infoD rfl (by decide) Rn.e2_len Rn.e2_one [(gd, (ua, un, uc))] (base := z) (HOW.out.2 _) (World.ownsRow.alloc HOW.out.1 _) (by simp only [List.length_singleton]; omega) (by simp only [List.length_singleton]; omega) _ _ _ (by rfl) (by rfl) (by rfl) (by rfl) (Dk.src_cell (Dk.cell_new rfl)) ?_; intro v7 w7 o7 g7; have H7 := Lib.hid (And.intro o7 (g7.behind _).drawn); obtain ⟨gg, cc, rfl, _, _⟩ := o7.form1; obtain ⟨c7, f7⟩ := HAFT.out _ _ H7.out.2))
      all_goals
       have HF7 := Lib.hid (HFN.out _ (_, _, _) H7.out.1 H7.out.2)
       clear c7 f7
       go_wp2
       go_roundw
       case rel => exact ⟨k + 1, HK.out, by simp, HF7.out⟩
       case measure => (have := HK.out; simp [intOf]; omega)
  ·obtain rfl : k = L.length := by omega
   have dk : ¬ (L.length : Int) < (L.length : Int) := by omega
   have HE := Lib.hid (And.intro (Mg.St.ls HPOS.out HST.out) HST.out.below)
   clear hk hkl hS
   go_wp2
   go_ret
   exact ⟨_, rfl, HE.out.1, HE.out.2⟩
end
section
open Go Go.RowKit
def Mg.Fit (LL : List (List Dd.D)) : Prop := Mg.sz LL ≤ 8796093022208 ∧ (Mg.all LL = true → (Mg.nw LL).length ≤ 4398046511104)
theorem Mg.newest_c (v : Value) (LL : List (List Dd.D)) (w : World) (hv : Mg.Ls w v LL) (hz : ∀ L ∈ LL, Bk.Zs L) (hl : Mg.Fit LL) :
 Calls Try.prog 11 #[v] w (Mg.NwD w LL) := Mg.newestU_c v LL w hv hz hl
theorem Mg.int_max {n : Int} (h : (Lit.int .i64 n).wf = true) : n ≤ 9223372036854775807 := by
 have e : (Lit.int .i64 n).wf = (decide ((-9223372036854775808 : Int) ≤ n) && decide (n ≤ 9223372036854775807)) := rfl
 rw [e, Bool.and_eq_true] at h
 exact of_decide_eq_true h.2
theorem Mg.rl_live {L : List Dd.D} (h : Mg.Rl L) : Mg.Rl (Mg.live L) := fun d hd => h d (Mg.mem_live.1 hd).1
theorem Mg.rl_nw {LL : List (List Dd.D)} (h : ∀ L ∈ LL, Mg.Rl L) : Mg.Rl (Mg.nw LL) := fun d hd => by
 obtain ⟨l, hl, hx⟩ := Mg.mem_nw hd
 exact h l hl d hx
end
section
open Go Go.RowKit
theorem Mg.results_cell {fn : Func} {p : Tmp} {ty : TypeId} (h : fn.results = #[.cell p ty]) (tmps : Array Value) (P : Program) (w : World) :
 (results fn tmps).run P w = ((asAddr (tmps.getD p undef)).run P w).andThen fun a w1 => (loadVar ty a).run P w1 := by
 simp only [results, h]
 simp [Sem.run_bind, Result.andThen]
theorem Mg.live_c (v : Value) (L : List Dd.D) (w : World) (hv : Bk.Ds w v L) (hr : Mg.Rl L) (hl : L.length ≤ 4398046511104) :
 Calls Try.prog 16 #[v] w fun e w' => ∃ u, e = .returned u ∧ Bk.Ds w' u (Mg.live L) ∧ Below w.heap.size w w' :=
 (Mg.liveN_c v L w hv hr hl).mono fun _ _ ⟨_, _, h1, h2, h3, h4⟩ => ⟨_, h1, Mg.own_rd h2 h3.rd (Below.refl _ _), h4⟩
def Mg.iv (n : Int) : Kn.V := ⟨false, n, ⟨#[]⟩⟩
def Mg.d1 (n : Int) (g : Bool) : Dd.D := ⟨g, [Mg.iv n]⟩
set_option maxHeartbeats 1000000 in
set_option maxRecDepth 100000 in
theorem Mg.row_c (n : Int) (g : Bool) (w : World) :
 Calls Try.prog 20 #[.int .i64 n, .bool g] w fun e w' => ∃ b, e = .returned (.agg #[.bool g, .slice (some ⟨b, 0, none⟩) 1 1]) ∧ Kn.Vals w' (Bk.sv (some ⟨b, 0, none⟩, 1, 1)) (Mg.d1 n g).row ∧ Below w.heap.size w w' := by
 have HE : Hid (∀ x, Kn.Vals ((w.alloc x).alloc (.cells #[.bool false, .int .i64 n, .string ⟨#[]⟩] 37)) (Bk.sv (some ⟨w.heap.size + 1, 0, none⟩, 1, 1)) (Mg.d1 n g).row ∧ Below w.heap.size w ((w.alloc x).alloc (.cells #[.bool false, .int .i64 n, .string ⟨#[]⟩] 37))) := Lib.hid fun x => by
  have hk := Kn.At.new (w.alloc x) (Mg.iv n) 37
  rw [World.size_alloc] at hk
  refine ⟨⟨_, 1, rfl, .inr ⟨w.heap.size + 1, 0, rfl, by rw [World.size_alloc, World.size_alloc]; omega, by show 1 ≤ 9223372036854775807; omega, fun i y hy => ?_⟩⟩, ((Below.refl _ w).alloc (Nat.le_refl _) _).alloc (by rw [World.size_alloc]; omega) _⟩
  cases i with
  | succ i => simp [Mg.d1] at hy
  | zero =>
    obtain rfl : Mg.iv n = y := by simpa [Mg.d1] using hy
    exact hk
 go_enter Try.func20, Try.ntmps20
 go_wp2
 (try simp only [Exit.inBlock, Exit.then])
 refine bodyPost_ret (v := .agg #[.bool g, .slice (some ⟨w.heap.size + 1, 0, none⟩) 1 1]) ?_ rfl ⟨_, rfl, HE.out _⟩
 rw [Mg.results_cell rfl]
 go_simp
theorem Mg.cmp_int (a b : Int) : Kn.cmp (Mg.iv a) (Mg.iv b) = Kn.ncmp a b := by
 unfold Kn.cmp Mg.iv Kn.scmp
 simp only [Kn.lcmp_self, Kn.or2, if_neg (show ¬ (false = true) by decide)]
 split
 ·next h => exact h.symm
 ·rfl
theorem Mg.key_int (n : Int) (g : Bool) : Bk.key (Mg.d1 n g) = Mg.iv n := rfl
def Mg.exL : List (List Dd.D) := [[Mg.d1 1 false, Mg.d1 3 false], [Mg.d1 1 true, Mg.d1 2 false]]
theorem Mg.ex_nw : Mg.nw Mg.exL = [Mg.d1 1 false, Mg.d1 2 false, Mg.d1 3 false] := by
 simp [Mg.exL, Mg.nw, Mg.puts, Sk.put, Sk.at_, Sk.there, Mg.key_int, Mg.cmp_int, Kn.ncmp]
theorem Mg.ex_all : Mg.all Mg.exL = true := by
 simp [Mg.exL, Mg.all, Bk.sorted, Bk.step, List.range, List.range.loop, Mg.key_int, Mg.cmp_int, Kn.ncmp, Bk.nod]
 simp [Mg.d1]
end
section
open Go Go.RowKit
theorem Mg.lit2 (w : World) (d e : Dd.D) (u v : Option Addr × Nat × Nat) (hu : Kn.Vals w (Bk.sv u) d.row) (hv : Kn.Vals w (Bk.sv v) e.row) :
 Bk.Ds (w.alloc (.cells #[.bool d.gone, Bk.sv u, .bool e.gone, Bk.sv v] 41)) (.slice (some ⟨w.heap.size, 0, none⟩) 2 2) [d, e] := by
 have ho : Dk.Own 41 2 Rn.e2 0 (w.alloc (.cells #[.bool d.gone, Bk.sv u, .bool e.gone, Bk.sv v] 41)) (.slice (some ⟨w.heap.size, 0, none⟩) 2 2) [(d.gone, u), (e.gone, v)] :=
  World.ownsRow_lit (e := 41) (size := 2) w _ 2 (Nat.zero_le _) (by decide) rfl
 exact Mg.own_rd ho (Mg.Rd.snoc (Mg.Rd.one (y := (d.gone, u)) rfl hu) (y := (e.gone, v)) rfl hv) ((Below.refl _ w).alloc (Nat.le_refl _) _)
theorem Mg.lists_of (w : World) (Ps : List (Option Addr × Nat × Nat)) (LL : List (List Dd.D)) (hl : Ps.length = LL.length) (hm : Ps.length ≤ 100) (h : ∀ (i : Nat) (L : List Dd.D), LL[i]? = some L → ∃ p, Ps[i]? = some p ∧ Bk.Ds w (Bk.sv p) L) :
 Mg.Ls (w.alloc (.cells (Ps.flatMap Bk.e1).toArray 25)) (.slice (some ⟨w.heap.size, 0, none⟩) Ps.length Ps.length) LL := by
 have ho : Dk.Own 25 1 Bk.e1 0 (w.alloc (.cells (Ps.flatMap Bk.e1).toArray 25)) (.slice (some ⟨w.heap.size, 0, none⟩) Ps.length Ps.length) Ps := by
  have := World.ownsRow_lit (e := 25) (base := 0) (size := 1) w (Ps.flatMap Bk.e1).toArray Ps.length (Nat.zero_le _) (by unfold maxLen; omega) (by rw [List.size_toArray, Dk.flat_len Bk.e1_len])
  exact this
 exact Mg.own_ls ho hl fun i L hL => by
  obtain ⟨p, hp, hd⟩ := h i L hL
  exact ⟨p, hp, hd.later ((Below.refl _ w).alloc (Nat.le_refl _) _)⟩
theorem Mg.lists2 (w : World) (u v : Option Addr × Nat × Nat) (L M : List Dd.D) (hu : Bk.Ds w (Bk.sv u) L) (hv : Bk.Ds w (Bk.sv v) M) :
 Mg.Ls (w.alloc (.cells #[Bk.sv u, Bk.sv v] 25)) (.slice (some ⟨w.heap.size, 0, none⟩) 2 2) [L, M] :=
 Mg.lists_of w [u, v] [L, M] rfl (by simp) fun i X hX => by
  match i, hX with
  | 0, hX => obtain rfl : L = X := by simpa using hX
             exact ⟨u, rfl, hu⟩
  | 1, hX => obtain rfl : M = X := by simpa using hX
             exact ⟨v, rfl, hv⟩
theorem Mg.lists1 (w : World) (u : Option Addr × Nat × Nat) (L : List Dd.D) (hu : Bk.Ds w (Bk.sv u) L) :
 Mg.Ls (w.alloc (.cells #[Bk.sv u] 25)) (.slice (some ⟨w.heap.size, 0, none⟩) 1 1) [L] :=
 Mg.lists_of w [u] [L] rfl (by simp) fun i X hX => by
  match i, hX with
  | 0, hX => obtain rfl : L = X := by simpa using hX
             exact ⟨u, rfl, hu⟩
theorem Mg.zs_d1 (n : Int) (g : Bool) : ∀ v ∈ (Mg.d1 n g).row, Kn.Z v := fun v hv => by
 obtain rfl : v = Mg.iv n := by simpa [Mg.d1] using hv
 exact Nat.zero_le _
theorem Mg.ex_zs : ∀ L ∈ Mg.exL, Bk.Zs L := fun L hL d hd => by
 have : d ∈ [Mg.d1 1 false, Mg.d1 3 false, Mg.d1 1 true, Mg.d1 2 false] := by
  simp only [Mg.exL, List.mem_cons, List.not_mem_nil, or_false] at hL
  rcases hL with rfl | rfl <;> simp only [List.mem_cons, List.not_mem_nil, or_false] at hd ⊢ <;> rcases hd with rfl | rfl <;> simp
 simp only [List.mem_cons, List.not_mem_nil, or_false] at this
 rcases this with rfl | rfl | rfl | rfl <;> exact Mg.zs_d1 _ _
theorem Mg.ex_fit : Mg.Fit Mg.exL := by
 refine ⟨?_, ?_⟩
 ·simp [Mg.sz, Mg.exL]
 ·rw [Mg.ex_nw]; intro _; simp
theorem Mg.ex_res : Mg.res Mg.exL = [Mg.d1 1 false, Mg.d1 2 false, Mg.d1 3 false] := by unfold Mg.res; rw [if_pos Mg.ex_all, Mg.ex_nw]
theorem Mg.ex_err : Mg.err Mg.exL = 0 := by unfold Mg.err; rw [if_pos Mg.ex_all]
theorem Mg.ex_rl : Mg.Rl [Mg.d1 1 true, Mg.d1 2 false] := fun d hd => by
 simp only [List.mem_cons, List.not_mem_nil, or_false] at hd
 rcases hd with rfl | rfl <;> exact Nat.le_trans (Nat.le_refl 1) (by decide)
theorem Mg.cut_length (m : Nat) (L : List Dd.D) : (Mg.cut m L).length = (L.length + m - 1) / m := by unfold Mg.cut; simp
set_option maxHeartbeats 4000000 in
set_option maxRecDepth 100000 in
theorem Mg.lives_c (w : World) : Calls Try.prog 9 #[] w fun e w' => e = .returned (.bool true) ∧ Below w.heap.size w w' := by
 go_enter Try.func9, Try.ntmps9
 go_wp2_with fail
 refine (Mg.row_c 1 false w).mono ?_
 rintro e w1 ⟨b1, rfl, v1, g1⟩
 have HV1 := Lib.hid v1
 have HG1 := Lib.hid g1
 clear v1 g1
 go_wp2_with fail
 refine (Mg.row_c 3 false w1).mono ?_
 rintro e w2 ⟨b2, rfl, v2, g2⟩
 have HL1 := Lib.hid (Mg.lit2 w2 (Mg.d1 1 false) (Mg.d1 3 false) _ _ (HV1.out.later g2) v2)
 have HG2 : Hid (Below w.heap.size w (w2.alloc (.cells #[.bool (Mg.d1 1 false).gone, Bk.sv (some ⟨b1, 0, none⟩, 1, 1), .bool (Mg.d1 3 false).gone, Bk.sv (some ⟨b2, 0, none⟩, 1, 1)] 41))) := Lib.hid ((HG1.out.trans (g2.mono HG1.out.size)).alloc (Nat.le_trans HG1.out.size g2.size) _)
 clear v2 g2 HV1 HG1
 go_wp2_with fail
 simp only [Bk.sv, Mg.d1] at HL1 HG2
 obtain ⟨q2, hq2⟩ : ∃ q, q = w2.heap.size := ⟨_, rfl⟩
 rw [← hq2] at HL1 ⊢
 generalize w2.alloc _ = w3 at HL1 HG2 ⊢
 clear hq2
 refine (Mg.row_c 1 true w3).mono ?_
 rintro e w4 ⟨b4, rfl, v4, g4⟩
 have HL2 := Lib.hid (HL1.out.later g4)
 have HV4 := Lib.hid v4
 have HG4 := Lib.hid (HG2.out.trans (g4.mono HG2.out.size))
 clear v4 g4 HL1 HG2
 go_wp2_with fail
 refine (Mg.row_c 2 false w4).mono ?_
 rintro e w5 ⟨b5, rfl, v5, g5⟩
 have HM1 := Lib.hid (Mg.lit2 w5 (Mg.d1 1 true) (Mg.d1 2 false) _ _ (HV4.out.later g5) v5)
 have HG5 : Hid (Below w.heap.size w w5) := Lib.hid (HG4.out.trans (g5.mono HG4.out.size))
 have HL3 := Lib.hid ((HL2.out.later g5).later ((Below.refl _ w5).alloc (Nat.le_refl _) (.cells #[.bool (Mg.d1 1 true).gone, Bk.sv (some ⟨b4, 0, none⟩, 1, 1), .bool (Mg.d1 2 false).gone, Bk.sv (some ⟨b5, 0, none⟩, 1, 1)] 41)))
 have HG6 := Lib.hid (HG5.out.alloc HG5.out.size (.cells #[.bool (Mg.d1 1 true).gone, Bk.sv (some ⟨b4, 0, none⟩, 1, 1), .bool (Mg.d1 2 false).gone, Bk.sv (some ⟨b5, 0, none⟩, 1, 1)] 41))
 clear v5 g5 HV4 HG4 HL2 HG5
 simp only [Bk.sv] at HM1 HG6 HL3
 rw [show (Mg.d1 1 true).gone = true from rfl, show (Mg.d1 2 false).gone = false from rfl] at HM1 HG6 HL3
 obtain ⟨q5, hq5⟩ : ∃ q, q = w5.heap.size := ⟨_, rfl⟩
 have HLS := Lib.hid (Mg.lists2 _ (some ⟨q2, 0, none⟩, 2, 2) (some ⟨w5.heap.size, 0, none⟩, 2, 2) _ _ HL3.out HM1.out)
 have HG7 := Lib.hid (HG6.out.alloc HG6.out.size (.cells #[Bk.sv (some ⟨q2, 0, none⟩, 2, 2), Bk.sv (some ⟨w5.heap.size, 0, none⟩, 2, 2)] 25))
 simp only [Bk.sv, World.size_alloc] at HLS HG7
 clear HL3 HM1 HG6
 go_wp2_with fail
 refine (Mg.newest_c _ Mg.exL _ HLS.out Mg.ex_zs Mg.ex_fit).mono ?_
 rintro e w6 ⟨u, rfl, hd, g6⟩
 rw [Mg.ex_res] at hd
 rw [Mg.ex_err]
 have HD := Lib.hid hd
 have HG8 := Lib.hid (HG7.out.trans (g6.mono HG7.out.size))
 obtain ⟨a, c, rfl, _, _, h⟩ := hd
 simp only [List.length_cons, List.length_nil, Nat.reduceAdd] at HD ⊢
 rcases h with h | ⟨b, o, rfl, hlt, hc⟩
 ·cases h
 have c0 : w6.cell? ⟨b, o, none⟩ = some (.bool false) := by
  obtain ⟨_, c0, _⟩ := hc 0 _ rfl
  simpa [Mg.d1] using c0
 clear g6 HLS HG7 hc hlt
 go_wp2_with fail
 refine (Mg.row_c 1 true w6).mono ?_
 rintro e w7 ⟨b7, rfl, v7, g7⟩
 have HV7 := Lib.hid v7
 have HG9 := Lib.hid (HG8.out.trans (g7.mono HG8.out.size))
 have HD2 := Lib.hid (HD.out.later g7)
 clear v7 g7 HG8 HD c0
 go_wp2_with fail
 refine (Mg.row_c 2 false w7).mono ?_
 rintro e w8 ⟨b8, rfl, v8, g8⟩
 have HL9 := Lib.hid (Mg.lit2 w8 (Mg.d1 1 true) (Mg.d1 2 false) _ _ (HV7.out.later g8) v8)
 have HG10 : Hid (Below w.heap.size w w8) := Lib.hid (HG9.out.trans (g8.mono HG9.out.size))
 have HD3 := Lib.hid ((HD2.out.later g8).later ((Below.refl _ w8).alloc (Nat.le_refl _) (.cells #[.bool (Mg.d1 1 true).gone, Bk.sv (some ⟨b7, 0, none⟩, 1, 1), .bool (Mg.d1 2 false).gone, Bk.sv (some ⟨b8, 0, none⟩, 1, 1)] 41)))
 have HG11 := Lib.hid (HG10.out.alloc HG10.out.size (.cells #[.bool (Mg.d1 1 true).gone, Bk.sv (some ⟨b7, 0, none⟩, 1, 1), .bool (Mg.d1 2 false).gone, Bk.sv (some ⟨b8, 0, none⟩, 1, 1)] 41))
 clear v8 g8 HV7 HG9 HD2 HG10
 simp only [Bk.sv] at HL9 HG11 HD3
 rw [show (Mg.d1 1 true).gone = true from rfl, show (Mg.d1 2 false).gone = false from rfl] at HL9 HG11 HD3
 go_wp2_with fail
 refine (Mg.live_c _ _ _ HL9.out Mg.ex_rl (by decide)).mono ?_
 rintro e w9 ⟨u9, rfl, hd9, g9⟩
 have HG12 := Lib.hid (HG11.out.trans (g9.mono HG11.out.size))
 have HD4 := Lib.hid (HD3.out.later g9)
 obtain ⟨a9, c9, rfl, -, -, -⟩ := hd9
 rw [show (Mg.live [Mg.d1 1 true, Mg.d1 2 false]).length = 1 from rfl]
 clear g9 HG11 HD3 HL9
 go_wp2_with fail
 refine (Mg.split_c _ _ 2 _ HD4.out (by decide) (by decide)).mono ?_
 rintro e w10 ⟨u10, rfl, hd10, g10⟩
 have HG13 := Lib.hid (HG12.out.trans (g10.mono HG12.out.size))
 obtain ⟨a10, c10, rfl, -, -, -⟩ := hd10
 rw [show (Mg.cut (Mg.step 2 [Mg.d1 1 false, Mg.d1 2 false, Mg.d1 3 false].length) [Mg.d1 1 false, Mg.d1 2 false, Mg.d1 3 false]).length = 2 by rw [Mg.cut_length]; rfl]
 clear g10 HG12 HD4
 go_wp2
 go_ret
 exact ⟨rfl, HG13.out⟩
end
end Go.Proofs.Ytikdcmplihgdcaa
