/-
  Contracts of package ints: the next bytes; what is right of packed differences.
-/
import Derived.Test.YtehnibknngejnaaDoorI12
namespace Go.Proofs.YtehnibknngejnaaDoor
open Go.RowKit
open Ig (nth encI encR grp diffs prv low off sg rest rdInts acc rdRuns spread outs good un)
open Ty (encU num)
/-- A byte of a list as a cell. -/
def Ig.bv (l : List UInt8) (i : Nat) : Value := .int .u8 (((l.getD i 0).toNat : Nat) : Int)
theorem Ig.row_string {w : World} {g m c : Nat} {l : List UInt8} (h : w.rowIs g 5 m (Ig.bv l)) (hm : m ≤ l.length) : (convert 38 9 (.slice (some ⟨g, 0, none⟩) m c)).run Tryd.prog w = .ok (.string (Ty.S (l.take m))) w := by
  have hlen : (l.take m).length = m := by rw [List.length_take]; omega
  have := run_convert_bytes_arg (P := Tryd.prog) w 38 _ Tryd.underlying38 Tryd.underlying5 g 0 m c ((l.take m).map fun u => (u.toNat : Int)) (by simp; omega) (fun i hi => by
    have hc := h.cell hi
    have ea : (⟨g, 0 + i, none⟩ : Addr) = ⟨g, i, none⟩ := by rw [Nat.zero_add]
    rw [ea, hc]
    unfold Ig.bv
    have h2 : i < l.length := by omega
    simp [List.getD, hi, h2]) 9 Tryd.underlying9
  rw [this]
  have e : strOfNums ((l.take m).map fun u => (u.toNat : Int)) = Ty.S (l.take m) := by
    unfold strOfNums Ty.S
    congr 1
    rw [List.map_map]
    congr 1
    conv => rhs; rw [← List.map_id (l.take m)]
    apply List.map_congr_left
    intro u _
    simp
  rw [e]
theorem Ig.drop_step {l : List UInt8} {k : Nat} (h : k < l.length) : l.drop k = l.getD k 0 :: l.drop (k + 1) := by
  rw [List.drop_eq_getElem_cons h, List.getD, List.getElem?_eq_getElem h]
  rfl
theorem Ig.cbyte_m (b : Nat) (x : UInt8) (r : List UInt8) (w : World) (h : Ty.Cur b w (x :: r) 0) (hl : (x :: r).length ≤ 9223372036854775807) :
    Calls Tryd.prog 24 #[.pointer (some ⟨b, 0, none⟩)] w (Ty.Left b w (.int .i64 ((x.toNat : Nat) : Int)) r 0) := Ty.cbyte_c b (x :: r) 0 w h hl
theorem Ig.row_by {w w' : World} {g b n : Nat} {t : TypeId} {f : Nat → Value} (h : w.rowIs g t n f) (hg : w.grownBy w' (some b)) (hne : g ≠ b) : w'.rowIs g t n f :=
  h.of_block (hg.block g h.lt (fun e => hne (Option.some.inj e)))
set_option maxHeartbeats 1000000 in
theorem Ig.take_c (b m : Nat) (l : List UInt8) (w : World) (h : Ty.Cur b w l 0) (hl : l.length ≤ 140737488355328) (hm : m ≤ l.length) :
    Calls Tryd.prog 63 #[.pointer (some ⟨b, 0, none⟩), .int .i64 m] w (Ty.Left b w (.string (Ty.S (l.take m))) (l.drop m) 0) := by
  have hbw := h.lt
  have hmk := run_make_row' (P := Tryd.prog) 38 5 (.int .u8 0) 1 Tryd.underlying38 Bt.info8 rfl .i64 .i64 m (by omega) (by omega)
  have HM : Hid (m ≤ l.length ∧ l.length ≤ 140737488355328) := Lib.hid ⟨hm, hl⟩
  have hmb : m ≤ 140737488355328 := by omega
  have H0 := Lib.hid h
  clear hm hl h
  go_enter Tryd.func63, Tryd.ntmps63
  go_wp2_with fail
  have hR : (w.alloc (.cells (madeCells #[.int .u8 0] m) 5)).rowIs w.heap.size 5 m (Bt.upTo 0 (Ig.bv l) (.int .u8 0)) := (World.rowIs_made w (.int .u8 0) m 5).congr fun i _ => by unfold Bt.upTo; rw [if_neg (by omega)]
  have hB : w.grownBy (w.alloc (.cells (madeCells #[.int .u8 0] m) 5)) none := World.grownBy_alloc _ _ _
  generalize w.alloc (.cells (madeCells #[.int .u8 0] m) 5) = w2 at hR hB ⊢
  have hc2 := H0.out.none_ hB
  have hb2 := Ty.by_some hB b
  have hne : b ≠ w.heap.size := by omega
  clear hmk hB
  generalize hg : w.heap.size = g at hR hne
  have HGE := Lib.hid hg
  clear hg
  go_loopw [11] (fun i wr => ∃ k : Nat, k ≤ m ∧ i = .int .i64 k ∧ wr.rowIs g 5 m (Bt.upTo k (Ig.bv l) (.int .u8 0)) ∧ Ty.Cur b wr (l.drop k) 0 ∧ w.grownBy wr (some b)) (fun i _ => m - (intOf i).toNat)
  case atStart => exact ⟨0, by omega, rfl, hR, hc2, hb2⟩
  case round =>
    obtain ⟨k, hk, rfl, hRk, hck, hgk⟩ := hrel
    have HR := Lib.hid hRk
    have HC := Lib.hid hck
    have HG := Lib.hid hgk
    clear hR hc2 hb2 hRk hck hgk
    by_cases hl2 : k < m
    · have hkl : (k : Int) < (m : Int) := by omega
      have hk0 : (0 : Int) ≤ (k : Int) := by omega
      have hc0 := HC.out
      rw [Ig.drop_step (by have := HM.out.1; omega)] at hc0
      have cb := Ig.cbyte_m b _ _ wr hc0 (by have := HM.out.2; rw [List.length_cons, List.length_drop]; omega)
      have HX : Hid (Ig.bv l k = .int .u8 (((l.getD k 0).toNat : Nat) : Int)) := Lib.hid rfl
      have hx8 := (l.getD k 0).toNat_lt
      generalize (l.getD k 0).toNat = x at cb HX hx8
      clear hc0
      go_wp2_with fail
      refine cb.mono ?_
      rintro e w3 ⟨rfl, hc3, hg3⟩
      have HR3 := Lib.hid (Ig.row_by HR.out hg3 (fun e => hne e.symm))
      have HC3 := Lib.hid hc3
      have HG3 := Lib.hid (Ty.by_trans HG.out hg3)
      have hf := HR3.out.frozen k
      have hcl := HR3.out.cell hl2
      clear cb hc3 hg3
      go_wp2
      go_roundw
      case rel =>
        refine ⟨k + 1, by omega, by simp, Bt.upTo_next HR3.out (by rw [HX.out]), ?_, ?_⟩
        · have := HC3.out
          unfold Ty.Cur at this ⊢
          exact (Below.heap_setCell _ _ _ _ (by show b ≠ g; exact hne)).trans this
        · have hge := HGE.out
          exact ⟨HG3.out.os, HG3.out.tape, HG3.out.output, by have := HG3.out.size; simpa [World.setCell] using this, fun j hj hn => (Below.heap_setCell _ _ _ _ (by show j ≠ g; omega)).trans (HG3.out.block j hj hn)⟩
      case measure => simp [intOf]; omega
    · obtain rfl : k = m := by omega
      have hkl : ¬ (k : Int) < (k : Int) := by omega
      have hs := Ig.row_string (c := k) (l := l) (HR.out.congr fun i hi => by unfold Bt.upTo; rw [if_pos hi]) (by have := HM.out.1; omega)
      go_wp2
      go_ret
      exact ⟨rfl, HC.out, HG.out⟩
theorem Ig.own_row {base : Nat} {w : World} {g n : Nat} {L : List Int} (h : w.rowIs g 2 n (Ig.iv L)) (hn : L.length = n) (hb : base ≤ g) (hm : n ≤ maxLen) : Ig.Own base w (.slice (some ⟨g, 0, none⟩) n n) L := by
  obtain ⟨c, hg, hc, hf⟩ := h
  subst hn
  refine ⟨by simp, .inr ⟨g, L.length, c, rfl, hb, hg, Nat.le_refl _, hm, by simpa using hc, ?_⟩⟩
  rw [Nat.mul_one]
  refine List.ext_getElem? fun j => ?_
  by_cases hj : j < L.length
  · rw [List.getElem?_take_of_lt hj, List.getElem?_map, List.getElem?_range hj, Array.getElem?_toList, hf j hj]
    rfl
  · rw [List.getElem?_eq_none (by rw [List.length_take]; omega), List.getElem?_eq_none (by simp; omega)]
theorem Ig.un_nums (s : ByteArray) (q : Nat) : un s q = Bt.nums s q := rfl
theorem Ig.low_zero {n : Nat} {x : Int} {X : Nat → Nat} (hn : 0 < n) (hX : ∀ i, X i < 2 ^ 64) (h : low (outs n x X) = x) : (List.range n).any (fun i => X i == 0) = true := by
  have hne : outs n x X ≠ [] := by
    intro e
    have := congrArg List.length e
    simp [outs] at this
    omega
  have hm := Ig.low_mem _ hne
  rw [h] at hm
  obtain ⟨i, hi, e⟩ := List.mem_map.1 hm
  refine List.any_eq_true.2 ⟨i, hi, ?_⟩
  have h2 := hX i
  unfold wrap64 at e
  rw [beq_iff_eq]
  omega
theorem Ig.good_is {n q : Nat} {x : Int} {X : Nat → Nat} (hn : 0 < n) (hX : ∀ i, X i < 2 ^ 64) : good n q x X = true ↔ Bt.wid n X = q ∧ low (outs n x X) = x := by
  unfold good
  simp only [Bool.and_eq_true, beq_iff_eq]
  constructor
  · rintro ⟨⟨_, h1⟩, h2⟩
    exact ⟨h1, h2⟩
  · rintro ⟨h1, h2⟩
    exact ⟨⟨Ig.low_zero hn hX h2, h1⟩, h2⟩
end Go.Proofs.YtehnibknngejnaaDoor
