/-
  
  
  
  
  
  
-/
import Derived.Test.YtbelkhkllneifaaGreatDoorWCAW
import Derived.Test.YtbelkhkllneifaaGreatDoorWCAL
import Derived.Test.YtbelkhkllneifaaGreatDoorWCAN
import Derived.Deep.RegionHeld3
import Derived.Test.YtbelkhkllneifaaGreatDoorWCAK
import Derived.Test.YtbelkhkllneifaaGreatDoorWCAD
import Derived.Deep.OwnRows
import Derived.Test.YtbelkhkllneifaaGreatDoorWCAT
namespace Go.Proofs.YtbelkhkllneifaaGreatDoor
open Go.RowKit
structure Bk.Rdr (r b : Nat) (w : World) (s : Dd.St) : Prop where
 cur : Ty.Cur b w s.l s.e
 box : w.heap[r]? = some (.cells #[.pointer (some ⟨b, 0, none⟩), .bool s.wr] 167 (0, 0))
 ne : b ≠ r
 tabs : Ty.Tabs w
 gb : Ty.G ≤ b
 gr : Ty.G ≤ r
 short : s.l.length ≤ 140737488351232
theorem Bk.Rdr.lt {r b : Nat} {w : World} {s : Dd.St} (h : Bk.Rdr r b w s) : r < w.heap.size ∧ b < w.heap.size := ⟨lt_of_block h.box, h.cur.lt⟩
theorem Bk.Rdr.same {r b : Nat} {w w' : World} {s : Dd.St} (h : Bk.Rdr r b w s) (hs : w.heap.size ≤ w'.heap.size) (h0 : ∀ k, k < Ty.G → w'.heap[k]? = w.heap[k]?) (h1 : w'.heap[r]? = w.heap[r]?) (h2 : w'.heap[b]? = w.heap[b]?) : Bk.Rdr r b w' s :=
 ⟨h2.trans h.cur, h1.trans h.box, h.ne, Ty.Tabs.kept h.tabs hs h0, h.gb, h.gr, h.short⟩
theorem Bk.Rdr.kept {r b : Nat} {w w' : World} {s : Dd.St} (h : Bk.Rdr r b w s) (g : Below w.heap.size w w') : Bk.Rdr r b w' s :=
 ⟨(g.block b h.lt.2).trans h.cur, (g.block r h.lt.1).trans h.box, h.ne, Ty.Tabs.below h.tabs g (Ty.Tabs.two h.tabs), h.gb, h.gr, h.short⟩
theorem Bk.Rdr.moved {r b : Nat} {w w' : World} {s : Dd.St} {l : List UInt8} {e : Nat} (h : Bk.Rdr r b w s) (hc : Ty.Cur b w' l e) (hg : w.grownBy w' (some b)) (hl : l.length ≤ s.l.length) : Bk.Rdr r b w' ⟨l, e, s.wr⟩ :=
 ⟨hc, (hg.block r h.lt.1 (fun e => h.ne (Option.some.inj e).symm)).trans h.box, h.ne, Ty.Tabs.by h.tabs hg (fun k hk => by have := Option.some.inj hk; have := h.gb; omega), h.gb, h.gr, Nat.le_trans hl h.short⟩
theorem Bk.Rdr.marked {r b : Nat} {w : World} {l : List UInt8} {e : Nat} {x : Bool} (h : Bk.Rdr r b w ⟨l, e, x⟩) (y : Bool) : Bk.Rdr r b (w.setCell ⟨r, 1, none⟩ (.bool y)) ⟨l, e, y⟩ :=
 ⟨(Below.heap_setCell _ _ _ _ (by show b ≠ r; exact h.ne)).trans h.cur, Ty.two_set1 h.box, h.ne, Ty.Tabs.by h.tabs (Ty.by_set w r 1 _) (fun k hk => by have := Option.some.inj hk; have := h.gr; omega), h.gb, h.gr, h.short⟩
theorem Bk.rdU_le (l : List UInt8) (e : Nat) : (Ty.rdU l e).2.1.length ≤ l.length := by
 unfold Ty.rdU
 split
 ·exact Nat.le_refl _
 ·simp only [List.length_drop]; omega
theorem Bk.rdT_le (m : Int) (l : List UInt8) (e : Nat) : (Ty.rdT m l e).2.1.length ≤ l.length ∧ (Ty.rdT m l e).1.length ≤ l.length := by
 unfold Ty.rdT
 split
 ·exact ⟨Nat.le_refl _, Nat.zero_le _⟩
 ·refine ⟨?_, Ty.txt_len l m⟩
  simp only [List.length_drop]; omega
theorem Bk.sl_congr {w : World} {v : Value} {n m : Nat} {f g : Nat → Value} (h : Bt.Sl w v n f) (hm : m = n) (e : ∀ i, i < n → f i = g i) : Bt.Sl w v m g := by
 subst hm
 obtain ⟨a, c, rfl, h⟩ := h
 refine ⟨a, c, rfl, ?_⟩
 rcases h with h | ⟨b, o, ha, hb, h⟩
 ·exact .inl h
 ·exact .inr ⟨b, o, ha, hb, fun i hi => by rw [← e i hi]; exact h i hi⟩
theorem Bk.sl_set {w : World} {v : Value} {n r B i : Nat} {f : Nat → Value} (h : Bt.Sl w v n f) (hf : Dd.Fresh B v) (hr : r < B) (x : Value) : Bt.Sl (w.setCell ⟨r, i, none⟩ x) v n f := by
 obtain ⟨a, c, rfl, h⟩ := h
 refine ⟨a, c, rfl, ?_⟩
 rcases h with h | ⟨b, o, rfl, hb, h⟩
 ·exact .inl h
 ·have hbB : B ≤ b := hf b rfl
  refine .inr ⟨b, o, rfl, by simpa [World.setCell] using hb, fun j hj => ?_⟩
  rw [← h j hj]
  exact World.cell?_of_block (a := ⟨b, o + j, none⟩) (Below.heap_setCell _ _ _ _ (by show b ≠ r; omega))
def Bk.Flg (r b : Nat) (w : World) (G : Nat × UInt8 × Dd.St) (e : Ending) (w' : World) : Prop :=
 ∃ u, e = .returned u ∧ Bt.Sl w' u G.1 (Bt.bv fun i => G.2.1.toNat.testBit i) ∧ Bk.Rdr r b w' G.2.2 ∧ ∀ B, B ≤ r → B ≤ b → B ≤ w.heap.size → Below B w w'
theorem Bk.stG_far {s : Dd.St} {n e1 : Nat} {l1 : List UInt8} (hU : Ty.rdU s.l s.e = (n, l1, e1)) (h : n < 1 ∨ 8 < n) : Bk.stG s = (0, 0, ⟨l1, e1, true⟩) := by
 unfold Bk.stG
 rw [hU]
 exact if_pos h
theorem Bk.stG_near {s : Dd.St} {n e1 : Nat} {l1 : List UInt8} (hU : Ty.rdU s.l s.e = (n, l1, e1)) (h : ¬ (n < 1 ∨ 8 < n)) {y e2 : Nat} {l2 : List UInt8} (hB : Ty.rdB l1 e1 = (y, l2, e2)) :
 Bk.stG s = if (UInt8.ofNat y).toNat / 2 ^ n = 0 then (n, UInt8.ofNat y, ⟨l2, e2, s.wr⟩) else (0, 0, ⟨l2, e2, true⟩) := by
 unfold Bk.stG
 rw [hU]
 refine (if_neg h).trans ?_
 rw [hB]
set_option maxHeartbeats 4000000 in
set_option maxRecDepth 100000 in
theorem Bk.rflags_c (r b : Nat) (s : Dd.St) (w : World) (h : Bk.Rdr r b w s) :
 Calls Tryz.prog 138 #[.pointer (some ⟨r, 0, none⟩)] w (Bk.Flg r b w (Bk.stG s)) := by
 have HR := Lib.hid h
 obtain ⟨b0, b1, z0, z1⟩ := Dd.two h.box
 have cu := Ty.cuint_c b s.l s.e w h.tabs h.cur (by have := h.short; omega)
 have hU := Ty.rdU_u64 s.l s.e
 have hl1 := Bk.rdU_le s.l s.e
 obtain ⟨G, hG⟩ : ∃ G, G = Bk.stG s := ⟨_, rfl⟩
 rw [← hG]
 have HF := Lib.hid fun n e1 l1 hU h => hG.trans (Bk.stG_far (n := n) (e1 := e1) (l1 := l1) hU h)
 have HN := Lib.hid fun n e1 l1 hU h y e2 l2 hB => hG.trans (Bk.stG_near (n := n) (e1 := e1) (l1 := l1) hU h (y := y) (e2 := e2) (l2 := l2) hB)
 clear hG
 generalize hR : Ty.rdU s.l s.e = U at cu hU hl1
 obtain ⟨n, l1, e1⟩ := U
 have HF := Lib.hid (HF.out n e1 l1 hR)
 have HN := Lib.hid (HN.out n e1 l1 hR)
 unfold Ty.U64 at hU
 simp only at cu hU hl1
 clear hR h
 by_cases hn : n < 1 ∨ 8 < n
 ·have HG := Lib.hid (HF.out hn)
  have hways : (n : Int) < 1 ∨ (¬ (n : Int) < 1 ∧ (8 : Int) < (n : Int)) := by omega
  clear hn
  rcases hways with h1 | ⟨h1, h2⟩
  all_goals
   go_enter Tryz.func138, Tryz.ntmps138
   go_wp2_with fail
   with_reducible refine cu.mono ?_
   rintro e w1 ⟨rfl, hc, hg⟩
   have HR1 := Lib.hid (HR.out.moved hc hg hl1)
   have HG1 := Lib.hid hg
   obtain ⟨c0, c1, f0, f1⟩ := Dd.two HR1.out.box
   clear b0 b1 z0 z1 hc hg cu
   go_wp2
   go_ret
   exact ⟨_, rfl, by rw [HG.out]; exact Bt.Sl.nil _ _, by rw [HG.out]; exact HR1.out.marked true, fun B hr hb hs => Cl.below_cell (Ty.below_at HG1.out hs hb) hr _⟩
 ·have hn1 : ¬ (n : Int) < 1 := by omega
  have hn8 : ¬ (8 : Int) < (n : Int) := by omega
  have HNN : Hid (1 ≤ n ∧ n ≤ 8) := Lib.hid (by omega)
  have HN := Lib.hid (HN.out hn)
  clear hn HF
  have hbl := Dd.rdB_le l1 e1
  have CB := Lib.hid fun wz (h : Ty.Cur b wz l1 e1) => Ty.cbyte_c b l1 e1 wz h (by have := HR.out.short; omega)
  generalize hRB : Ty.rdB l1 e1 = RB at hbl CB
  obtain ⟨y, l2, e2⟩ := RB
  simp only at hbl CB
  have HG0 := Lib.hid (HN.out y e2 l2 hRB)
  have hl2 := hbl.1
  have hy : y < 256 := by omega
  have hwy : IntKind.u8.wrap (y : Int) = (y : Int) := by rw [IntKind.wrap_u8]; omega
  have hwn : IntKind.i64.wrap (n : Int) = (n : Int) := by rw [IntKind.wrap_i64]; omega
  have HY := Lib.hid hwy
  have HWN := Lib.hid hwn
  have ONE := Lib.hid (Ig.one_str y hy)
  obtain ⟨E, hE⟩ : ∃ E, E = Bt.utE (Ty.S [UInt8.ofNat y]) (n : Int) := ⟨_, rfl⟩
  have hut := Bk.S1_ut (UInt8.ofNat y) HNN.out.1 HNN.out.2
  have hbit := fun i (h : i < 8) => Bk.S1_bit (UInt8.ofNat y) h
  have CT := Lib.hid fun wz => Bk.untruths_c (Ty.S [UInt8.ofNat y]) (n : Int) wz (show 1 ≤ 140737488355328 by decide)
  rw [← hE] at hut
  simp only [← hE] at CT
  have HBIT := Lib.hid hbit
  have HUT := Lib.hid hut
  generalize Ty.S [UInt8.ofNat y] = T9 at ONE CT HBIT HUT
  generalize UInt8.ofNat y = b8 at HG0 HBIT HUT
  clear hRB hbl hwy hwn hE hut hbit HN
  by_cases hE0 : E = 0
  ·have HZ := Lib.hid (HUT.out.1.1 hE0)
   have HGG := Lib.hid (HG0.out.trans (if_pos HZ.out))
   have HUN := Lib.hid (HUT.out.2.trans (if_pos HZ.out))
   subst hE0
   clear HG0 HUT
   obtain ⟨l0, e0, wr⟩ := s
   simp only at b0 b1 HR HGG cu hl1
   cases wr
   all_goals
    go_enter Tryz.func138, Tryz.ntmps138
    go_wp2_with fail
    with_reducible refine cu.mono ?_
    rintro e w1 ⟨rfl, hc, hg⟩
    have HR1 := Lib.hid (HR.out.moved hc hg hl1)
    have HG1 := Lib.hid hg
    have cb := CB.out w1 HR1.out.cur
    obtain ⟨c0, c1, f0, f1⟩ := Dd.two HR1.out.box
    clear b0 b1 z0 z1 hc hg cu
    go_wp2_with fail
    with_reducible refine cb.mono ?_
    rintro e w2 ⟨rfl, hc, hg⟩
    have HR2 := Lib.hid (HR1.out.moved hc hg hl2)
    have HG2 := Lib.hid (Ty.by_trans HG1.out hg)
    have hwy := HY.out
    have hwn := HWN.out
    have hone := ONE.out w2
    clear c0 c1 f0 f1 hc hg cb
    go_wp2_with fail
    have hB3 : Below w2.heap.size w2 (w2.alloc (.cells #[.int .u8 (y : Int)] 5)) := (Below.refl _ _).alloc (Nat.le_refl _) _
    generalize w2.alloc _ = w3 at hB3 ⊢
    with_reducible refine (CT.out w3).mono ?_
    rintro e w4 ⟨u, rfl, hS, hf, g4⟩
    have HR4 := Lib.hid ((HR2.out.kept hB3).kept g4)
    have HB4 := Lib.hid (hB3.trans (g4.mono hB3.size))
    have hr3 : r < w3.heap.size := Nat.lt_of_lt_of_le HR2.out.lt.1 hB3.size
    have HS := Lib.hid fun x : Bool => (Bk.sl_congr (g := Bt.bv fun i => b8.toNat.testBit i) (Bk.sl_set (i := 1) hS hf hr3 (.bool x)) HUN.out.symm fun i hi => by
     unfold Bt.bv
     rw [HBIT.out i (by rw [HUN.out] at hi; have := HNN.out.2; omega)])
    obtain ⟨c0, c1, f0, f1⟩ := Dd.two HR4.out.box
    obtain ⟨ua, un, rfl, -⟩ := hS
    clear hwy hwn hone hB3 hf g4
    go_wp2
    go_ret
    refine ⟨_, rfl, by rw [HGG.out]; exact HS.out _, by rw [HGG.out]; exact HR4.out.marked _, fun B hr hb hs => ?_⟩
    have h2 := Ty.below_at HG2.out hs hb
    exact Cl.below_cell (h2.trans (HB4.out.mono (Nat.le_trans hs h2.size))) hr _
  ·have HZ := Lib.hid fun h => hE0 (HUT.out.1.2 h)
   have HGG := Lib.hid (HG0.out.trans (if_neg HZ.out))
   have HUN := Lib.hid (HUT.out.2.trans (if_neg HZ.out))
   have hEb : ((E : Int) != 0) = true := by rw [bne_iff_ne]; omega
   clear HG0 HUT hE0
   obtain ⟨l0, e0, wr⟩ := s
   simp only at b0 b1 HR HGG cu hl1
   cases wr
   all_goals
    go_enter Tryz.func138, Tryz.ntmps138
    go_wp2_with fail
    with_reducible refine cu.mono ?_
    rintro e w1 ⟨rfl, hc, hg⟩
    have HR1 := Lib.hid (HR.out.moved hc hg hl1)
    have HG1 := Lib.hid hg
    have cb := CB.out w1 HR1.out.cur
    obtain ⟨c0, c1, f0, f1⟩ := Dd.two HR1.out.box
    clear b0 b1 z0 z1 hc hg cu
    go_wp2_with fail
    with_reducible refine cb.mono ?_
    rintro e w2 ⟨rfl, hc, hg⟩
    have HR2 := Lib.hid (HR1.out.moved hc hg hl2)
    have HG2 := Lib.hid (Ty.by_trans HG1.out hg)
    have hwy := HY.out
    have hwn := HWN.out
    have hone := ONE.out w2
    clear c0 c1 f0 f1 hc hg cb
    go_wp2_with fail
    have hB3 : Below w2.heap.size w2 (w2.alloc (.cells #[.int .u8 (y : Int)] 5)) := (Below.refl _ _).alloc (Nat.le_refl _) _
    generalize w2.alloc _ = w3 at hB3 ⊢
    with_reducible refine (CT.out w3).mono ?_
    rintro e w4 ⟨u, rfl, hS, hf, g4⟩
    have HR4 := Lib.hid ((HR2.out.kept hB3).kept g4)
    have HB4 := Lib.hid (hB3.trans (g4.mono hB3.size))
    have hr3 : r < w3.heap.size := Nat.lt_of_lt_of_le HR2.out.lt.1 hB3.size
    have HS := Lib.hid (Bk.sl_congr (m := 0) (g := Bt.bv fun i => (0 : UInt8).toNat.testBit i) (Bk.sl_set (i := 1) hS hf hr3 (.bool true)) HUN.out.symm fun i hi => by
     rw [HUN.out] at hi
     omega)
    obtain ⟨c0, c1, f0, f1⟩ := Dd.two HR4.out.box
    obtain ⟨ua, un, rfl, -⟩ := hS
    clear hwy hwn hone hB3 hf g4
    go_wp2
    go_ret
    refine ⟨_, rfl, by rw [HGG.out]; exact HS.out, by rw [HGG.out]; exact HR4.out.marked _, fun B hr hb hs => ?_⟩
    have h2 := Ty.below_at HG2.out hs hb
    exact Cl.below_cell (h2.trans (HB4.out.mono (Nat.le_trans hs h2.size))) hr _
end Go.Proofs.YtbelkhkllneifaaGreatDoor

namespace Go.Proofs.YtbelkhkllneifaaGreatDoor
open Go.RowKit
theorem Bk.row_at {w : World} {a : Option Addr} {n c : Nat} {vs : List Kn.V} (h : Kn.Vals w (.slice a n c) vs) {i : Nat} {x : Kn.V} (hx : vs[i]? = some x) : n = vs.length ∧ ∃ b o, a = some ⟨b, o, none⟩ ∧ b < w.heap.size ∧ Kn.At w b (o + i * 3) x := by
 obtain ⟨a', c', e, h⟩ := h
 simp only [Value.slice.injEq] at e
 obtain ⟨rfl, rfl, _⟩ := e
 rcases h with rfl | ⟨b, o, rfl, hb, _, h⟩
 ·simp at hx
 ·exact ⟨rfl, b, o, rfl, hb, h i x hx⟩
set_option maxHeartbeats 2000000 in
set_option maxRecDepth 100000 in
theorem Bk.pflags_c (v : Value) (L : List Dd.D) (R : Nat → Option Addr × Nat × Nat) (w : World) (hv : Bk.Dr w v L R) (h8 : L.length ≤ 8) :
 Calls Tryz.prog 98 #[v] w fun e w' => ∃ u, e = .returned u ∧ Bt.Sl w' u L.length (Bt.bv (Bk.gones L)) ∧ Below w.heap.size w w' := by
 obtain ⟨a, c, rfl, h⟩ := hv
 have HH := Lib.hid h
 have hmk := run_make_row' (P := Tryz.prog) 132 4 (.bool false) 1 Tryz.underlying132 Bt.infoB rfl .i64 .i64 L.length (by omega) (by omega)
 have H8 := Lib.hid h8
 clear h h8
 go_enter Tryz.func98, Tryz.ntmps98
 go_wp2_with fail
 have hR : (w.alloc (.cells (madeCells #[.bool false] L.length) 4)).rowIs w.heap.size 4 L.length (Bt.upTo 0 (Bt.bv (Bk.gones L)) (.bool false)) := (World.rowIs_made w (.bool false) L.length 4).congr fun i _ => by unfold Bt.upTo; rw [if_neg (by omega)]
 have hB : Below w.heap.size w (w.alloc (.cells (madeCells #[.bool false] L.length) 4)) := (Below.refl _ _).alloc (Nat.le_refl _) _
 generalize w.alloc (.cells (madeCells #[.bool false] L.length) 4) = w2 at hR hB ⊢
 clear hmk
 obtain ⟨g, hg⟩ : ∃ g, g = w.heap.size := ⟨_, rfl⟩
 rw [← hg] at hR hB ⊢
 have HGE := Lib.hid hg
 clear hg
 go_loopw [11] (fun i wr => ∃ k : Nat, k ≤ L.length ∧ i = .int .i64 k ∧ wr.rowIs g 4 L.length (Bt.upTo k (Bt.bv (Bk.gones L)) (.bool false)) ∧ Below g w wr) (fun i _ => L.length - (intOf i).toNat)
 case atStart => exact ⟨0, Nat.zero_le _, rfl, hR, hB⟩
 case round =>
  obtain ⟨k, hk, rfl, hRk, hBk⟩ := hrel
  have HR := Lib.hid hRk
  have HB := Lib.hid hBk
  have hgl : g < wr.heap.size := hRk.lt
  clear hR hB hRk hBk
  by_cases hl : k < L.length
  ·rcases HH.out with rfl | ⟨b, o, rfl, hlt, hc⟩
   ·simp at hl
   ·have hx := List.getElem?_eq_getElem hl
    generalize L[k] = d at hx
    obtain ⟨c0, c1⟩ := hc k d hx
    have hbg : b < g := by rw [HGE.out]; exact hlt
    have c0 := (HB.out.cell (p := ⟨b, o + k * 2, none⟩) hbg).trans c0
    have c1 := (HB.out.cell (p := ⟨b, o + k * 2 + 1, none⟩) hbg).trans c1
    generalize R k = rk at c1
    obtain ⟨ra, rn, rc⟩ := rk
    simp only [Bk.sv] at c1
    have hkl : (k : Int) < (L.length : Int) := by omega
    have hk0 : (0 : Int) ≤ (k : Int) := by omega
    have hk7 : (k : Int) ≤ 7 := by have := H8.out; omega
    have HGN : Hid (Bt.bv (Bk.gones L) k = .bool d.gone) := Lib.hid (by unfold Bt.bv Bk.gones; rw [List.getD_eq_getElem?_getD, hx]; rfl)
    generalize d.gone = gd at c0 HGN
    have HK := Lib.hid hl
    clear hc hx hl hk
    go_upto_region 5 with (fail)
    have HR1 := Lib.hid (HR.out.of_block (((Below.refl wr.heap.size wr).alloc (Nat.le_refl _) (.cells #[.bool gd, .slice ra rn rc] 41)).block g hgl))
    have HB1 := Lib.hid (HB.out.alloc (o := .cells #[.bool gd, .slice ra rn rc] 41) (by omega))
    have x0 := Kn.cell_new wr #[.bool gd, .slice ra rn rc] 41 0 _ rfl
    simp only [List.getElem_toArray, List.getElem_cons_zero] at x0
    obtain ⟨q, hq⟩ : ∃ q, q = wr.heap.size := ⟨_, rfl⟩
    rw [← hq] at x0 ⊢
    clear hq c0 c1 HR HB
    generalize wr.alloc _ = w3 at HR1 HB1 x0 ⊢
    have hf := HR1.out.frozen k
    have hcl := HR1.out.cell HK.out
    go_wp2
    go_roundw
    case rel => exact ⟨k + 1, HK.out, by simp, Bt.upTo_next HR1.out HGN.out.symm, HB1.out.trans (Bt.below_set (Nat.le_refl _) _)⟩
    case measure => (have := HK.out; simp [intOf]; omega)
  ·obtain rfl : k = L.length := by omega
   have hkl : ¬ (L.length : Int) < (L.length : Int) := by omega
   clear hk hl
   go_wp2
   go_ret
   exact ⟨_, rfl, Bt.Sl.row (HR.out.congr fun i hi => by unfold Bt.upTo; rw [if_pos hi]), by have := HB.out; rwa [HGE.out] at this⟩
set_option maxHeartbeats 2000000 in
set_option maxRecDepth 100000 in
theorem Bk.rows_c (i p : Nat) (v : Value) (L : List Dd.D) (R : Nat → Option Addr × Nat × Nat) (w : World) (hv : Bk.Dr w v L R) (hp : w.cell? ⟨p, 0, none⟩ = some (.int .i64 (i : Int))) (hpl : p < w.heap.size) (h8 : L.length ≤ 8) :
 Calls Tryz.prog 128 #[v, .func (.func 145) #[] #[.pointer (some ⟨p, 0, none⟩)]] w fun e w' => ∃ u, e = .returned u ∧ Dk.Own 39 1 Bk.e1 w.heap.size w' u (Bk.hl i R 0 L) ∧ Below w.heap.size w w' := by
 obtain ⟨a, c, rfl, h⟩ := hv
 have HH := Lib.hid h
 have H8 := Lib.hid h8
 have HP := Lib.hid hp
 have HPL := Lib.hid hpl
 clear h h8 hp hpl
 go_enter Tryz.func128, Tryz.ntmps128
 go_wp2_with fail
 go_loopw [5, 10] (fun hd i9 wr => ∃ k : Nat, k ≤ L.length ∧ i9 = .int .i64 k ∧ Dk.Own 39 1 Bk.e1 w.heap.size wr hd (Bk.hl i R 0 (L.take k)) ∧ Below w.heap.size w wr) (fun _ i9 _ => L.length - (intOf i9).toNat)
 case atStart => exact ⟨0, Nat.zero_le _, rfl, Dk.Own.nil _ _, Below.refl _ _⟩
 case round =>
  obtain ⟨k, hk, rfl, hO, hB⟩ := hrel
  have HO := Lib.hid hO
  have HB := Lib.hid hB
  clear hO hB
  by_cases hl : k < L.length
  ·rcases HH.out with rfl | ⟨b, o, rfl, hlt, hc⟩
   ·simp at hl
   ·have hx := List.getElem?_eq_getElem hl
    generalize L[k] = d at hx
    obtain ⟨c0, c1⟩ := hc k d hx
    have c0 := (HB.out.cell (p := ⟨b, o + k * 2, none⟩) hlt).trans c0
    have c1 := (HB.out.cell (p := ⟨b, o + k * 2 + 1, none⟩) hlt).trans c1
    have HT := Lib.hid (Bk.hl_take (i := i) (R := R) hx)
    have HML : Hid ((Bk.hl i R 0 (L.take k)).length ≤ 8) := Lib.hid (by
     rw [Bk.hl_len]
     refine Nat.le_trans (List.length_filter_le ..) ?_
     rw [List.length_take]
     have := H8.out
     omega)
    generalize Bk.hl i R 0 (L.take k) = M at HO HT HML
    generalize R k = rk at c1 HT
    obtain ⟨ra, rn, rc⟩ := rk
    simp only [Bk.sv] at c1
    have hkl : (k : Int) < (L.length : Int) := by omega
    have hk0 : (0 : Int) ≤ (k : Int) := by omega
    have hk7 : (k : Int) ≤ 7 := by have := H8.out; omega
    have CH : Hid (∀ W, W.cell? ⟨p, 0, none⟩ = some (.int .i64 (i : Int)) → p < W.heap.size → Calls Tryz.prog 145 #[.agg #[.bool d.gone, .slice ra rn rc], .pointer (some ⟨p, 0, none⟩)] W fun e w' => e = .returned (.bool (Bk.has i d)) ∧ Below W.heap.size W w') := Lib.hid fun W h1 h2 => Bk.has_c i p d ra rn rc W h1 h2
    generalize Bk.has i d = hb at CH HT
    generalize d.gone = gd at c0 CH
    have HK := Lib.hid hl
    clear hc hx hl hk
    go_upto_region 5 with (fail)
    have HB0 : Hid (Below wr.heap.size wr (wr.alloc (.cells #[.bool gd, .slice ra rn rc] 41))) := Lib.hid ((Below.refl _ _).alloc (Nat.le_refl _) _)
    have x0 := Kn.cell_new wr #[.bool gd, .slice ra rn rc] 41 0 _ rfl
    have x1 := Kn.cell_new wr #[.bool gd, .slice ra rn rc] 41 1 _ rfl
    simp only [List.getElem_toArray, List.getElem_cons_zero, List.getElem_cons_succ] at x0 x1
    have hsz : (wr.alloc (.cells #[.bool gd, .slice ra rn rc] 41)).heap.size = wr.heap.size + 1 := World.size_alloc ..
    obtain ⟨q, hq⟩ : ∃ q, q = wr.heap.size := ⟨_, rfl⟩
    rw [← hq] at x0 x1 ⊢
    generalize wr.alloc _ = w3 at HB0 x0 x1 hsz ⊢
    have hq3 : q < w3.heap.size := by omega
    have HQ3 := Lib.hid hq3
    have HX1 := Lib.hid x1
    have HB3 := Lib.hid (HB.out.trans (HB0.out.mono HB.out.size))
    have HO3 := Lib.hid (HO.out.kept HB0.out)
    have ch := CH.out w3 ((HB3.out.cell (p := ⟨p, 0, none⟩) HPL.out).trans HP.out) (Nat.lt_of_lt_of_le HPL.out HB3.out.size)
    clear hq c0 c1 HO HB HB0 CH hsz hq3
    go_wp2_with fail
    with_reducible refine ch.mono ?_
    rintro e w4 ⟨rfl, g4⟩
    have HB4 := Lib.hid (HB3.out.trans (g4.mono HB3.out.size))
    have HO4 := HO3.out.kept g4
    have y1 := (g4.cell (p := ⟨q, 1, none⟩) HQ3.out).trans HX1.out
    have hbs : w.heap.size ≤ w4.heap.size := HB4.out.size
    have hml := HML.out
    clear ch g4 x0 x1 HO3
    cases hb
    ·have HT2 := Lib.hid (HT.out.trans (by rw [if_neg (by decide), List.append_nil]))
     have HO5 := Lib.hid HO4
     clear HO4 hbs hml
     go_wp2
     go_roundw
     case rel => exact ⟨k + 1, HK.out, by simp, by rw [HT2.out]; exact HO5.out, HB4.out⟩
     case measure => (have := HK.out; simp [intOf]; omega)
    ·have HT2 := Lib.hid (HT.out.trans (by rw [if_pos rfl]))
     go_wp2_with (at_builtin; refine Dk.wpList_append1 58 _ 24 Tryz.underlying58 Bk.infoR rfl (by decide) Bk.e1_len Bk.e1_one (ra, rn, rc) HO4 hbs (by omega) (by omega) _ rfl _ rfl (.tmp 17) (.tmp 20) (by rfl) (by rfl) (by rfl) (by rfl) ?_; intro v5 w5 h5 g5)
     have H5 := Lib.hid h5
     have HB5 := Lib.hid (Dk.own_below HB4.out HO4 g5)
     clear h5 g5 HO4 hbs hml
     go_roundw
     case rel => exact ⟨k + 1, HK.out, by simp, by rw [HT2.out]; exact H5.out, HB5.out⟩
     case measure => (have := HK.out; simp [intOf]; omega)
  ·obtain rfl : k = L.length := by omega
   have hkl : ¬ (L.length : Int) < (L.length : Int) := by omega
   rw [List.take_length] at HO
   clear hk hl
   go_wp2
   go_ret
   exact ⟨_, rfl, HO.out, HB.out⟩
set_option maxHeartbeats 2000000 in
set_option maxRecDepth 100000 in
theorem Bk.pvalues_c (v : Value) (L : List Dd.D) (i : Nat) (h8 : L.length ≤ 8) (hi6 : i ≤ 6) (hl : ∀ d ∈ L, Bk.has i d = true → i < d.row.length) (w : World) (hv : Bk.Ds w v L) :
 Calls Tryz.prog 100 #[v, .int .i64 (i : Int)] w fun e w' => ∃ u, e = .returned u ∧ Kn.Vals w' u (Bk.col L i) ∧ Below w.heap.size w w' := by
 obtain ⟨R, hr, hrv⟩ := hv.dr
 have HR := Lib.hid hr
 have HRV := Lib.hid hrv
 have H8 := Lib.hid h8
 have HL := Lib.hid hl
 have HI := Lib.hid hi6
 have hi0 : (0 : Int) ≤ (i : Int) := by omega
 obtain ⟨a, c, rfl, -⟩ := hr
 have CH := Lib.hid (Bk.having_c i)
 have CR := Lib.hid fun (p : Nat) (wz : World) (h1 : Bk.Dr wz (.slice a L.length c) L R) (h2 : wz.cell? ⟨p, 0, none⟩ = some (.int .i64 (i : Int))) (h3 : p < wz.heap.size) => Bk.rows_c i p _ L R wz h1 h2 h3 H8.out
 clear hv hrv h8 hl hi6
 unfold Bk.fv at CH
 obtain ⟨K, hKE⟩ : ∃ K, K = Bk.col L i := ⟨_, rfl⟩
 rw [← hKE]
 have HKE := Lib.hid hKE
 clear hKE
 go_enter Tryz.func100, Tryz.ntmps100
 go_wp2_with fail
 with_reducible refine (CH.out _).mono ?_
 rintro e w1 ⟨p, rfl, hp1, hp2, hp3, g1⟩
 have HG1 := Lib.hid g1
 have cr := CR.out p w1 (HR.out.later g1) hp3 hp2
 clear g1 hp1 hp2 hp3 CH CR
 go_wp2_with fail
 with_reducible refine cr.mono ?_
 rintro e w2 ⟨hd, rfl, hO, g2⟩
 have HG2 := Lib.hid (HG1.out.trans (g2.mono HG1.out.size))
 have HO := Lib.hid hO
 have hf := hO.form
 have hlen : (Bk.hl i R 0 L).length = K.length := by rw [HKE.out, Bk.hl_len]; unfold Bk.col; rw [List.length_map]
 have hat0 := Bk.hl_at i R 0 L
 rw [← HKE.out] at hat0
 have HAT := Lib.hid hat0
 have HCL : Hid (K.length ≤ 8) := Lib.hid (by rw [HKE.out]; unfold Bk.col; rw [List.length_map]; exact Nat.le_trans (List.length_filter_le ..) H8.out)
 have HRV2 : Hid (∀ j d, L[j]? = some d → Kn.Vals w2 (Bk.sv (R j)) d.row) := Lib.hid fun j d h => (HRV.out j d h).later HG2.out
 clear cr g2 hO hat0
 generalize Bk.hl i R 0 L = M at hf hlen HAT HO
 have HLN := Lib.hid hlen
 have HFM : Hid ((hd = .slice none 0 0 ∧ M = []) ∨ ∃ g c, hd = .slice (some ⟨g, 0, none⟩) M.length c ∧ g < w2.heap.size) := Lib.hid (hf.imp id fun ⟨g, c, h1, _, _, _, h2⟩ => ⟨g, c, h1, h2⟩)
 obtain ⟨ha, hc, rfl⟩ : ∃ ha hc, hd = .slice ha M.length hc := by
  rcases hf with ⟨rfl, rfl⟩ | ⟨g, c, rfl, _⟩
  ·exact ⟨none, 0, rfl⟩
  ·exact ⟨_, c, rfl⟩
 clear hf hlen
 go_wp2_with fail
 go_loopw [5, 13] (fun fd i9 wr => ∃ k : Nat, k ≤ M.length ∧ i9 = .int .i64 k ∧ Cl.Own w2.heap.size wr fd (K.take k) ∧ Below w2.heap.size w2 wr) (fun _ i9 _ => M.length - (intOf i9).toNat)
 case atStart => exact ⟨0, Nat.zero_le _, rfl, Cl.Own.nil _ _, Below.refl _ _⟩
 case round =>
  obtain ⟨k, hk, rfl, hO, hB⟩ := hrel
  have HO5 := Lib.hid hO
  have HB := Lib.hid hB
  clear hO hB
  by_cases hl : k < M.length
  ·rcases HFM.out with ⟨h1, h2⟩ | ⟨g, c9, h1, hg⟩
   ·rw [h2] at hl
    simp at hl
   ·simp only [Value.slice.injEq, true_and] at h1
    obtain ⟨rfl, rfl⟩ := h1
    have hx := List.getElem?_eq_getElem hl
    generalize M[k] = rk at hx
    obtain ⟨j, d, hj, hh, hrk, hK⟩ := HAT.out k rk hx
    have c0 := HO.out.cell Bk.e1_len rfl hx (j := 0) (by decide)
    rw [Nat.mul_one, Nat.add_zero] at c0
    have c0 := (HB.out.cell (p := ⟨g, k, none⟩) hg).trans c0
    rw [Nat.zero_add] at hrk
    subst hrk
    have hv9 := HRV2.out j d hj
    have hi9 := HL.out d (List.mem_of_getElem? hj) hh
    have hxi : d.row[i]? = some (d.row.getD i Cl.nul) := by rw [List.getD_eq_getElem?_getD, List.getElem?_eq_getElem hi9]; rfl
    generalize d.row.getD i Cl.nul = x at hxi hK
    generalize R j = rj at c0 hv9
    obtain ⟨ra, rn, rc⟩ := rj
    simp only [Bk.sv, Bk.e1, List.getElem?_cons_zero] at c0 hv9
    obtain ⟨rfl, b2, o2, rfl, hb2, hat⟩ := Bk.row_at hv9 hxi
    have e0 := (HB.out.cell (p := ⟨b2, o2 + i * 3, none⟩) hb2).trans hat.c0
    have e1 := (HB.out.cell (p := ⟨b2, o2 + i * 3 + 1, none⟩) hb2).trans hat.c1
    have e2 := (HB.out.cell (p := ⟨b2, o2 + i * 3 + 2, none⟩) hb2).trans hat.c2
    have hkl : (k : Int) < (M.length : Int) := by omega
    have hk0 : (0 : Int) ≤ (k : Int) := by omega
    have hk7 : (k : Int) ≤ 7 := by have := HCL.out; have := HLN.out; omega
    have hil : (i : Int) < (d.row.length : Int) := by omega
    have HT : Hid (K.take (k + 1) = K.take k ++ [x]) := Lib.hid (by
     obtain ⟨h1, h2⟩ := List.getElem?_eq_some_iff.1 hK
     rw [List.take_succ_eq_append_getElem h1, h2])
    have hkl2 : (K.take k).length + 1 ≤ 1048576 := by
     rw [List.length_take]
     have := HCL.out
     omega
    have hO := HO5.out
    generalize K.take k = KT at hO HT hkl2 HO5
    have hws : w2.heap.size ≤ wr.heap.size := HB.out.size
    have HK := Lib.hid hl
    clear hx hj hh hK hv9 hxi hat hl hk hi9 hb2
    go_wp2_with (at_builtin; refine Cl.wpList_append_val_at x hO hws hkl2 (.tmp 17) (.tmp 22) _ rfl _ rfl rfl rfl rfl rfl ?_; intro v5 w5 h5 g5)
    have H5 := Lib.hid h5
    have HB5 := Lib.hid (HB.out.trans (Cl.own_grown hws hO g5))
    clear h5 g5 hO hkl2 hws
    go_roundw
    case rel => exact ⟨k + 1, HK.out, by simp, by rw [HT.out]; exact H5.out, HB5.out⟩
    case measure => (have := HK.out; simp [intOf]; omega)
  ·obtain rfl : k = M.length := by omega
   have hkl : ¬ (M.length : Int) < (M.length : Int) := by omega
   rw [HLN.out, List.take_length] at HO5
   clear hk hl
   go_wp2
   go_ret
   exact ⟨_, rfl, HO5.out.vals, HG2.out.trans (HB.out.mono HG2.out.size)⟩
end Go.Proofs.YtbelkhkllneifaaGreatDoor

namespace Go.Proofs.YtbelkhkllneifaaGreatDoor
open Go.RowKit
open Ty (num txt)
theorem Bk.hl_nil (i : Nat) (R : Nat → Option Addr × Nat × Nat) : ∀ (k : Nat) (l : List Dd.D) (vs : List Kn.V), Bk.hl i R k l = [] → Bk.give i l vs = l
 | _, [], _, _ => rfl
 | k, d :: l, vs, h => by
   unfold Bk.hl at h
   unfold Bk.give
   by_cases hh : Bk.has i d = true
   ·rw [if_pos hh] at h; cases h
   ·rw [if_neg hh] at h ⊢
    rw [Bk.hl_nil i R (k + 1) l vs h]
structure Bk.MidG (i : Nat) (R : Nat → Option Addr × Nat × Nat) (A : List Dd.D) (vs : List Kn.V) (hd : List (Option Addr × Nat × Nat)) (B : List Dd.D) (j k : Nat) : Prop where
 len : B.length = A.length
 le : j ≤ A.length
 tail : B.drop j = A.drop j
 held : hd.drop k = Bk.hl i R j (A.drop j)
 cnt : k + ((A.drop j).filter (Bk.has i)).length = vs.length
 val : Bk.give i A vs = B.take j ++ Bk.give i (A.drop j) (vs.drop k)
theorem Bk.MidG.start {i : Nat} {R : Nat → Option Addr × Nat × Nat} {A : List Dd.D} {vs : List Kn.V} (h : vs.length = (A.filter (Bk.has i)).length) : Bk.MidG i R A vs (Bk.hl i R 0 A) A 0 0 :=
 ⟨rfl, Nat.zero_le _, rfl, rfl, by rw [List.drop_zero, Nat.zero_add, h], rfl⟩
theorem Bk.MidG.at_ {i : Nat} {R : Nat → Option Addr × Nat × Nat} {A B : List Dd.D} {vs : List Kn.V} {hd : List (Option Addr × Nat × Nat)} {j k : Nat} (h : Bk.MidG i R A vs hd B j k) : B[j]? = A[j]? := by
 have := congrArg (fun l => l[0]?) h.tail
 simpa using this
theorem Bk.MidG.next {i : Nat} {R : Nat → Option Addr × Nat × Nat} {A : List Dd.D} {vs : List Kn.V} {hd : List (Option Addr × Nat × Nat)} {k : Nat} : ∀ (n j : Nat) (B : List Dd.D), A.length - j = n → Bk.MidG i R A vs hd B j k → k < hd.length →
 ∃ j' d x, B[j']? = some d ∧ Bk.has i d = true ∧ hd[k]? = some (R j') ∧ vs[k]? = some x ∧ Bk.MidG i R A vs hd (B.set j' ⟨d.gone, d.row.set i x⟩) (j' + 1) (k + 1)
 | 0, j, B, hn, h, hk => by
   have : A.drop j = [] := List.drop_eq_nil_of_le (by omega)
   have h2 := h.held
   rw [this] at h2
   have h3 : (hd.drop k).length = 0 := by rw [h2]; rfl
   rw [List.length_drop] at h3
   omega
 | n + 1, j, B, hn, h, hk => by
   have hb := h.at_
   have hjA : j < A.length := by omega
   have hjB : j < B.length := by rw [h.len]; exact hjA
   rw [List.getElem?_eq_getElem hjA, List.getElem?_eq_getElem hjB, Option.some.injEq] at hb
   have hdr : A.drop j = B[j] :: A.drop (j + 1) := by rw [List.drop_eq_getElem_cons hjA, hb]
   have ht := h.tail
   have hheld := h.held
   have hcnt := h.cnt
   have hval := h.val
   rw [hdr] at hheld hcnt hval
   unfold Bk.hl at hheld
   rw [List.filter_cons] at hcnt
   have htl : B.drop (j + 1) = A.drop (j + 1) := by
    have := congrArg List.tail ht
    simpa using this
   by_cases hh : Bk.has i B[j] = true
   ·rw [if_pos hh] at hheld hcnt
    rw [List.length_cons] at hcnt
    have hkv : k < vs.length := by omega
    have hvs : vs.drop k = vs[k] :: vs.drop (k + 1) := List.drop_eq_getElem_cons hkv
    refine ⟨j, B[j], vs[k], List.getElem?_eq_getElem hjB, hh, ?_, List.getElem?_eq_getElem hkv, ?_⟩
    ·have := congrArg (fun l => l[0]?) hheld
     simpa using this
    ·refine ⟨by rw [List.length_set]; exact h.len, hjA, ?_, ?_, by omega, ?_⟩
     ·rw [List.drop_set_of_lt (by omega)]
      exact htl
     ·have := congrArg List.tail hheld
      simpa using this
     ·rw [hval, hvs]
      conv => lhs; rw [Bk.give, if_pos hh]
      rw [List.headD_cons, List.tail_cons, List.take_succ_eq_append_getElem (by rw [List.length_set]; exact hjB), List.getElem_set_self, List.take_set_of_le (Nat.le_refl _), List.append_assoc]
      rfl
   ·rw [if_neg hh] at hheld hcnt
    refine Bk.MidG.next n (j + 1) B (by omega) ⟨h.len, hjA, htl, hheld, hcnt, ?_⟩ hk
    rw [hval, List.take_succ_eq_append_getElem hjB, List.append_assoc]
    conv => lhs; rw [Bk.give, if_neg hh]
    rfl
theorem Bk.MidG.done {i : Nat} {R : Nat → Option Addr × Nat × Nat} {A B : List Dd.D} {vs : List Kn.V} {hd : List (Option Addr × Nat × Nat)} {j k : Nat} (h : Bk.MidG i R A vs hd B j k) (hk : k = hd.length) : Bk.give i A vs = B := by
 have h2 := h.held
 rw [hk, List.drop_length] at h2
 rw [h.val, Bk.hl_nil i R j _ _ h2.symm, ← h.tail, List.take_append_drop]
theorem Bk.wide_set {w i j : Nat} {A : List Dd.D} {d : Dd.D} (h : Bk.Wide w A) (hd : A[j]? = some d) (x : Kn.V) : Bk.Wide w (A.set j ⟨d.gone, d.row.set i x⟩) := fun y hy => by
 rcases List.mem_or_eq_of_mem_set hy with hy | rfl
 ·exact h y hy
 ·rw [List.length_set]
  exact h d (List.mem_of_getElem? hd)
theorem Bk.wide_has {w i : Nat} (hi : i < w) {d : Dd.D} (hd : d.row.length = Bk.wdt w d.gone) (h : Bk.has i d = true) : i < d.row.length := by
 unfold Bk.has at h
 unfold Bk.wdt at hd
 rw [hd]
 cases hg : d.gone
 ·rw [if_neg (by decide)]; exact hi
 ·rw [hg] at h
  have : i = 0 := by simpa using h
  rw [if_pos rfl]
  omega
def Bk.mx (A : List Dd.D) (R : Nat → Option Addr × Nat × Nat) (i : Nat) : Value := if i % 2 = 0 then .bool (A.getD (i / 2) Bk.nod).gone else Bk.sv (R (i / 2))
structure Bk.Mx (q : Nat) (w : World) (R : Nat → Option Addr × Nat × Nat) (A : List Dd.D) : Prop where
 row : w.rowIs q 41 (A.length * 2) (Bk.mx A R)
 rows : ∀ j d, A[j]? = some d → ∃ g, R j = (some ⟨g, 0, none⟩, d.row.length, d.row.length) ∧ q < g ∧ Cl.Row w g d.row.length (fun k => d.row.getD k Cl.nul)
 sep : ∀ j k, j < A.length → k < A.length → j ≠ k → ∀ g, (R j).1 = some ⟨g, 0, none⟩ → (R k).1 ≠ some ⟨g, 0, none⟩
theorem Bk.Mx.same {q : Nat} {w w' : World} {R : Nat → Option Addr × Nat × Nat} {A : List Dd.D} (h : Bk.Mx q w R A) (g : ∀ k, q ≤ k → k < w.heap.size → w'.heap[k]? = w.heap[k]?) : Bk.Mx q w' R A := by
 refine ⟨h.row.of_block (g q (Nat.le_refl _) h.row.lt), fun j d hd => ?_, h.sep⟩
 obtain ⟨b, h1, h2, h3⟩ := h.rows j d hd
 exact ⟨b, h1, h2, World.rowIs.of_block h3 (g b (by omega) h3.lt)⟩
theorem Bk.Mx.kept {q : Nat} {w w' : World} {R : Nat → Option Addr × Nat × Nat} {A : List Dd.D} (h : Bk.Mx q w R A) (g : Below w.heap.size w w') : Bk.Mx q w' R A := h.same fun k _ hk => g.block k hk
theorem Bk.Mx.by_ {q b : Nat} {w w' : World} {R : Nat → Option Addr × Nat × Nat} {A : List Dd.D} (h : Bk.Mx q w R A) (g : w.grownBy w' (some b)) (hb : b < q) : Bk.Mx q w' R A :=
 h.same fun k hq hk => g.block k hk (fun e => by have := Option.some.inj e; omega)
theorem Bk.Mx.cells {q : Nat} {w : World} {R : Nat → Option Addr × Nat × Nat} {A : List Dd.D} (h : Bk.Mx q w R A) {j : Nat} {d : Dd.D} (hd : A[j]? = some d) : w.cell? ⟨q, j * 2, none⟩ = some (.bool d.gone) ∧ w.cell? ⟨q, j * 2 + 1, none⟩ = some (Bk.sv (R j)) := by
 have hl := (List.getElem?_eq_some_iff.1 hd).1
 constructor
 ·rw [h.row.cell (by omega)]
  unfold Bk.mx
  rw [if_pos (by omega), show j * 2 / 2 = j by omega, List.getD_eq_getElem?_getD, hd]
  rfl
 ·rw [h.row.cell (by omega)]
  unfold Bk.mx
  rw [if_neg (by omega), show (j * 2 + 1) / 2 = j by omega]
theorem Bk.Mx.dr {q : Nat} {w : World} {R : Nat → Option Addr × Nat × Nat} {A : List Dd.D} (h : Bk.Mx q w R A) (c : Nat) : Bk.Dr w (.slice (some ⟨q, 0, none⟩) A.length c) A R :=
 ⟨_, c, rfl, .inr ⟨q, 0, rfl, h.row.lt, fun i x hx => by rw [Nat.zero_add]; exact h.cells hx⟩⟩
theorem Bk.Mx.ds {q : Nat} {w : World} {R : Nat → Option Addr × Nat × Nat} {A : List Dd.D} (h : Bk.Mx q w R A) (h8 : A.length ≤ 8) (h6 : ∀ d ∈ A, d.row.length ≤ 6) : Bk.Ds w (.slice (some ⟨q, 0, none⟩) A.length A.length) A := by
 refine ⟨_, A.length, rfl, Nat.le_refl _, by omega, .inr ⟨q, 0, rfl, h.row.lt, fun i x hx => ?_⟩⟩
 rw [Nat.zero_add]
 obtain ⟨c0, c1⟩ := h.cells hx
 obtain ⟨g, hg, _, hr⟩ := h.rows i x hx
 rw [hg] at c1
 have hm := h6 x (List.mem_of_getElem? hx)
 exact ⟨_, c0, c1, hr.vals rfl (fun k v hk => by rw [List.getD_eq_getElem?_getD, hk]; rfl) (by omega)⟩
theorem Bk.Mx.put {q : Nat} {w : World} {R : Nat → Option Addr × Nat × Nat} {A : List Dd.D} (h : Bk.Mx q w R A) {j : Nat} {d : Dd.D} (hd : A[j]? = some d) {g : Nat} (hg : (R j).1 = some ⟨g, 0, none⟩) {i : Nat} (x : Kn.V) :
 Bk.Mx q (((w.setCell ⟨g, i * 3, none⟩ (.bool x.null)).setCell ⟨g, i * 3 + 1, none⟩ (.int .i64 x.n)).setCell ⟨g, i * 3 + 2, none⟩ (.string x.s)) R (A.set j ⟨d.gone, d.row.set i x⟩) := by
 have hjl := (List.getElem?_eq_some_iff.1 hd).1
 obtain ⟨g', e, hq, hr⟩ := h.rows j d hd
 have : g' = g := by rw [e] at hg; simpa using hg
 subst this
 have hoth : ∀ k, k ≠ g' → (((w.setCell ⟨g', i * 3, none⟩ (.bool x.null)).setCell ⟨g', i * 3 + 1, none⟩ (.int .i64 x.n)).setCell ⟨g', i * 3 + 2, none⟩ (.string x.s)).heap[k]? = w.heap[k]? := fun k hk =>
  (Below.heap_setCell _ _ _ _ hk).trans ((Below.heap_setCell _ _ _ _ hk).trans (Below.heap_setCell _ _ _ _ hk))
 refine ⟨?_, fun k y hy => ?_, by rw [List.length_set]; exact h.sep⟩
 ·rw [List.length_set]
  refine World.rowIs.congr (h.row.of_block (hoth q (by omega))) fun m hm => ?_
  unfold Bk.mx
  split
  ·congr 1
   simp only [List.getD_eq_getElem?_getD, List.getElem?_set]
   by_cases e3 : j = m / 2
   ·rw [if_pos e3, if_pos hjl, ← e3, hd]
    rfl
   ·rw [if_neg e3]
  ·rfl
 ·rw [List.getElem?_set] at hy
  by_cases e2 : j = k
  ·subst e2
   rw [if_pos rfl, if_pos hjl] at hy
   obtain rfl := Option.some.inj hy
   refine ⟨g', by rw [e, List.length_set], hq, ?_⟩
   rw [List.length_set]
   refine Cl.Row.congr (hr.setV i x) fun m hm => ?_
   simp only [List.getD_eq_getElem?_getD, List.getElem?_set]
   by_cases e3 : m = i
   ·subst e3
    rw [if_pos rfl, if_pos rfl, if_pos hm]
    rfl
   ·rw [if_neg e3, if_neg (fun h => e3 h.symm)]
  ·rw [if_neg e2] at hy
   obtain ⟨g2, f1, f2, f3⟩ := h.rows k y hy
   have hkl := (List.getElem?_eq_some_iff.1 hy).1
   refine ⟨g2, f1, f2, World.rowIs.of_block f3 (hoth g2 fun e4 => ?_)⟩
   subst e4
   exact h.sep j k hjl hkl e2 g2 hg (by rw [f1])
structure Bk.Btw (q s : Nat) (w w' : World) : Prop where
 os : w'.os = w.os
 tape : w'.tape = w.tape
 output : w'.output = w.output
 size : w.heap.size ≤ w'.heap.size
 block : ∀ k, k < w.heap.size → (k ≤ q ∨ s ≤ k) → w'.heap[k]? = w.heap[k]?
theorem Bk.Btw.refl (q s : Nat) (w : World) : Bk.Btw q s w w := ⟨rfl, rfl, rfl, Nat.le_refl _, fun _ _ _ => rfl⟩
theorem Bk.Btw.set {q s : Nat} {w w' : World} (h : Bk.Btw q s w w') {g : Nat} (h1 : q < g) (h2 : g < s) (i : Nat) (u : Value) : Bk.Btw q s w (w'.setCell ⟨g, i, none⟩ u) :=
 ⟨h.os, h.tape, h.output, by have := h.size; simpa [World.setCell] using this, fun k hk hq => (Below.heap_setCell _ _ _ _ (by show k ≠ g; omega)).trans (h.block k hk hq)⟩
theorem Bk.Btw.below {q s B : Nat} {w w' : World} (h : Bk.Btw q s w w') (hB : B ≤ q) (hs : B ≤ w.heap.size) : Below B w w' := ⟨h.os, h.tape, h.output, h.size, fun k hk => h.block k (by omega) (.inl (by omega))⟩
theorem Bk.by_of {b : Nat} {w w' : World} (g : Below w.heap.size w w') : w.grownBy w' (some b) := ⟨g.os, g.tape, g.output, g.size, fun k hk _ => g.block k hk⟩
theorem Bk.below_of {b B : Nat} {w w' : World} (g : w.grownBy w' (some b)) (hb : B ≤ b) (hB : B ≤ w.heap.size) : Below B w w' := Ty.below_at g hB hb
theorem Bk.vals_btw {q s : Nat} {w w' : World} {v : Value} {L : List Kn.V} (h : Kn.Vals w v L) (hf : Dd.Fresh s v) (g : Bk.Btw q s w w') : Kn.Vals w' v L := by
 obtain ⟨a, c, rfl, h⟩ := h
 refine ⟨a, c, rfl, ?_⟩
 rcases h with h | ⟨b, o, rfl, hlt, hm, h⟩
 ·exact .inl h
 ·have hb : w'.heap[b]? = w.heap[b]? := g.block b hlt (.inr (hf b rfl))
  have hc : ∀ j, w'.cell? ⟨b, j, none⟩ = w.cell? ⟨b, j, none⟩ := fun j => World.cell?_of_block (a := ⟨b, j, none⟩) hb
  exact .inr ⟨b, o, rfl, Nat.lt_of_lt_of_le hlt g.size, hm, fun i x hx => ⟨(hc _).trans (h i x hx).c0, (hc _).trans (h i x hx).c1, (hc _).trans (h i x hx).c2⟩⟩
theorem Bk.Rdr.btw {r b q s : Nat} {w w' : World} {t : Dd.St} (h : Bk.Rdr r b w t) (g : Bk.Btw q s w w') (hr : r < q) (hb : b < q) : Bk.Rdr r b w' t :=
 h.same g.size (fun k hk => g.block k (by have := h.lt.1; have := h.gr; omega) (.inl (by have := h.gr; omega))) (g.block r h.lt.1 (.inl (by omega))) (g.block b h.lt.2 (.inl (by omega)))
def Bk.Cld (r b q : Nat) (w : World) (R : Nat → Option Addr × Nat × Nat) (X : List Dd.D × Dd.St) (e : Ending) (w' : World) : Prop :=
 e = .returned (.tuple #[]) ∧ Bk.Rdr r b w' X.2 ∧ Bk.Mx q w' R X.1 ∧ ∀ B, B ≤ r → B ≤ b → Below B w w'
theorem Bk.stC_bad1 {c : Kn.C} {i : Nat} {A : List Dd.D} {s : Dd.St} {t l2 : List UInt8} {e2 : Nat} (h : Bk.rdL s = (t, l2, e2)) (hn : ¬ Bk.okS c i A t) : Bk.stC c i A s = (A, ⟨l2, e2, true⟩) := by
 unfold Bk.stC
 rw [h]
 exact if_neg hn
theorem Bk.stC_ok1 {c : Kn.C} {i : Nat} {A : List Dd.D} {s : Dd.St} {t l2 : List UInt8} {e2 : Nat} (h : Bk.rdL s = (t, l2, e2)) (hn : Bk.okS c i A t) : Bk.stC c i A s = (Bk.give i A (Cl.rd c t).2, ⟨l2, e2, s.wr⟩) := by
 unfold Bk.stC
 rw [h]
 exact if_pos hn
end Go.Proofs.YtbelkhkllneifaaGreatDoor

namespace Go.Proofs.YtbelkhkllneifaaGreatDoor
open Go.RowKit
open Ty (num txt)
set_option maxHeartbeats 8000000 in
set_option maxRecDepth 100000 in
theorem Bk.column_c (r b q : Nat) (s : Dd.St) (c : Kn.C) (A : List Dd.D) (i wd : Nat) (R : Nat → Option Addr × Nat × Nat) (w : World) (h : Bk.Rdr r b w s) (hm : Bk.Mx q w R A) (h8 : A.length ≤ 8) (hW : Bk.Wide wd A) (hi : i < wd) (hw6 : wd ≤ 6) (hr : r < q) (hb : b < q) :
 Calls Tryz.prog 140 #[.pointer (some ⟨r, 0, none⟩), c.val, .slice (some ⟨q, 0, none⟩) A.length A.length, .int .i64 (i : Int)] w (Bk.Cld r b q w R (Bk.stC c i A s)) := by
 obtain ⟨X, hX⟩ : ∃ X, X = Bk.stC c i A s := ⟨_, rfl⟩
 rw [← hX]
 have HR := Lib.hid h
 have HM := Lib.hid hm
 have H8 := Lib.hid h8
 have HW := Lib.hid hW
 have HI := Lib.hid (And.intro hi hw6)
 have HRQ := Lib.hid (And.intro hr hb)
 have hi0 : (0 : Int) ≤ (i : Int) := by omega
 have hi6 : (i : Int) ≤ 6 := by omega
 have HBADX := Lib.hid fun t l2 e2 h1 h2 => hX.trans (Bk.stC_bad1 (t := t) (l2 := l2) (e2 := e2) h1 h2)
 have HOKX := Lib.hid fun t l2 e2 h1 h2 => hX.trans (Bk.stC_ok1 (t := t) (l2 := l2) (e2 := e2) h1 h2)
 have HGL : Hid (∀ j d g, A[j]? = some d → (R j).1 = some ⟨g, 0, none⟩ → g < w.heap.size) := Lib.hid fun j d g hd hg => by
  obtain ⟨g', e, _, h3⟩ := HM.out.rows j d hd
  rw [e] at hg
  obtain rfl : g' = g := by simpa using hg
  exact h3.lt
 clear hX hW hm h8 hi hw6
 have hle := Bk.rdT_le (s.l.length : Int) s.l s.e
 have CT := Lib.hid fun (wz : World) (h : Bk.Rdr r b wz s) => Ty.ctext_c b s.l s.e (s.l.length : Int) (by have := h.short; omega) wz h.tabs h.cur (by have := h.short; omega)
 have CL := Lib.hid fun (wz : World) (h : Bk.Rdr r b wz s) => Ty.left_c b s.l s.e wz h.cur
 have CH := Lib.hid (Bk.having_c i)
 unfold Bk.fv at CH
 obtain ⟨T, hT⟩ : ∃ T, T = Bk.rdL s := ⟨_, rfl⟩
 have hT2 := hT
 unfold Bk.rdL at hT2
 rw [← hT2] at hle
 simp only [← hT2] at CT
 obtain ⟨t1, l2, e2⟩ := T
 simp only at hle CT
 have HBADX := Lib.hid (HBADX.out t1 l2 e2 hT.symm)
 have HOKX := Lib.hid (HOKX.out t1 l2 e2 hT.symm)
 have HL2 := Lib.hid hle.1
 have HS1 : Hid ((Ty.S t1).size ≤ 140737488351232) := Lib.hid (by rw [Ty.size_S]; have := HR.out.short; have := hle.2; omega)
 have C6 := Lib.hid fun (wz : World) (h : Ty.Tabs wz) => Bk.read6_c c (Ty.S t1) wz h HS1.out
 rw [show (Ty.S t1).data.toList = t1 from rfl] at C6
 unfold Bk.okS at HBADX HOKX
 generalize Cl.rd c t1 = V at C6 HBADX HOKX
 generalize Ty.S t1 = S1 at CT C6
 obtain ⟨E, vs⟩ := V
 unfold Bk.GotF at C6
 unfold Kn.C.val at C6 ⊢
 simp only at C6 HBADX HOKX
 clear hT hT2 hle HS1 h
 generalize c.k = ck at C6 ⊢
 generalize c.null = cn at C6 ⊢
 have HB0 : Hid (Below w.heap.size w (w.alloc (.cells #[.int .i64 ck, .bool cn] 76))) := Lib.hid ((Below.refl _ _).alloc (Nat.le_refl _) _)
 have x0 := Kn.cell_new w #[.int .i64 ck, .bool cn] 76 0 _ rfl
 have x1 := Kn.cell_new w #[.int .i64 ck, .bool cn] 76 1 _ rfl
 simp only [List.getElem_toArray, List.getElem_cons_zero, List.getElem_cons_succ] at x0 x1
 have hsz : (w.alloc (.cells #[.int .i64 ck, .bool cn] 76)).heap.size = w.heap.size + 1 := World.size_alloc ..
 have HX := Lib.hid (And.intro x0 (And.intro x1 hsz))
 clear x0 x1 hsz
 go_enter Tryz.func140, Tryz.ntmps140
 go_upto_region 1 with (fail)
 obtain ⟨x0, x1, hsz⟩ := HX.out
 obtain ⟨p, hp⟩ : ∃ p, p = w.heap.size := ⟨_, rfl⟩
 rw [← hp] at x0 x1 ⊢
 generalize w.alloc _ = w1 at HB0 x0 x1 hsz ⊢
 have hpb : p ≠ b := by have := HR.out.lt.2; omega
 have hrb : r ≠ b := fun e => HR.out.ne e.symm
 have HR1 := Lib.hid (HR.out.kept HB0.out)
 have hr0 := (Dd.two HR1.out.box).1
 have HHS : Hid (∀ W, w1.grownBy W (some b) → W.cell? ⟨p, 0, none⟩ = some (.int .i64 ck) ∧ W.cell? ⟨p, 1, none⟩ = some (.bool cn) ∧ W.cell? ⟨r, 0, none⟩ = some (.pointer (some ⟨b, 0, none⟩))) := Lib.hid fun W g =>
  ⟨(World.cell?_of_block (a := ⟨p, 0, none⟩) (g.block p (by omega) (fun e => hpb (Option.some.inj e)))).trans x0, (World.cell?_of_block (a := ⟨p, 1, none⟩) (g.block p (by omega) (fun e => hpb (Option.some.inj e)))).trans x1,
    (World.cell?_of_block (a := ⟨r, 0, none⟩) (g.block r HR1.out.lt.1 (fun e => hrb (Option.some.inj e)))).trans hr0⟩
 have HDW : Hid (w1.grownBy w1.drew (some b)) := Lib.hid (Bk.by_of (Bt.drewN_below w1 1))
 have HRD : Hid (Bk.Rdr r b w1.drew s) := Lib.hid (HR1.out.kept (Bt.drewN_below w1 1))
 have HM1 := Lib.hid (HM.out.kept HB0.out)
 have HTB : Hid (∀ W, w1.drew.grownBy W (some b) → Ty.Cur b W l2 e2 → Ty.Tabs W) := Lib.hid fun W g hc => (HRD.out.moved hc g HL2.out).tabs
 have HS9 := Lib.hid hsz
 have HP := Lib.hid hp
 clear hr0 hsz x0 x1 HR HM HX hpb hrb hp hr hb
 go_region_held3 (fun W => W.cell? ⟨p, 0, none⟩ = some (.int .i64 ck) ∧ W.cell? ⟨p, 1, none⟩ = some (.bool cn) ∧ W.cell? ⟨r, 0, none⟩ = some (.pointer (some ⟨b, 0, none⟩)))
  (first
   | exact HHS.out _ HDW.out
   | exact HHS.out _ (Ty.by_trans HDW.out g6)
   | exact HHS.out _ (Ty.by_trans HDW.out (Ty.by_trans g6 (Bk.by_of g7))))
  (first
   | (go_at_call 142; (with_reducible refine (CL.out _ HRD.out).mono ?_); rintro e w5 ⟨rfl, rfl⟩)
   | (go_at_call 153; (with_reducible refine (CT.out _ HRD.out).mono ?_); rintro e w6 ⟨rfl, hc6, g6⟩)
   | (go_at_call 152; (with_reducible refine (C6.out _ (HTB.out _ g6 hc6)).mono ?_); rintro e w7 ⟨v7, rfl, hv7, hf7, g7⟩))
 have HZ9 : Hid (w.heap.size ≤ w6.heap.size) := Lib.hid (by
  have h1 := g6.size
  have h2 : w1.drew.heap.size = w1.heap.size := rfl
  have h3 := HS9.out
  have h4 := HP.out
  omega)
 have HR7 := Lib.hid ((HRD.out.moved hc6 g6 HL2.out).kept g7)
 have HM7 := Lib.hid (((HM1.out.kept (Bt.drewN_below w1 1)).by_ g6 HRQ.out.2).kept g7)
 have HV7 := Lib.hid hv7
 have HF7 : Hid (Dd.Fresh w.heap.size v7) := Lib.hid (hf7.mono HZ9.out)
 have HB7 : Hid (∀ B, B ≤ r → B ≤ b → B ≤ w.heap.size → Below B w w7) := Lib.hid fun B h1 h2 h3 =>
  (HB0.out.mono h3).trans (((Bt.drewN_below w1 1).mono (Nat.le_trans h3 HB0.out.size)).trans ((Bk.below_of g6 h2 (Nat.le_trans h3 HB0.out.size)).trans (g7.mono (Nat.le_trans h3 HZ9.out))))
 have HZ7 : Hid (w.heap.size ≤ w7.heap.size) := Lib.hid (Nat.le_trans HZ9.out g7.size)
 obtain ⟨a7, c7, rfl, -⟩ := hv7
 have HRL : Hid (r < w.heap.size) := Lib.hid (by
  have h1 := HRQ.out.1
  have h2 := HM1.out.row.lt
  have h3 := HS9.out
  have h4 := HP.out
  omega)
 clear hc6 g6 g7 hf7 HRD HM1 HDW HHS HTB HR1 CT CL C6 HS9 HP HB0
 go_wp2_with fail
 with_reducible refine (CH.out _).mono ?_
 rintro e w8 ⟨p8, rfl, hp1, hp2, hp3, g8⟩
 have HM8 := Lib.hid (HM7.out.kept g8)
 have HR8 := Lib.hid (HR7.out.kept g8)
 have HV8 := Lib.hid (HV7.out.later g8)
 have HZ8 : Hid (w.heap.size ≤ w8.heap.size) := Lib.hid (Nat.le_trans HZ7.out g8.size)
 have HB8 : Hid (∀ B, B ≤ r → B ≤ b → B ≤ w.heap.size → Below B w w8) := Lib.hid fun B h1 h2 h3 => (HB7.out B h1 h2 h3).trans (g8.mono (Nat.le_trans h3 HZ7.out))
 have cr := Bk.rows_c i p8 _ A R w8 (HM8.out.dr A.length) hp3 hp2 H8.out
 clear g8 hp1 hp2 hp3 CH HR7 HM7 HV7 HB7 HZ7
 go_wp2_with fail
 with_reducible refine cr.mono ?_
 rintro e w9 ⟨hd, rfl, hO, g9⟩
 have HM9 := Lib.hid (HM8.out.kept g9)
 have HR9 := Lib.hid (HR8.out.kept g9)
 have HV9 := Lib.hid (HV8.out.later g9)
 have HZ9' : Hid (w.heap.size ≤ w9.heap.size) := Lib.hid (Nat.le_trans HZ8.out g9.size)
 have HB9 : Hid (∀ B, B ≤ r → B ≤ b → B ≤ w.heap.size → Below B w w9) := Lib.hid fun B h1 h2 h3 => (HB8.out B h1 h2 h3).trans (g9.mono (Nat.le_trans h3 HZ8.out))
 have HO := Lib.hid hO
 have hf := hO.form
 have HG0 := Lib.hid fun h => Bk.MidG.start (i := i) (R := R) (A := A) (vs := vs) h
 have hML := Bk.hl_len i R 0 A
 have HFL : Hid ((A.filter (Bk.has i)).length ≤ 8) := Lib.hid (Nat.le_trans (List.length_filter_le ..) H8.out)
 obtain ⟨m, hmm⟩ : ∃ m, m = (A.filter (Bk.has i)).length := ⟨_, rfl⟩
 rw [← hmm] at hML HG0 HFL HBADX HOKX
 generalize Bk.hl i R 0 A = M at hf hO HO hML HG0
 have HFM : Hid ((hd = .slice none 0 0 ∧ M = []) ∨ ∃ g c, hd = .slice (some ⟨g, 0, none⟩) M.length c ∧ w8.heap.size ≤ g ∧ g < w9.heap.size) := Lib.hid (hf.imp id fun ⟨g, c, h1, _, _, h2, h3⟩ => ⟨g, c, h1, h2, h3⟩)
 obtain ⟨ha, hc, rfl⟩ : ∃ ha hc, hd = .slice ha M.length hc := by
  rcases hf with ⟨rfl, rfl⟩ | ⟨g, c, rfl, _⟩
  ·exact ⟨none, 0, rfl⟩
  ·exact ⟨_, c, rfl⟩
 have HML := Lib.hid hML
 clear hf hO hML hmm g9 cr HM8 HR8 HV8 HB8
 by_cases hE : E = 0
 rotate_left
 ·have hEb : ((E : Int) != 0) = true := by rw [bne_iff_ne]; omega
  have HX := Lib.hid (HBADX.out fun h => hE h.1)
  obtain ⟨d0, d1, f0, f1⟩ := Dd.two HR9.out.box
  clear hE
  go_wp2
  go_end0
  exact ⟨rfl, by rw [HX.out]; exact HR9.out.marked true, by rw [HX.out]; exact HM9.out.same fun k hq _ => Below.heap_setCell _ _ _ _ (by show k ≠ r; have := HRQ.out.1; omega), fun B h1 h2 => Cl.below_cell (HB9.out B h1 h2 (by have := HRL.out; omega)) h1 _⟩
 subst hE
 simp only [Int.natCast_zero]
 by_cases hvl : vs.length = m
 rotate_left
 ·have hlb : ((vs.length : Int) != (M.length : Int)) = true := by rw [bne_iff_ne, HML.out]; omega
  have HX := Lib.hid (HBADX.out fun h => hvl h.2)
  obtain ⟨d0, d1, f0, f1⟩ := Dd.two HR9.out.box
  clear hvl
  go_wp2
  go_end0
  exact ⟨rfl, by rw [HX.out]; exact HR9.out.marked true, by rw [HX.out]; exact HM9.out.same fun k hq _ => Below.heap_setCell _ _ _ _ (by show k ≠ r; have := HRQ.out.1; omega), fun B h1 h2 => Cl.below_cell (HB9.out B h1 h2 (by have := HRL.out; omega)) h1 _⟩
 have hlb : ((vs.length : Int) != (M.length : Int)) = false := by rw [bne_eq_false_iff_eq, HML.out, hvl]
 have HX := Lib.hid (HOKX.out ⟨rfl, hvl⟩)
 have HG1 := Lib.hid (HG0.out hvl)
 have HVL : Hid (vs.length = M.length) := Lib.hid (by rw [HML.out, hvl])
 have HM8' : Hid (M.length ≤ 8) := Lib.hid (by rw [HML.out]; exact HFL.out)
 clear hvl HBADX HOKX HG0
 go_wp2_with fail
 clear hlb
 go_loopw [46] (fun i9 wr => ∃ (k j : Nat) (B : List Dd.D), i9 = .int .i64 k ∧ k ≤ M.length ∧ Bk.MidG i R A vs M B j k ∧ Bk.Mx q wr R B ∧ Bk.Wide wd B ∧ Bk.Btw q w.heap.size w9 wr) (fun i9 _ => M.length - (intOf i9).toNat)
 case atStart => exact ⟨0, 0, A, rfl, Nat.zero_le _, HG1.out, HM9.out, HW.out, Bk.Btw.refl _ _ _⟩
 case round =>
  obtain ⟨k, j, B, rfl, hk, hG, hMx, hWd, hB⟩ := hrel
  have HMX := Lib.hid hMx
  have HWD := Lib.hid hWd
  have HBT := Lib.hid hB
  by_cases hl : k < M.length
  ·obtain ⟨j', d, x, hBd, hh, hMk, hvx, hG'⟩ := hG.next _ _ _ rfl hl
   rcases HFM.out with ⟨h1, h2⟩ | ⟨gh, c9, h1, hg8, hg9⟩
   ·rw [h2] at hl
    simp at hl
   ·simp only [Value.slice.injEq, true_and] at h1
    obtain ⟨rfl, rfl⟩ := h1
    have c0 := HO.out.cell Bk.e1_len rfl hMk (j := 0) (by decide)
    rw [Nat.mul_one, Nat.add_zero] at c0
    have c0 := (World.cell?_of_block (a := ⟨gh, k, none⟩) (hB.block gh hg9 (.inr (Nat.le_trans HZ8.out hg8)))).trans c0
    obtain ⟨g, hRj, hqg, hrow⟩ := hMx.rows j' d hBd
    simp only [Bk.e1, hRj, Bk.sv, List.getElem?_cons_zero] at c0
    obtain ⟨hvn, b2, o2, ha7, hb2, hat⟩ := Bk.row_at (Bk.vals_btw HV9.out HF7.out hB) hvx
    have hil := Bk.wide_has HI.out.1 (hWd d (List.mem_of_getElem? hBd)) hh
    have hilt : (i : Int) < (d.row.length : Int) := by omega
    have r0 := hrow.c0 hil
    have r1 := hrow.c1 hil
    have r2 := hrow.c2 hil
    have f0 := World.rowIs.frozen hrow (i * 3)
    have f1 := World.rowIs.frozen hrow (i * 3 + 1)
    have f2 := World.rowIs.frozen hrow (i * 3 + 2)
    have e0 := hat.c0
    have e1 := hat.c1
    have e2 := hat.c2
    have hkl : (k : Int) < (M.length : Int) := by omega
    have hk0 : (0 : Int) ≤ (k : Int) := by omega
    have hk7 : (k : Int) ≤ 7 := by have := HM8'.out; omega
    have hkv : (k : Int) < (vs.length : Int) := by have := HVL.out; omega
    have HMX2 := Lib.hid (hMx.put hBd (by rw [hRj]) (i := i) x)
    have HWD2 := Lib.hid (Bk.wide_set (i := i) hWd hBd x)
    have hAd : ∃ d', A[j']? = some d' := ⟨_, List.getElem?_eq_getElem (by rw [← hG.len]; exact (List.getElem?_eq_some_iff.1 hBd).1)⟩
    obtain ⟨d', hAd⟩ := hAd
    have HGS : Hid (q < g ∧ g < w.heap.size) := Lib.hid ⟨hqg, HGL.out j' d' g hAd (by rw [hRj])⟩
    have HG' := Lib.hid hG'
    have HK := Lib.hid hl
    subst ha7
    clear hAd hG' hG hMx hWd hB hBd hh hMk hvx hRj hrow hat hl hk hvn hqg hb2 hil
    go_wp2
    go_roundw
    case rel => exact ⟨k + 1, j' + 1, _, by simp, HK.out, HG'.out, HMX2.out, HWD2.out, ((HBT.out.set HGS.out.1 HGS.out.2 _ _).set HGS.out.1 HGS.out.2 _ _).set HGS.out.1 HGS.out.2 _ _⟩
    case measure => (have := HK.out; simp [intOf]; omega)
  ·obtain rfl : k = M.length := by omega
   have hkl : ¬ (M.length : Int) < (M.length : Int) := by omega
   have HD := Lib.hid (hG.done rfl)
   clear hk hl hG hMx hWd hB
   go_wp2
   go_end0
   exact ⟨rfl, by rw [HX.out]; exact HR9.out.btw HBT.out HRQ.out.1 HRQ.out.2, by rw [HX.out]; show Bk.Mx q _ R (Bk.give i A vs); rw [HD.out]; exact HMX.out, fun B' h1 h2 => (HB9.out B' h1 h2 (by have := HRL.out; omega)).trans (HBT.out.below (by have := HRQ.out.1; omega) (Nat.le_trans (by have := HRL.out; omega) HZ9'.out))⟩
end Go.Proofs.YtbelkhkllneifaaGreatDoor

namespace Go.Proofs.YtbelkhkllneifaaGreatDoor
open Go.RowKit
def Bk.df (L : List Dd.D) (R : Nat → Value) (i : Nat) : Value := if i % 2 = 0 then .bool (L.getD (i / 2) Bk.nod).gone else R (i / 2)
structure Bk.St (base q : Nat) (w : World) (R : Nat → Value) (L : List Dd.D) : Prop where
 row : w.rowIs q 41 (L.length * 2) (Bk.df L R)
 own : ∀ i x, L[i]? = some x → Cl.Own base w (R i) x.row
 sep : ∀ i j b, i < L.length → j < L.length → i ≠ j → (R i).ownBlock = some b → (R j).ownBlock ≠ some b
 lt : q < base
 le : base ≤ w.heap.size
variable {base q : Nat} {w w' : World} {R : Nat → Value} {L : List Dd.D}
theorem Bk.St.cells (h : Bk.St base q w R L) {k : Nat} {d : Dd.D} (hk : L[k]? = some d) : w.cell? ⟨q, k * 2, none⟩ = some (.bool d.gone) ∧ w.cell? ⟨q, k * 2 + 1, none⟩ = some (R k) ∧ w.frozen? ⟨q, k * 2, none⟩ = false ∧ w.frozen? ⟨q, k * 2 + 1, none⟩ = false := by
 have hl := (List.getElem?_eq_some_iff.1 hk).1
 refine ⟨?_, ?_, h.row.frozen _, h.row.frozen _⟩
 ·rw [h.row.cell (by omega)]
  unfold Bk.df
  rw [if_pos (by omega), show k * 2 / 2 = k by omega, List.getD_eq_getElem?_getD, hk]
  rfl
 ·rw [h.row.cell (by omega)]
  unfold Bk.df
  rw [if_neg (by omega), show (k * 2 + 1) / 2 = k by omega]
theorem Bk.St.ob {i : Nat} {x : Dd.D} (h : Bk.St base q w R L) (hi : L[i]? = some x) : ∀ b, (R i).ownBlock = some b → base ≤ b ∧ b < w.heap.size := fun b hb => World.ownsRow.lt (h.own i x hi) b hb
theorem Bk.St.same (h : Bk.St base q w R L) (hs : w.heap.size ≤ w'.heap.size) (g : ∀ b, (b = q ∨ base ≤ b) → b < w.heap.size → w'.heap[b]? = w.heap[b]?) : Bk.St base q w' R L := by
 refine ⟨h.row.of_block (g q (.inl rfl) h.row.lt), fun i x hx => ?_, h.sep, h.lt, Nat.le_trans h.le hs⟩
 have ho := h.own i x hx
 refine ⟨ho.1, ?_⟩
 rcases ho.2 with hn | ⟨b, cap, cur, e, hbb, hgg, rest⟩
 ·exact .inl hn
 ·exact .inr ⟨b, cap, cur, e, hbb, by rw [g b (.inr hbb) (lt_of_block hgg)]; exact hgg, rest⟩
theorem Bk.St.kept (h : Bk.St base q w R L) (g : Below w.heap.size w w') : Bk.St base q w' R L := h.same g.size fun b _ hb => g.block b hb
theorem Bk.St.by_ {r : Nat} (h : Bk.St base q w R L) (g : w.grownBy w' (some r)) (hr : r < base) (hq : q ≠ r) : Bk.St base q w' R L :=
 h.same g.size fun b hb hbs => g.block b hbs (fun e => by
  have := Option.some.inj e
  rcases hb with rfl | hb <;> omega)
theorem Bk.St.alloc (h : Bk.St base q w R L) (o : Obj) : Bk.St base q (w.alloc o) R L := h.kept ((Below.refl _ w).alloc (Nat.le_refl _) o)
theorem Bk.St.ds (h : Bk.St base q w R L) (hl : L.length ≤ 8) (c : Nat) (hc : c = L.length) : Bk.Ds w (.slice (some ⟨q, 0, none⟩) L.length c) L := by
 subst hc
 refine ⟨_, L.length, rfl, Nat.le_refl _, by omega, .inr ⟨q, 0, rfl, h.row.lt, fun i x hx => ?_⟩⟩
 obtain ⟨c0, c1, _⟩ := h.cells hx
 rw [Nat.zero_add]
 exact ⟨R i, c0, c1, (h.own i x hx).vals⟩
theorem Bk.St.grow (h : Bk.St base q w R L) {k : Nat} {d : Dd.D} (hk : L[k]? = some d) {x : Kn.V} {v' : Value} (ho : Cl.Own base w' v' (d.row ++ [x])) (g : Ty.Grew w w' (R k) v') :
 Bk.St base q (w'.setCell ⟨q, k * 2 + 1, none⟩ v') (fun i => if i = k then v' else R i) (L.set k ⟨d.gone, d.row ++ [x]⟩) := by
 have hl := (List.getElem?_eq_some_iff.1 hk).1
 have hqk : ∀ b, (R k).ownBlock = some b → b ≠ q := fun b hb => by have := (h.ob hk b hb).1; have := h.lt; omega
 have hrow : w'.rowIs q 41 (L.length * 2) (Bk.df L R) := h.row.of_block (g.by_.block q h.row.lt (fun e => hqk q e.symm rfl))
 have hset : ∀ b, b ≠ q → (w'.setCell ⟨q, k * 2 + 1, none⟩ v').heap[b]? = w'.heap[b]? := fun b hb => Below.heap_setCell _ _ _ _ hb
 have hown : ∀ b, base ≤ b → b ≠ q := fun b hb => by have := h.lt; omega
 refine ⟨?_, fun i y hy => ?_, fun i j b hi hj hij hb => ?_, h.lt, by have := h.le; have := g.by_.size; simp only [World.setCell, Array.size_modify]; omega⟩
 ·rw [List.length_set]
  refine (World.rowIs.set hrow (k * 2 + 1) v').congr fun i hi => ?_
  unfold Bk.df
  by_cases e : i = k * 2 + 1
  ·subst e
   rw [if_pos rfl, if_neg (by omega)]
   dsimp only
   rw [if_pos (by omega)]
  ·rw [if_neg e]
   by_cases e2 : i % 2 = 0
   ·rw [if_pos e2, if_pos e2]
    congr 1
    simp only [List.getD_eq_getElem?_getD, List.getElem?_set]
    by_cases e3 : k = i / 2
    ·rw [if_pos e3, if_pos (by omega), ← e3, hk]
     rfl
    ·rw [if_neg e3]
   ·rw [if_neg e2, if_neg e2]
    dsimp only
    rw [if_neg (by omega)]
 ·rw [List.getElem?_set] at hy
  by_cases e : k = i
  ·subst e
   rw [if_pos rfl, if_pos hl] at hy
   obtain rfl := Option.some.inj hy
   rw [if_pos rfl]
   refine ⟨ho.1, ?_⟩
   rcases ho.2 with hn | ⟨b, cap, cur, e, hbb, hgg, rest⟩
   ·exact .inl hn
   ·exact .inr ⟨b, cap, cur, e, hbb, by rw [hset b (hown b hbb)]; exact hgg, rest⟩
  ·rw [if_neg e] at hy
   rw [if_neg (fun e2 => e e2.symm)]
   have hio := h.own i y hy
   refine ⟨hio.1, ?_⟩
   rcases hio.2 with hn | ⟨b, cap, cur, e4, hbb, hgg, rest⟩
   ·exact .inl hn
   ·have hob : (R i).ownBlock = some b := by rw [e4]; rfl
    have hil := (List.getElem?_eq_some_iff.1 hy).1
    refine .inr ⟨b, cap, cur, e4, hbb, ?_, rest⟩
    rw [hset b (hown b hbb), g.by_.block b (lt_of_block hgg) (fun e5 => h.sep i k b hil hl (fun e6 => e e6.symm) hob e5.symm)]
    exact hgg
 ·rw [List.length_set] at hi hj
  have hnew : ∀ (m : Nat) (c : Nat), m < L.length → m ≠ k → (R m).ownBlock = some c → v'.ownBlock ≠ some c := fun m c hm hmk hc hv => by
   have hml := List.getElem?_eq_getElem hm
   rcases g.own with e | ⟨n, e, hn⟩
   ·rw [e] at hv
    exact h.sep m k c hm hl hmk hc hv
   ·rw [e] at hv
    have := (h.ob hml c hc).2
    have := Option.some.inj hv
    omega
  by_cases ei : i = k
  ·have ej : j ≠ k := fun e => hij (ei.trans e.symm)
   simp only [if_pos ei] at hb
   simp only [if_neg ej]
   intro hc
   exact hnew j b hj ej hc hb
  ·by_cases ej : j = k
   ·simp only [if_neg ei] at hb
    simp only [if_pos ej]
    exact hnew i b hi ei hb
   ·simp only [if_neg ei] at hb
    simp only [if_neg ej]
    exact h.sep i j b hi hj hij hb
end Go.Proofs.YtbelkhkllneifaaGreatDoor

namespace Go.Proofs.YtbelkhkllneifaaGreatDoor
open Go.RowKit
def Bk.ve (v : Kn.V) : List Value := [.bool v.null, .int .i64 v.n, .string v.s]
end Go.Proofs.YtbelkhkllneifaaGreatDoor
