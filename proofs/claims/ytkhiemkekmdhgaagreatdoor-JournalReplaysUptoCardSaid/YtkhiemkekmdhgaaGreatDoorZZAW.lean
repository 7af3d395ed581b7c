import Derived.Test.YtkhiemkekmdhgaaGreatDoorZZAV
import Derived.Test.YtkhiemkekmdhgaaGreatDoorZZAS
import Derived.Shelf.Abstract
import Derived.Shelf.RegionOpen
import Derived.OwnWalkIn
import Derived.TacticsInMore
import Derived.LoopNIn
import Derived.LoopIn
import Derived.Test.YtkhiemkekmdhgaaGreatDoorZZAK
import Derived.Deep.Slices
import Derived.Deep.Fields
import Derived.ChangeSame
import Derived.ProofKit
import Derived.OpenShut
import Derived.SizedLaws
namespace Go.Proofs.YtkhiemkekmdhgaaGreatDoor
section
open Go Go.RowKit
structure Sk.Pt (S : Nat → Prop) (w : World) (p : Nat) (N : List Sk.Nd) (gn : Bool) (g c : Nat) (l : List Kn.V) (k : Kn.V) (W : World) : Prop where
 pl : Sk.PL S W p N
 b : Below w.heap.size w W
 lt : w.heap.size < W.heap.size
 box : W.heap[w.heap.size]? = some (.cells #[.bool gn, .slice (some ⟨g, 0, none⟩) l.length c] 26 (0, 0))
 rw : Sk.Rw (w.heap.size + 1) W (.slice (some ⟨g, 0, none⟩) l.length c) l
 tab : Sk.Tab W
 k : Kn.At W g 0 k
theorem Sk.Pt.later {S : Nat → Prop} {w : World} {p : Nat} {N : List Sk.Nd} {gn : Bool} {g c : Nat} {l : List Kn.V} {k : Kn.V} {W W' : World} (h : Sk.Pt S w p N gn g c l k W) (g' : Below W.heap.size W W') : Sk.Pt S w p N gn g c l k W' :=
 ⟨h.pl.kept g', h.b.trans (g'.mono h.b.size), Nat.lt_of_lt_of_le h.lt g'.size, (g'.block _ h.lt).trans h.box, h.rw.kept g', h.tab.later g' h.tab.lt, h.k.later g'⟩
theorem Sk.Pt.cells {S : Nat → Prop} {w : World} {p : Nat} {N : List Sk.Nd} {gn : Bool} {g c : Nat} {l : List Kn.V} {k : Kn.V} {W : World} (h : Sk.Pt S w p N gn g c l k W) :
 W.cell? ⟨w.heap.size, 0, none⟩ = some (.bool gn) ∧ W.cell? ⟨w.heap.size, 1, none⟩ = some (.slice (some ⟨g, 0, none⟩) l.length c) ∧
 W.cell? ⟨g, 0, none⟩ = some (.bool k.null) ∧ W.cell? ⟨g, 1, none⟩ = some (.int .i64 k.n) ∧ W.cell? ⟨g, 2, none⟩ = some (.string k.s) :=
 ⟨by rw [cell_of_row _ _ _ _ _ _ h.box]; rfl, by rw [cell_of_row _ _ _ _ _ _ h.box]; rfl, h.k.c0, h.k.c1, h.k.c2⟩
set_option maxHeartbeats 8000000 in
set_option maxRecDepth 100000 in
theorem Sk.put_k {S : Nat → Prop} {w : World} {p : Nat} {N : List Sk.Nd} (h : Sk.PL S w p N) (hT : Sk.Tab w) (hg : 3 < p) (gn : Bool) {v : Value} {l : List Kn.V} (hin : Sk.In w v l) (hne : l ≠ []) (hl : N.length ≤ 900000) :
 Calls Tryz.prog 30 #[.pointer (some ⟨p, 0, none⟩), .agg #[.bool gn, v]] w fun e w' => e = .returned (.bool true) ∧
  (∃ N', Sk.PL (Sk.More S w w') w' p N' ∧ N'.map Sk.Nd.d = Sk.put Sk.kd (N.map Sk.Nd.d) ⟨gn, l⟩) ∧ Sk.Off S w w' := by
 obtain ⟨k, r, hkr⟩ : ∃ k r, l = k :: r := List.exists_cons_of_ne_nil hne
 obtain ⟨a, c, hv, hz, hll, _⟩ := id hin
 obtain ⟨wb, hwb⟩ : ∃ wb, wb = w.alloc (.cells #[.bool gn, .slice a l.length c] 26) := ⟨_, rfl⟩
 have hb : Below w.heap.size w wb := by rw [hwb]; exact (Below.refl _ w).alloc (Nat.le_refl _) _
 have hsb : wb.heap.size = w.heap.size + 1 := by rw [hwb]; exact World.size_alloc ..
 have hblk : wb.heap[w.heap.size]? = some (.cells #[.bool gn, .slice a l.length c] 26 (0, 0)) := by rw [hwb]; exact heap_alloc_new w _
 have t0 : wb.cell? ⟨w.heap.size, 0, none⟩ = some (.bool gn) := by rw [cell_of_row _ _ _ _ _ _ hblk]; rfl
 have t1 : wb.cell? ⟨w.heap.size, 1, none⟩ = some (.slice a l.length c) := by rw [cell_of_row _ _ _ _ _ _ hblk]; rfl
 have CK := Lib.hid (Sk.kept_c (w := wb) gn (hin.later hb))
 rw [hv] at CK ⊢
 have hl0 : ((l.length : Int) == 0) = false := by rw [beq_eq_false_iff_ne, hkr]; simp; omega
 have HKR := Lib.hid hkr
 have HBLK := Lib.hid hblk
 have HP2 : Hid (∀ w1 g cv, Below wb.heap.size wb w1 → Sk.Rw wb.heap.size w1 (.slice (some ⟨g, 0, none⟩) l.length cv) l → Sk.Pt S w p N gn g cv l k ((w1.setCell ⟨w.heap.size, 0, none⟩ (.bool gn)).setCell ⟨w.heap.size, 1, none⟩ (.slice (some ⟨g, 0, none⟩) l.length cv))) := Lib.hid fun w1 g cv g1 hu => by
  have hB1 : Below w.heap.size w w1 := hb.trans (g1.mono hb.size)
  have hB2 := Sk.put2 hB1 (Nat.le_refl _) (.bool gn) (.slice (some ⟨g, 0, none⟩) l.length cv)
  have hu2 : Sk.Rw (w.heap.size + 1) ((w1.setCell ⟨w.heap.size, 0, none⟩ (.bool gn)).setCell ⟨w.heap.size, 1, none⟩ (.slice (some ⟨g, 0, none⟩) l.length cv)) (.slice (some ⟨g, 0, none⟩) l.length cv) l := by rw [← hsb]; exact (hu.put (by omega)).put (by omega)
  have hc := fun (j : Nat) (hj : j < 3) => hu2.cell Sk.ve_len (g := g) rfl (i := 0) (x := k) (j := j) (by rw [hkr]; rfl) hj
  have h0 := hc 0 (by decide)
  have h1 := hc 1 (by decide)
  have h2 := hc 2 (by decide)
  simp only [Nat.zero_mul, Nat.zero_add] at h0 h1 h2
  exact ⟨h.kept hB2, hB2, by have := g1.size; simp [World.setCell]; omega, Sk.two_set _ _ ((g1.block _ (by omega)).trans hblk), hu2, hT.later hB2 hT.lt, ⟨h0, h1, h2⟩⟩
 have HLL : Hid (l.length ≤ 4398046511104 ∧ N.length ≤ 900000 ∧ (∀ x ∈ l, Kn.Z x) ∧ l ≠ []) := Lib.hid ⟨hll, hl, hz, hne⟩
 have HH : Hid (Sk.PL S w p N) := Lib.hid h
 have hln : (0 : Int) < (l.length : Int) := by rw [hkr]; simp
 have hlm : (l.length : Int) ≤ 4398046511104 := by omega
 clear h hT hin hne hl hkr hv hz hll hb hsb hblk
 subst hwb
 go_enter Tryz.func30, Tryz.ntmps30
 go_wp2_with fail
 with_reducible refine CK.out.mono ?_
 rintro e w1 ⟨u, rfl, hu, g1⟩
 obtain ⟨g, cv, rfl⟩ : ∃ g cv, u = .slice (some ⟨g, 0, none⟩) l.length cv := by
  rcases hu.form with ⟨e, e0⟩ | ⟨g, c, e, _⟩
  ·exact absurd e0 HLL.out.2.2.2
  ·exact ⟨g, c, e⟩
 have hblk1 := (g1.block w.heap.size (by simp)).trans HBLK.out
 have t0 : w1.cell? ⟨w.heap.size, 0, none⟩ = some (.bool gn) := by rw [cell_of_row _ _ _ _ _ _ hblk1]; rfl
 have t1 : w1.cell? ⟨w.heap.size, 1, none⟩ = some (.slice a l.length c) := by rw [cell_of_row _ _ _ _ _ _ hblk1]; rfl
 have f0 := frozen_of_row _ _ 0 _ _ hblk1
 have f1 := frozen_of_row _ _ 1 _ _ hblk1
 have HPT := Lib.hid (HP2.out w1 g cv g1 hu)
 clear CK HBLK HP2 hblk1 hu g1
 go_upto_region 4 with (fail)
 generalize (w1.setCell ⟨w.heap.size, 0, none⟩ (.bool gn)).setCell ⟨w.heap.size, 1, none⟩ (.slice (some ⟨g, 0, none⟩) l.length cv) = w2 at HPT ⊢
 clear t0 t1 f0 f1
 obtain ⟨b0, b1, x0, x1, x2⟩ := HPT.out.cells
 have CP := Lib.hid (Sk.path_c HPT.out.pl k)
 obtain ⟨q1, q2, hq⟩ : ∃ q1 q2, Sk.lst 0 (p, 0) (N.take (Sk.at_ Sk.kn N k)) = (q1, q2) := ⟨_, _, rfl⟩
 have HLK : Hid (∀ W, Below w2.heap.size w2 W → W.cell? ⟨q1, q2, none⟩ = some (Sk.pt ((N[Sk.at_ Sk.kn N k]?).map Sk.Nd.b))) := Lib.hid fun W g9 => by
  have := (((HPT.out.later g9).pl.split (Sk.at_ Sk.kn N k)).lnk (i := 0) (by decide)).1
  rw [hq] at this
  have e := HPT.out.pl.fst k
  unfold Sk.fst at e
  rw [e] at this
  exact this
 have HPA : Hid ((Sk.paA p (N.take (Sk.at_ Sk.kn N k)))[0]? = some (.pointer (some ⟨q1, q2, none⟩))) := Lib.hid (by
  show some (Sk.ad (Sk.lst 0 (p, 0) (N.take (Sk.at_ Sk.kn N k)))) = _
  rw [hq]; rfl)
 obtain ⟨kn, ki, ks⟩ := k
 unfold Kn.V.val at CP
 clear hq
 go_wp2_with fail
 with_reducible refine CP.out.mono ?_
 rintro e w3 ⟨rfl, g3⟩
 have HG4 : Hid (Below w2.heap.size w2 ((w3.alloc (.cells Sk.nils 112)).setRow w3.heap.size (Sk.paA p (N.take (Sk.at_ Sk.kn N ⟨kn, ki, ks⟩))))) := Lib.hid (below_setRow (g3.alloc g3.size _) g3.size _)
 have HR4 : Hid (((w3.alloc (.cells Sk.nils 112)).setRow w3.heap.size (Sk.paA p (N.take (Sk.at_ Sk.kn N ⟨kn, ki, ks⟩)))).heap[w3.heap.size]? = some (.cells (Sk.paA p (N.take (Sk.at_ Sk.kn N ⟨kn, ki, ks⟩))) 112 (0, 0))) := Lib.hid (setRow_heap _ _ Sk.nils _ _ _ (heap_alloc_new w3 _))
 clear CP g3 b0 b1 x0 x1 x2
 go_upto_region 5 with (refine wpList_store_row rfl 112 (.tmp 5) (.tmp 22) rfl w3.heap.size (Sk.paA p (N.take (Sk.at_ Sk.kn N ⟨kn, ki, ks⟩))) rfl rfl 112 Sk.nils (heap_alloc_new w3 _) (by kernel_rfl) rfl (Sk.paA_one _ _) ?_)
 change Code.wp _ _ _ _ ((w3.alloc (.cells Sk.nils 112)).setRow w3.heap.size (Sk.paA p (N.take (Sk.at_ Sk.kn N ⟨kn, ki, ks⟩))))
 generalize (w3.alloc (.cells Sk.nils 112)).setRow w3.heap.size (Sk.paA p (N.take (Sk.at_ Sk.kn N ⟨kn, ki, ks⟩))) = w4 at HG4 HR4 ⊢
 generalize w3.heap.size = pb at HR4 ⊢
 have HP4 := Lib.hid (HPT.out.later HG4.out)
 have HLK4 : Hid (∀ W, Below w4.heap.size w4 W → W.cell? ⟨q1, q2, none⟩ = some (Sk.pt ((N[Sk.at_ Sk.kn N ⟨kn, ki, ks⟩]?).map Sk.Nd.b))) := Lib.hid fun W g9 => HLK.out W (HG4.out.trans (g9.mono HG4.out.size))
 clear HPT HG4 HLK
 have p0 : w4.cell? ⟨pb, 0, none⟩ = some (.pointer (some ⟨q1, q2, none⟩)) := by rw [cell_of_row _ _ _ _ _ _ HR4.out]; exact HPA.out
 have l0 := HLK4.out w4 (Below.refl _ _)
 obtain ⟨b0, b1, x0, x1, x2⟩ := HP4.out.cells
 have HKD : Hid (Sk.kd ⟨gn, l⟩ = ⟨kn, ki, ks⟩) := Lib.hid (by unfold Sk.kd; rw [HKR.out]; rfl)
 have HCASE : (∃ oo : Option Addr, Sk.pt ((N[Sk.at_ Sk.kn N ⟨kn, ki, ks⟩]?).map Sk.Nd.b) = .pointer oo ∧ Sk.there Sk.kn N ⟨kn, ki, ks⟩ = false ∧ Calls Tryz.prog 62 #[.pointer oo, (Kn.V.mk kn ki ks).val] w4 fun e w' => e = .returned (.bool false) ∧ Below w4.heap.size w4 w') ∨
  ∃ x, N[Sk.at_ Sk.kn N ⟨kn, ki, ks⟩]? = some x ∧ Sk.there Sk.kn N ⟨kn, ki, ks⟩ = true ∧ Calls Tryz.prog 62 #[.pointer (some ⟨x.b, 0, none⟩), (Kn.V.mk kn ki ks).val] w4 fun e w' => e = .returned (.bool true) ∧ Below w4.heap.size w4 w' := by
  rcases Sk.get_cases N ⟨kn, ki, ks⟩ with ⟨hx, hG⟩ | ⟨x, hx, hc, hG⟩ | ⟨x, hx, hc, hG⟩
  ·exact .inl ⟨none, by rw [hx]; rfl, Sk.there_of_get hG, Sk.hasno_c _⟩
  ·exact .inl ⟨_, by rw [hx]; rfl, Sk.there_of_get hG, by rw [← hc]; exact Sk.has_c (HP4.out.pl.key (List.mem_of_getElem? hx)) _⟩
  ·exact .inr ⟨x, hx, Sk.there_of_some hG, by rw [← hc]; exact Sk.has_c (HP4.out.pl.key (List.mem_of_getElem? hx)) _⟩
 rcases HCASE with ⟨oo, hoo, ht, ch⟩ | ⟨x, hx, ht, ch⟩
 ·have CH := Lib.hid ch
  have HT := Lib.hid ht
  unfold Kn.V.val at CH
  rw [hoo] at l0
  clear hoo ht ch HLK4 HPA
  go_wp2_with fail
  with_reducible refine CH.out.mono ?_
  rintro e w5 ⟨rfl, g5⟩
  have HP5 := Lib.hid (HP4.out.later g5)
  have HR5 := Lib.hid ((g5.block pb (Array.getElem?_eq_some_iff.1 HR4.out).1).trans HR4.out)
  clear g5 HP4 HR4 CH p0 l0 b0 b1 x0 x1 x2
  obtain ⟨b0, b1, x0, x1, x2⟩ := HP5.out.cells
  have CI : Hid (Calls Tryz.prog 64 #[.pointer (some ⟨p, 0, none⟩), .agg (Sk.paA p (N.take (Sk.at_ Sk.kn N ⟨kn, ki, ks⟩))), .agg #[.bool gn, .slice (some ⟨g, 0, none⟩) l.length cv]] w5 fun e w' => e = .returned (.tuple #[]) ∧
   ∃ (b h : Nat) (st' : Int), w5.heap.size ≤ b ∧ b < w'.heap.size ∧ 1 ≤ h ∧ Sk.MS w5 p (N.take (Sk.at_ Sk.kn N ⟨kn, ki, ks⟩)) (N.drop (Sk.at_ Sk.kn N ⟨kn, ki, ks⟩)) ⟨b, gn, .slice (some ⟨g, 0, none⟩) l.length cv, l, N.length, h⟩ st' (.int .i64 ((N.length + 1 : Nat) : Int)) (.int .i64 (wrap64 (Sk.bytes (N.map Sk.Nd.d) : Int))) w') := Lib.hid (by
   have hpl := HP5.out.pl
   obtain ⟨st, hh⟩ := hpl.hdr
   have hs := List.take_append_drop (Sk.at_ Sk.kn N ⟨kn, ki, ks⟩) N
   exact Sk.insert_c (by rw [hs]; exact hh) (by rw [hs]; exact hpl.seg) (by rw [hs]; exact hpl.nodup) (by rw [hs]; exact hpl.ne) HP5.out.tab hg (by have := HLL.out.2.1; omega) gn _ _ _ l)
  go_wp2_with (refine wpList_load_row rfl 112 (.tmp 5) rfl pb rfl 112 (Sk.paA p (N.take (Sk.at_ Sk.kn N ⟨kn, ki, ks⟩))) (0, 0) _ HR5.out Tryz.underlying112 rfl (by kernel_rfl) ?_)
  with_reducible refine CI.out.mono ?_
  rintro e w6 ⟨rfl, nb, hh, st', hb1, hb2, hh1, hms⟩
  have hof := hms.off
  rw [List.take_append_drop] at hof
  have hown : ∀ q, w.heap.size ≤ q → q < w5.heap.size → w6.heap[q]? = w5.heap[q]? := fun q h1 h2 => hof.block q h2 (by
   rintro (e | ⟨x, hx, e⟩)
   ·have := HH.out.alive p HH.out.mine; omega
   ·have := HH.out.alive _ (HH.out.nodes x hx); omega)
  have hbox := (hown w.heap.size (Nat.le_refl _) HP5.out.lt).trans HP5.out.box
  have hrw : Sk.Rw (w.heap.size + 1) w6 (.slice (some ⟨g, 0, none⟩) l.length cv) l := HP5.out.rw.same fun b hb => hown b (by have := HP5.out.rw.base_le b hb; omega) (HP5.out.rw.lt b hb)
  have y0 : w6.drew.cell? ⟨w.heap.size, 0, none⟩ = some (.bool gn) := by show w6.cell? _ = _; rw [cell_of_row _ _ _ _ _ _ hbox]; rfl
  have y1 : w6.drew.cell? ⟨w.heap.size, 1, none⟩ = some (.slice (some ⟨g, 0, none⟩) l.length cv) := by show w6.cell? _ = _; rw [cell_of_row _ _ _ _ _ _ hbox]; rfl
  have HC14 : Hid (∀ W, Below w6.heap.size w6 W → W.cell? ⟨p, 14, none⟩ = some (.int .i64 (wrap64 (Sk.bytes (N.map Sk.Nd.d) : Int))) ∧ W.frozen? ⟨p, 14, none⟩ = false) := Lib.hid fun W g9 => by
   have h9 := hms.hdr.of_block (g9.block p hms.hdr.lt)
   exact ⟨h9.cell (i := 14) (by decide), h9.frozen 14⟩
  obtain ⟨z0, zf⟩ := HC14.out w6.drew (Below.refl _ w6).drew
  have CS := Lib.hid (Sk.size_c (w := w6.drew) gn ((hrw.in_ HLL.out.2.2.1 HLL.out.1).later (Below.refl _ w6).drew))
  have HFIN : Hid (∀ w7, Below w6.heap.size w6 w7 → (∃ N', Sk.PL (Sk.More S w (w7.setCell ⟨p, 14, none⟩ (.int .i64 (wrap64 (wrap64 (Sk.bytes (N.map Sk.Nd.d) : Int) + wrap64 (8 + (Sk.rowB l : Int))))))) (w7.setCell ⟨p, 14, none⟩ (.int .i64 (wrap64 (wrap64 (Sk.bytes (N.map Sk.Nd.d) : Int) + wrap64 (8 + (Sk.rowB l : Int)))))) p N' ∧
   N'.map Sk.Nd.d = Sk.put Sk.kd (N.map Sk.Nd.d) ⟨gn, l⟩) ∧ Sk.Off S w (w7.setCell ⟨p, 14, none⟩ (.int .i64 (wrap64 (wrap64 (Sk.bytes (N.map Sk.Nd.d) : Int) + wrap64 (8 + (Sk.rowB l : Int))))))) := Lib.hid fun w7 g7 => by
   have hkn : Sk.kn ⟨nb, gn, .slice (some ⟨g, 0, none⟩) l.length cv, l, N.length, hh⟩ = ⟨kn, ki, ks⟩ := HKD.out
   have hmap : (Sk.put Sk.kn N ⟨nb, gn, .slice (some ⟨g, 0, none⟩) l.length cv, l, N.length, hh⟩).map Sk.Nd.d = Sk.put Sk.kd (N.map Sk.Nd.d) ⟨gn, l⟩ := (Sk.map_put (key := Sk.kn) Sk.Nd.d Sk.kd (fun _ => rfl) N _).symm
   have hput : Sk.put Sk.kn N ⟨nb, gn, .slice (some ⟨g, 0, none⟩) l.length cv, l, N.length, hh⟩ = N.take (Sk.at_ Sk.kn N ⟨kn, ki, ks⟩) ++ ⟨nb, gn, .slice (some ⟨g, 0, none⟩) l.length cv, l, N.length, hh⟩ :: N.drop (Sk.at_ Sk.kn N ⟨kn, ki, ks⟩) := by unfold Sk.put; rw [hkn, HT.out]; rfl
   have hsum : wrap64 (wrap64 (Sk.bytes (N.map Sk.Nd.d) : Int) + wrap64 (8 + (Sk.rowB l : Int))) = wrap64 (Sk.bytes ((Sk.put Sk.kn N ⟨nb, gn, .slice (some ⟨g, 0, none⟩) l.length cv, l, N.length, hh⟩).map Sk.Nd.d) : Int) := by
    have h1 := Sk.wrap_in (Sk.bytes (N.map Sk.Nd.d)) (8 + Sk.rowB l) (Sk.bytes ((Sk.put Sk.kn N ⟨nb, gn, .slice (some ⟨g, 0, none⟩) l.length cv, l, N.length, hh⟩).map Sk.Nd.d)) (by
     rw [hput]
     have e : N.map Sk.Nd.d = (N.take (Sk.at_ Sk.kn N ⟨kn, ki, ks⟩)).map Sk.Nd.d ++ (N.drop (Sk.at_ Sk.kn N ⟨kn, ki, ks⟩)).map Sk.Nd.d := by rw [← List.map_append, List.take_append_drop]
     rw [e, List.map_append, List.map_cons, Sk.bytes_app, Sk.bytes_app, Sk.bytes_cons]
     show _ = _ + (8 + Sk.rowB l)
     show Sk.bytes _ + (8 + Sk.rowB l + Sk.bytes _) = _
     omega)
    rw [← h1]
    congr 2
   have := Sk.PL.inserted (n := ⟨nb, gn, .slice (some ⟨g, 0, none⟩) l.length cv, l, N.length, hh⟩) HH.out HP5.out.b (by rw [hkn]; exact hms) (by rw [hkn]; exact HT.out) rfl hh1 hb1 hb2 (hrw.mono (Nat.le_succ _)) HLL.out.2.2.2 HLL.out.2.2.1 HLL.out.1 g7 hsum
   exact ⟨⟨_, this.1, hmap⟩, this.2⟩
  generalize wrap64 (Sk.bytes (N.map Sk.Nd.d) : Int) = bv at HC14 HFIN z0
  generalize wrap64 (8 + (Sk.rowB l : Int)) = sv at CS HFIN
  clear hms hof hown hbox hrw CI HP5 HR5 HH HT HLL HKR HKD b0 b1 x0 x1 x2 hb1 hb2
  go_wp2_with fail
  go_region_law (first
   | (go_simp; go_at_call 63; (with_reducible refine CS.out.mono ?_); rintro e w7 ⟨rfl, g7⟩
      have G7 : Hid (Below w6.heap.size w6 w7) := Lib.hid ((Below.refl _ w6).drew.trans g7)
      obtain ⟨z0, zf⟩ := HC14.out w7 G7.out
      clear g7))
  all_goals
   rw [Sk.w64]
   have HF := Lib.hid (HFIN.out w7 G7.out)
   clear HFIN HC14 CS G7
   go_wp2
   go_ret
   exact ⟨rfl, HF.out⟩
 ·have CH := Lib.hid ch
  have HX := Lib.hid hx
  have HT := Lib.hid ht
  unfold Kn.V.val at CH
  rw [hx] at l0
  replace l0 : w4.cell? ⟨q1, q2, none⟩ = some (.pointer (some ⟨x.b, 0, none⟩)) := l0
  have HXM : Hid (x ∈ N) := Lib.hid (List.mem_of_getElem? hx)
  obtain ⟨xa, xc, hxv⟩ := HP4.out.pl.slice HXM.out
  have HXV := Lib.hid hxv
  obtain ⟨xb, hxb⟩ : ∃ b, b = x.b := ⟨_, rfl⟩
  obtain ⟨xg, hxg⟩ : ∃ b, b = x.gone := ⟨_, rfl⟩
  obtain ⟨xr, hxr⟩ : ∃ b, b = x.row := ⟨_, rfl⟩
  rw [← hxb] at CH l0
  have HXB := Lib.hid hxb
  have HXG := Lib.hid hxg
  have HXR := Lib.hid hxr
  clear hx ht ch HLK4 HPA hxv hxb hxg hxr
  go_wp2_with fail
  with_reducible refine CH.out.mono ?_
  rintro e w5 ⟨rfl, g5⟩
  have HP5 := Lib.hid (HP4.out.later g5)
  clear g5 HP4 HR4 CH p0 l0 b0 b1 x0 x1 x2
  have HC5 : Hid (∀ W, Below w5.heap.size w5 W → (W.cell? ⟨p, 14, none⟩ = some (.int .i64 (wrap64 (Sk.bytes (N.map Sk.Nd.d) : Int))) ∧ W.frozen? ⟨p, 14, none⟩ = false) ∧ W.cell? ⟨xb, 0, none⟩ = some (.bool xg) ∧ W.cell? ⟨xb, 1, none⟩ = some (.slice (some ⟨xa, 0, none⟩) xr.length xc) ∧
   W.frozen? ⟨xb, 0, none⟩ = false ∧ W.frozen? ⟨xb, 1, none⟩ = false) := Lib.hid fun W g9 => by
   have hpl := (HP5.out.later g9).pl
   obtain ⟨st, hh⟩ := hpl.hdr
   have hn := hpl.node HXM.out
   rw [HXV.out, ← HXB.out, ← HXG.out, ← HXR.out] at hn
   obtain ⟨rr, hrr⟩ := hpl.seg.mem HXM.out
   rw [← HXB.out] at hrr
   exact ⟨⟨hh.cell (i := 14) (by decide), hh.frozen 14⟩, hn.1, hn.2.1, hrr.frozen 0, hrr.frozen 1⟩
  obtain ⟨⟨z0, zf⟩, n0, n1, _, _⟩ := HC5.out w5.drew (Below.refl _ w5).drew
  have CSX : Hid (Calls Tryz.prog 63 #[.agg #[.bool xg, .slice (some ⟨xa, 0, none⟩) xr.length xc]] w5.drew fun e w' => e = .returned (.int .i64 (wrap64 (8 + (Sk.rowB xr : Int)))) ∧ Below w5.drew.heap.size w5.drew w') := Lib.hid (by
   have h1 := (HP5.out.later (Below.refl _ w5).drew).pl.in_ HXM.out
   have := Sk.size_c xg h1
   rw [HXV.out, ← HXR.out] at this
   exact this)
  have HB : Hid (∃ bv : Nat, bv = Sk.bytes (N.map Sk.Nd.d)) := Lib.hid ⟨_, rfl⟩
  obtain ⟨bn, hbn⟩ := HB.out
  rw [← hbn] at HC5 z0
  have HBN := Lib.hid hbn
  clear hbn HB
  generalize hsx : wrap64 (8 + (Sk.rowB xr : Int)) = sx at CSX
  have HSX := Lib.hid hsx
  clear hsx
  generalize hbv : wrap64 (bn : Int) = bv at HC5 z0
  have HBV := Lib.hid hbv
  clear hbv
  go_wp2_with fail
  go_region_law (first
   | (go_simp; go_at_call 63; (with_reducible refine CSX.out.mono ?_); rintro e w6 ⟨rfl, g6⟩
      have G6 : Hid (Below w5.heap.size w5 w6) := Lib.hid ((Below.refl _ w5).drew.trans g6)
      obtain ⟨⟨z0, zf⟩, n0, n1, m0, m1⟩ := HC5.out w6 G6.out
      clear g6))
  all_goals
   rw [Sk.w64]
   have HP6 := Lib.hid (HP5.out.later G6.out)
   clear CSX G6 HC5
   have hpw : p < w.heap.size := HH.out.alive p HH.out.mine
   have hxw : xb < w.heap.size := by rw [HXB.out]; exact HH.out.alive _ (HH.out.nodes x HXM.out)
   have hxp : xb ≠ p := by rw [HXB.out]; exact HH.out.ne x HXM.out
   obtain ⟨wA, hwA⟩ : ∃ wA, wA = w6.setCell ⟨p, 14, none⟩ (.int .i64 (wrap64 (bv - sx))) := ⟨_, rfl⟩
   rw [← hwA]
   have hA : ∀ q, q ≠ p → wA.heap[q]? = w6.heap[q]? := fun q hq => by rw [hwA]; exact Below.heap_setCell _ _ _ _ hq
   have hc6 := HP6.out.cells
   replace n0 : wA.cell? ⟨xb, 0, none⟩ = some (.bool xg) := (World.cell?_of_block (hA xb hxp)).trans n0
   replace n1 : wA.cell? ⟨xb, 1, none⟩ = some (.slice (some ⟨xa, 0, none⟩) xr.length xc) := (World.cell?_of_block (hA xb hxp)).trans n1
   replace m0 : wA.frozen? ⟨xb, 0, none⟩ = false := (World.frozen?_of_block (hA xb hxp)).trans m0
   replace m1 : wA.frozen? ⟨xb, 1, none⟩ = false := (World.frozen?_of_block (hA xb hxp)).trans m1
   have b0 : wA.cell? ⟨w.heap.size, 0, none⟩ = some (.bool gn) := (World.cell?_of_block (hA w.heap.size (by omega))).trans hc6.1
   have b1 : wA.cell? ⟨w.heap.size, 1, none⟩ = some (.slice (some ⟨g, 0, none⟩) l.length cv) := (World.cell?_of_block (hA w.heap.size (by omega))).trans hc6.2.1
   have HWA := Lib.hid hwA
   have HWW : Hid (p < w.heap.size ∧ xb < w.heap.size ∧ xb ≠ p) := Lib.hid ⟨hpw, hxw, hxp⟩
   clear hwA hA hc6 hpw hxw hxp z0 zf
   go_upto_region 10 with (fail)
   obtain ⟨wB, hwB⟩ : ∃ wB, wB = (wA.setCell ⟨xb, 0, none⟩ (.bool gn)).setCell ⟨xb, 1, none⟩ (.slice (some ⟨g, 0, none⟩) l.length cv) := ⟨_, rfl⟩
   rw [← hwB]
   have hB : ∀ q, q ≠ p → q ≠ xb → wB.heap[q]? = w6.heap[q]? := fun q hq hqx => by
    rw [hwB, Below.heap_setCell _ _ _ _ hqx, Below.heap_setCell _ _ _ _ hqx, HWA.out]
    exact Below.heap_setCell _ _ _ _ hq
   have hrwB : Sk.Rw (w.heap.size + 1) wB (.slice (some ⟨g, 0, none⟩) l.length cv) l := HP6.out.rw.same fun b hb => hB b (by have := HP6.out.rw.base_le b hb; have := HWW.out.1; omega) (by have := HP6.out.rw.base_le b hb; have := HWW.out.2.1; omega)
   have hboxB := (hB w.heap.size (by have := HWW.out.1; omega) (by have := HWW.out.2.1; omega)).trans HP6.out.box
   have y0 : wB.drew.cell? ⟨w.heap.size, 0, none⟩ = some (.bool gn) := by show wB.cell? _ = _; rw [cell_of_row _ _ _ _ _ _ hboxB]; rfl
   have y1 : wB.drew.cell? ⟨w.heap.size, 1, none⟩ = some (.slice (some ⟨g, 0, none⟩) l.length cv) := by show wB.cell? _ = _; rw [cell_of_row _ _ _ _ _ _ hboxB]; rfl
   have HC14 : Hid (∀ W, Below wB.heap.size wB W → W.cell? ⟨p, 14, none⟩ = some (.int .i64 (wrap64 (bv - sx))) ∧ W.frozen? ⟨p, 14, none⟩ = false) := Lib.hid fun W g9 => by
    obtain ⟨st, hh⟩ := HP6.out.pl.hdr
    have h1 := hh.set 14 (.int .i64 (wrap64 (bv - sx)))
    rw [← HWA.out] at h1
    have h2 := (h1.setOther (a := ⟨xb, 0, none⟩) (fun e => HWW.out.2.2 e.symm) (.bool gn)).setOther (a := ⟨xb, 1, none⟩) (fun e => HWW.out.2.2 e.symm) (.slice (some ⟨g, 0, none⟩) l.length cv)
    rw [← hwB] at h2
    have h9 := h2.of_block (g9.block p h2.lt)
    exact ⟨h9.cell (i := 14) (by decide), h9.frozen 14⟩
   obtain ⟨z0, zf⟩ := HC14.out wB.drew (Below.refl _ wB).drew
   have CS := Lib.hid (Sk.size_c (w := wB.drew) gn ((hrwB.in_ HLL.out.2.2.1 HLL.out.1).later (Below.refl _ wB).drew))
   have HFIN : Hid (∀ w8, Below wB.heap.size wB w8 → (∃ N', Sk.PL (Sk.More S w (w8.setCell ⟨p, 14, none⟩ (.int .i64 (wrap64 (wrap64 (bv - sx) + wrap64 (8 + (Sk.rowB l : Int))))))) (w8.setCell ⟨p, 14, none⟩ (.int .i64 (wrap64 (wrap64 (bv - sx) + wrap64 (8 + (Sk.rowB l : Int)))))) p N' ∧
    N'.map Sk.Nd.d = Sk.put Sk.kd (N.map Sk.Nd.d) ⟨gn, l⟩) ∧ Sk.Off S w (w8.setCell ⟨p, 14, none⟩ (.int .i64 (wrap64 (wrap64 (bv - sx) + wrap64 (8 + (Sk.rowB l : Int))))))) := Lib.hid fun w8 g8 => by
    have hsum : wrap64 (wrap64 (bv - sx) + wrap64 (8 + (Sk.rowB l : Int))) = wrap64 (Sk.bytes (Sk.put Sk.kd (N.map Sk.Nd.d) ⟨gn, l⟩) : Int) := by
     have hmap : (Sk.put Sk.kn N (x.anew gn (.slice (some ⟨g, 0, none⟩) l.length cv) l)).map Sk.Nd.d = Sk.put Sk.kd (N.map Sk.Nd.d) ⟨gn, l⟩ := (Sk.map_put (key := Sk.kn) Sk.Nd.d Sk.kd (fun _ => rfl) N _).symm
     have hkn : Sk.kn (x.anew gn (.slice (some ⟨g, 0, none⟩) l.length cv) l) = ⟨kn, ki, ks⟩ := HKD.out
     have h1 := Sk.wrap_out (Sk.bytes (N.map Sk.Nd.d)) (8 + Sk.rowB xr) (8 + Sk.rowB l) (Sk.bytes (Sk.put Sk.kd (N.map Sk.Nd.d) ⟨gn, l⟩)) (by
      rw [← hmap]
      have hput : Sk.put Sk.kn N (x.anew gn (.slice (some ⟨g, 0, none⟩) l.length cv) l) = N.take (Sk.at_ Sk.kn N ⟨kn, ki, ks⟩) ++ x.anew gn (.slice (some ⟨g, 0, none⟩) l.length cv) l :: N.drop (Sk.at_ Sk.kn N ⟨kn, ki, ks⟩ + 1) := by unfold Sk.put; rw [hkn, HT.out]; rfl
      have hN : N = N.take (Sk.at_ Sk.kn N ⟨kn, ki, ks⟩) ++ x :: N.drop (Sk.at_ Sk.kn N ⟨kn, ki, ks⟩ + 1) := by
       obtain ⟨hi, e⟩ := List.getElem?_eq_some_iff.1 HX.out
       rw [← e, List.getElem_cons_drop, List.take_append_drop]
      have e : N.map Sk.Nd.d = (N.take (Sk.at_ Sk.kn N ⟨kn, ki, ks⟩)).map Sk.Nd.d ++ x.d :: (N.drop (Sk.at_ Sk.kn N ⟨kn, ki, ks⟩ + 1)).map Sk.Nd.d := by rw [← List.map_cons, ← List.map_append, ← hN]
      rw [hput, e, List.map_append, List.map_cons, Sk.bytes_app, Sk.bytes_app, Sk.bytes_cons, Sk.bytes_cons]
      show Sk.bytes _ + (8 + Sk.rowB l + Sk.bytes _) + (8 + Sk.rowB xr) = Sk.bytes _ + (8 + Sk.rowB x.row + Sk.bytes _) + (8 + Sk.rowB l)
      rw [HXR.out]
      omega)
     rw [← h1, ← HBV.out, ← HSX.out, HBN.out]
     congr 3
    obtain ⟨N', a1, a2, a3⟩ := Sk.PL.replaced (v1 := .int .i64 (wrap64 (bv - sx))) HH.out HP6.out.pl HP6.out.b HX.out HT.out HKD.out (HP6.out.rw.mono (Nat.le_succ _)) HLL.out.2.2.2 HLL.out.2.2.1 HLL.out.1 (by rw [hwB, HWA.out, ← HXB.out]) g8 hsum
    exact ⟨⟨N', a1, a2⟩, a3⟩
   generalize wrap64 (8 + (Sk.rowB l : Int)) = sv at CS HFIN
   generalize wrap64 (bv - sx) = bw at HC14 HFIN z0
   clear hB hrwB hboxB hwB HWA HWW HP6 HH HT HLL HKR HKD HX HXV HXB HXG HXR HXM HBN HSX HBV HP5 b0 b1 n0 n1 m0 m1
   go_region_law (first
    | (go_simp; go_at_call 63; (with_reducible refine CS.out.mono ?_); rintro e w8 ⟨rfl, g8⟩
       have G8 : Hid (Below wB.heap.size wB w8) := Lib.hid ((Below.refl _ wB).drew.trans g8)
       obtain ⟨z0, zf⟩ := HC14.out w8 G8.out
       clear g8))
   all_goals
    rw [Sk.w64]
    have HF := Lib.hid (HFIN.out w8 G8.out)
    clear HFIN HC14 CS G8
    go_wp2
    go_ret
    exact ⟨rfl, HF.out⟩
theorem Sk.put_c {S : Nat → Prop} {w : World} {p : Nat} {N : List Sk.Nd} (h : Sk.PL S w p N) (hT : Sk.Tab w) (hg : 3 < p) (gn : Bool) {v : Value} {l : List Kn.V} (hin : Sk.In w v l) (hne : l ≠ []) (hl : N.length ≤ 100000) :
 Calls Tryz.prog 30 #[.pointer (some ⟨p, 0, none⟩), .agg #[.bool gn, v]] w fun e w' => e = .returned (.bool true) ∧
  (∃ N', Sk.PL (Sk.More S w w') w' p N' ∧ N'.map Sk.Nd.d = Sk.put Sk.kd (N.map Sk.Nd.d) ⟨gn, l⟩) ∧ Sk.Off S w w' := Sk.put_k h hT hg gn hin hne (Nat.le_trans hl (by decide))
set_option maxHeartbeats 1000000 in
set_option maxRecDepth 100000 in
theorem Sk.putno_c (p : Option Addr) (gn : Bool) (a : Option Addr) (c : Nat) (w : World) :
 Calls Tryz.prog 30 #[.pointer p, .agg #[.bool gn, .slice a 0 c]] w fun e w' => e = .returned (.bool false) ∧ Below w.heap.size w w' := by
 cases p with
 | none =>
   go_enter Tryz.func30, Tryz.ntmps30
   go_wp2
   go_ret
   exact ⟨rfl, (Below.refl _ w).alloc (Nat.le_refl _) _⟩
 | some ad =>
   go_enter Tryz.func30, Tryz.ntmps30
   go_wp2
   go_ret
   exact ⟨rfl, (Below.refl _ w).alloc (Nat.le_refl _) _⟩
end
section
open Go Go.RowKit Go.Shelf
attribute [local go_sem] Oper.semAt_some
def Sk.ahead (N : List Sk.Nd) (v : Value) : Nat := match v with
 | .pointer (some a) => Sk.rest.go a.block N + 1
 | _ => 0
theorem Sk.ahead_at {N A B : List Sk.Nd} {x : Sk.Nd} (hN : N = A ++ x :: B) (hd : (N.map Sk.Nd.b).Nodup) : Sk.ahead N (.pointer (some ⟨x.b, 0, none⟩)) = B.length + 1 := by
 subst hN
 show Sk.rest.go x.b _ + 1 = _
 rw [Sk.rest_go hd]
def Sk.ha (B : List Sk.Nd) : Option Addr := (B.head?.map Sk.Nd.b).map fun b => ⟨b, 0, none⟩
def Sk.hd (B : List Sk.Nd) : Value := .pointer (Sk.ha B)
theorem Sk.ahead_head {N A B : List Sk.Nd} (hN : N = A ++ B) (hd : (N.map Sk.Nd.b).Nodup) : Sk.ahead N (Sk.hd B) = B.length := by
 cases B with
 | nil => rfl
 | cons y B => exact Sk.ahead_at hN hd
set_option maxHeartbeats 4000000 in
set_option maxRecDepth 100000 in
theorem Sk.nodes1_seq {S : Nat → Prop} {w : World} {p n₀ bl bn : Nat} {N A B : List Sk.Nd} (h : Sk.PL S w p N) (hN : N = A ++ B) (hS : ∀ b, S b → b < n₀)
 (c1 : w.cell? ⟨bl, 0, none⟩ = some (.pointer (some ⟨p, 0, none⟩))) (c2 : w.cell? ⟨bn, 0, none⟩ = some (Sk.hd B)) :
 Sk.Seq Tryz.prog 121 #[.pointer (some ⟨bl, 0, none⟩), .pointer (some ⟨bn, 0, none⟩)] (fun x args _ => args = #[.pointer (some ⟨x.b, 0, none⟩)]) n₀ B w := by
 intro l J Jx W hW hJ hJx hY h0
 have d1 := (hW.cell (p := ⟨bl, 0, none⟩) (World.block_lt_of_cell? w _ c1)).trans c1
 have d2 := (hW.cell (p := ⟨bn, 0, none⟩) (World.block_lt_of_cell? w _ c2)).trans c2
 have hP := h.kept hW
 have hPn : ∀ W', Below n₀ W W' → Sk.PL S W' p N := fun W' g => hP.same g.size fun b hb => g.block b (hS b hb)
 obtain ⟨st, hh⟩ := hP.hdr
 have c13 : W.cell? ⟨p, 13, none⟩ = some (.int .i64 (N.length : Int)) := hh.cell (i := 13) (by decide)
 obtain ⟨cnt, hcnt⟩ : ∃ c, c = N.length := ⟨_, rfl⟩
 rw [← hcnt] at c13
 have HN : Hid (N = A ++ B ∧ (N.map Sk.Nd.b).Nodup ∧ cnt = N.length) := Lib.hid ⟨hN, h.nodup, hcnt⟩
 have HPN := Lib.hid hPn
 have HY := Lib.hid hY
 have HJ0 := Lib.hid h0
 have HJA := Lib.hid hJ
 unfold Sk.hd at d2
 obtain ⟨o0, ho0⟩ : ∃ o, o = Sk.ha B := ⟨_, rfl⟩
 rw [← ho0] at d2
 have HO0 := Lib.hid ho0
 clear h hN hS c1 c2 hW hJ hJx hY h0 hP hPn hh hcnt ho0
 refine callsIn_of_wp Tryz.func121 rfl trivial ?_ rfl
 simp only [Tryz.ntmps121, List.size_toArray, List.length_cons, List.length_nil, Nat.reduceAdd, Nat.reduceSub, Array.replicate_succ, Array.replicate_zero, List.push_toArray, List.append_toArray, List.nil_append, List.cons_append]
 gi_wp2
 gi_loopw [5] (fun at_ wr => ∃ (pre rest : List Sk.Nd) (o : Option Addr) (O : Nat → Prop), at_ = .pointer o ∧ o = Sk.ha rest ∧ B = pre ++ rest ∧ J (pre, O) wr ∧ Below n₀ W wr)
  (fun at_ _ => Sk.ahead N at_)
 case atStart => exact ⟨[], B, o0, Sk.no, rfl, HO0.out, rfl, HJ0.out, Below.refl _ _⟩
 case round =>
  obtain ⟨pre, rest, o, O, rfl, ho, hB, hj, hbl⟩ := hrel
  have HB := Lib.hid hB
  have HJ := Lib.hid hj
  have HBL := Lib.hid hbl
  clear HJ0 HO0 hj hbl hB
  rcases rest with _ | ⟨x, rest⟩
  ·obtain rfl : o = none := ho
   gi_wp2
   go_end0
   exact ⟨⟨_, rfl⟩, .inl ⟨O, by rw [HB.out, List.append_nil]; exact HJ.out⟩⟩
  ·obtain rfl : o = some ⟨x.b, 0, none⟩ := ho
   have hNx : N = (A ++ pre) ++ x :: rest := by rw [HN.out.1, HB.out]; simp
   have hpl := HPN.out wr HBL.out
   have hxm : x ∈ N := by rw [hNx]; simp
   have hx2 := (hpl.node hxm).2.2
   have hlt : (x.num : Int) < (cnt : Int) := by have := hpl.num x hxm; have := HN.out.2.2; omega
   have HNX : Hid (∀ W', Below n₀ W W' → W'.cell? ⟨x.b, 3, none⟩ = some (Sk.hd rest)) := Lib.hid fun W' g => by
    have hpl := HPN.out W' g
    have hs := hpl.seg
    rw [hNx] at hs
    have h1 := ((Sk.seg_append _ _ _).1 hs).2.1
    rw [List.append_nil] at h1
    have h2 := h1.cell (i := 3 + 0) (by decide)
    rw [Sk.Nd.f_next (show 0 < x.h from hpl.hgt x hxm), Sk.lnk_zero fun y hy => hpl.hgt y (by rw [hNx]; simp [hy])] at h2
    exact h2
   have HM : Hid (Sk.ahead N (Sk.hd rest) < Sk.ahead N (.pointer (some ⟨x.b, 0, none⟩))) := Lib.hid (by
    rw [Sk.ahead_head (A := (A ++ pre) ++ [x]) (by rw [hNx]; simp) HN.out.2.1, Sk.ahead_at hNx HN.out.2.1]
    omega)
   have HPX : Hid (pre ++ [x] <+: B ∧ B = (pre ++ [x]) ++ rest) := Lib.hid (by
    have e : B = (pre ++ [x]) ++ rest := by rw [HB.out]; simp
    exact ⟨⟨rest, e.symm⟩, e⟩)
   obtain ⟨fn, tmps, assign, body, hy, hR⟩ := HY.out pre O x _ wr HJ.out rfl HBL.out HPX.out.1
   clear hNx hpl hxm
   gi_wp2
   refine hR.mono ?_
   rintro e W3 (⟨rfl, O3, j3, b3, _⟩ | ⟨rfl, O3, jx3, _⟩)
   ·have HJ3 := Lib.hid j3
    have HB3 : Hid (Below n₀ W W3) := Lib.hid (HBL.out.trans b3)
    have n3 := HNX.out W3 HB3.out
    unfold Sk.hd at n3
    obtain ⟨o9, ho9⟩ : ∃ o, o = Sk.ha rest := ⟨_, rfl⟩
    rw [← ho9] at n3
    have HO9 := Lib.hid ho9
    clear ho9 j3 b3 hy hR
    gi_wp2
    go_roundw
    case rel => exact ⟨pre ++ [x], rest, o9, O3, rfl, HO9.out, HPX.out.2, HJ3.out, HB3.out⟩
    case measure =>
     have := HM.out
     unfold Sk.hd at this
     rw [← HO9.out] at this
     exact this
   ·have HJ3 := Lib.hid jx3
    clear jx3 hy hR
    gi_wp2
    refine bodyPost_ret (results_none rfl _ _ _) rfl ?_
    exact ⟨⟨_, rfl⟩, .inr ⟨pre ++ [x], O3, HPX.out.1, by simp, HJ3.out⟩⟩
end
section
open Go Go.RowKit Go.Shelf
attribute [local go_sem] Oper.semAt_some
def Sk.EnD (n₀ : Nat) (d : Dd.D) (args : Array Value) (W : World) : Prop := ∃ u, args = #[.agg #[.bool d.gone, u]] ∧ Sk.Rw n₀ W u d.row ∧ d.row ≠ [] ∧ (∀ v ∈ d.row, Kn.Z v) ∧ d.row.length ≤ 4398046511104
theorem Sk.Rw.own (B b : Nat) (v : Value) (l : List Kn.V) : OwnFrom B fun (_ : Unit) W => Sk.Rw b W v l := fun _ W W' row hs hg hr => by
 refine hs.same fun k hk => hg.block k (hs.lt k hk) fun e => ?_
 obtain ⟨_, ob, ho, hc⟩ := hr k e.symm
 obtain ⟨cs, hcs⟩ := hs.typed k hk
 rw [hcs] at ho
 cases Option.some.inj ho
 cases hc
theorem Sk.EnD.own (B n₀ : Nat) (d : Dd.D) (args : Array Value) : OwnFrom B fun (_ : Unit) W => Sk.EnD n₀ d args W := by
 rintro _ W W' row ⟨u, h1, h2, h3⟩ hg hr
 exact ⟨u, h1, Sk.Rw.own B n₀ u d.row () W W' row h2 hg hr, h3⟩
theorem Sk.grown_below {W W' : World} (h : Below W.heap.size W W') : W.grownBy W' none := ⟨h.os, h.tape, h.output, h.size, fun k hk _ => h.block k hk⟩
theorem Sk.own_below {β : Type} {B : Nat} {J : β → World → Prop} (hJ : OwnFrom B J) {s : β} {W W' : World} (h : J s W) (g : Below W.heap.size W W') : J s W' :=
 hJ s W W' none h (Sk.grown_below g) fun r e => by cases e
set_option maxHeartbeats 1000000 in
set_option maxRecDepth 100000 in
theorem Sk.nodes_c {w : World} {p : Nat} (o : Option Addr) (m : Nat) (hm : m = w.heap.size) :
 Calls Tryz.prog 94 #[.pointer (some ⟨p, 0, none⟩), .pointer o] w fun e w' => e = .returned (.func (.func 121) #[] #[.pointer (some ⟨m, 0, none⟩), .pointer (some ⟨m + 1, 0, none⟩)]) ∧
  w'.cell? ⟨m, 0, none⟩ = some (.pointer (some ⟨p, 0, none⟩)) ∧ w'.cell? ⟨m + 1, 0, none⟩ = some (.pointer o) ∧ Below w.heap.size w w' := by
 subst hm
 have HC : Hid (((w.alloc (.cells #[.pointer (some ⟨p, 0, none⟩)] 58)).alloc (.cells #[.pointer o] 105)).cell? ⟨w.heap.size, 0, none⟩ = some (.pointer (some ⟨p, 0, none⟩)) ∧
  ((w.alloc (.cells #[.pointer (some ⟨p, 0, none⟩)] 58)).alloc (.cells #[.pointer o] 105)).cell? ⟨w.heap.size + 1, 0, none⟩ = some (.pointer o)) := Lib.hid (by
  refine ⟨?_, ?_⟩
  ·exact (((Below.refl _ (w.alloc (.cells #[.pointer (some ⟨p, 0, none⟩)] 58))).alloc (Nat.le_refl _) _).cell (p := ⟨w.heap.size, 0, none⟩) (by simp)).trans (Kn.cell_new w _ _ 0 _ rfl)
  ·have := Kn.cell_new (w.alloc (.cells #[.pointer (some ⟨p, 0, none⟩)] 58)) #[.pointer o] 105 0 _ rfl
   rwa [World.size_alloc] at this)
 go_enter Tryz.func94, Tryz.ntmps94
 go_wp2
 go_ret
 exact ⟨rfl, HC.out.1, HC.out.2, ((Below.refl _ w).alloc (Nat.le_refl _) _).alloc (by simp) _⟩
theorem Sk.round_any {P : Program} {l lo n : Nat} {f : FuncId} {tmps : Array Value} {assign body : Code} {W : World} {R : Ending → World → Prop} (h : RoundIn Fence.wide 7 P lo f tmps assign body W R) : RoundIn (Fence.wide.inRound l) n P lo f tmps assign body W R :=
 ⟨trivial, fun c cs _ => h.2 c cs fun d hd => by cases hd⟩
set_option maxHeartbeats 4000000 in
set_option maxRecDepth 100000 in
theorem Sk.visit_c {S : Nat → Prop} {w W0 : World} {p n₀ lo : Nat} {N A B : List Sk.Nd} {J Jx : List Dd.D × (Nat → Prop) → World → Prop} (h : Sk.PL S w p N) (hN : N = A ++ B) (hS : ∀ b, S b → b < n₀) (hn : n₀ ≤ W0.heap.size) (hb : Below W0.heap.size W0 w)
 (hJ : OwnFrom W0.heap.size J) (hJx : OwnFrom W0.heap.size Jx)
 (hY : ∀ pre O x args W1, J (pre, O) W1 → Sk.EnD n₀ x args W1 → Below n₀ W0 W1 → pre ++ [x] <+: B.map Sk.Nd.d → YieldAt Fence.wide 7 Tryz.prog lo args W1 fun e W' =>
  (e = .returned (.bool true) ∧ ∃ O', J (pre ++ [x], O') W' ∧ Below n₀ W1 W' ∧ Sk.Kp W0.heap.size O O' W1 W') ∨ (e = .returned (.bool false) ∧ ∃ O', Jx (pre ++ [x], O') W' ∧ Sk.Kp W0.heap.size O O' W1 W'))
 (h0 : J ([], Sk.no) w) :
 CallsIn Fence.wide 9 Tryz.prog 67 #[.pointer (some ⟨p, 0, none⟩), Sk.hd B, .func (.yield lo) #[] #[]] w fun e W' => e = .returned (.tuple #[]) ∧ ((∃ O, J (B.map Sk.Nd.d, O) W') ∨ ∃ pre O, pre <+: B.map Sk.Nd.d ∧ pre ≠ [] ∧ Jx (pre, O) W') := by
 obtain ⟨wb, hwb⟩ : ∃ wb, wb = w.alloc (.cells #[.func (.yield lo) #[] #[]] 61) := ⟨_, rfl⟩
 have hbb : Below w.heap.size w wb := by rw [hwb]; exact (Below.refl _ w).alloc (Nat.le_refl _) _
 have hyb : wb.cell? ⟨w.heap.size, 0, none⟩ = some (.func (.yield lo) #[] #[]) := by rw [hwb]; exact Kn.cell_new w _ _ 0 _ rfl
 have hsb : wb.heap.size = w.heap.size + 1 := by rw [hwb]; exact World.size_alloc ..
 obtain ⟨o0, ho0⟩ : ∃ o, o = Sk.ha B := ⟨_, rfl⟩
 have CN := Lib.hid (Sk.nodes_c (w := wb) (p := p) o0 (w.heap.size + 1) hsb.symm)
 have HP1 : Hid (∀ w1, Below wb.heap.size wb w1 → (Sk.PL S w1 p N ∧ Below w.heap.size w w1 ∧ w1.cell? ⟨w.heap.size, 0, none⟩ = some (.func (.yield lo) #[] #[])) ∧ (W0.heap.size ≤ w.heap.size ∧ w.heap.size + 1 ≤ w1.heap.size ∧ n₀ ≤ W0.heap.size) ∧ Below n₀ W0 w1 ∧ J ([], Sk.no) w1) := Lib.hid fun w1 g1 => by
  have hBw1 : Below w.heap.size w w1 := hbb.trans (g1.mono hbb.size)
  have h1 := hb.size
  have h2 := g1.size
  exact ⟨⟨h.kept hBw1, hBw1, (g1.cell (p := ⟨w.heap.size, 0, none⟩) (by show w.heap.size < _; omega)).trans hyb⟩, ⟨by omega, by omega, by omega⟩, (hb.mono hn).trans (hBw1.mono (by omega)), Sk.own_below hJ h0 hBw1⟩
 have HSEQ : Hid (∀ w1, Sk.PL S w1 p N → w1.cell? ⟨w.heap.size + 1, 0, none⟩ = some (.pointer (some ⟨p, 0, none⟩)) → w1.cell? ⟨w.heap.size + 1 + 1, 0, none⟩ = some (.pointer o0) →
  Sk.Seq Tryz.prog 121 #[.pointer (some ⟨w.heap.size + 1, 0, none⟩), .pointer (some ⟨w.heap.size + 1 + 1, 0, none⟩)] (fun x args _ => args = #[.pointer (some ⟨x.b, 0, none⟩)]) n₀ B w1) := Lib.hid fun w1 hp c1 c2 =>
  Sk.nodes1_seq hp hN hS c1 (by rw [c2]; unfold Sk.hd; rw [ho0])
 have HJ := Lib.hid hJ
 have HJX := Lib.hid hJx
 have HY := Lib.hid hY
 have HS := Lib.hid hS
 have HNB : Hid (∀ x ∈ B, x ∈ N) := Lib.hid fun x hx => by rw [hN]; exact List.mem_append_right _ hx
 unfold Sk.hd
 rw [← ho0]
 subst hwb
 clear h hN hS hn hb hJ hJx hY h0 hbb hyb hsb ho0
 refine callsIn_of_wp_marks Tryz.func67 rfl trivial ?_ rfl
 simp only [Tryz.ntmps67, List.size_toArray, List.length_cons, List.length_nil, Nat.reduceAdd, Nat.reduceSub, Array.replicate_succ, Array.replicate_zero, List.push_toArray, List.append_toArray, List.nil_append, List.cons_append]
 gi_wp2_with (refine ⟨trivial, ?_⟩; gi_at_call 94; refine (callsIn_wide.2 CN.out).mono ?_; rintro e w1 ⟨rfl, c1, c2, g1⟩)
 have HW := Lib.hid (HP1.out w1 g1)
 have HQ := Lib.hid (HSEQ.out w1 HW.out.1.1 c1 c2)
 clear c1 c2 g1 CN HP1 HSEQ
 refine Sk.range_w (gf := 121) rfl (enters_of Tryz.func121 (by kernel_rfl) rfl)
  HQ.out (Below.refl _ _) (by have := HW.out.2.1; omega) (fun x args W he => by rw [he]; rfl)
  (fun s W => ((J (s.1.map Sk.Nd.d, s.2) W ∧ Below n₀ W0 W) ∧ W.cell? ⟨w.heap.size, 0, none⟩ = some (.func (.yield lo) #[] #[]) ∧ ¬ s.2 w.heap.size))
  (fun c s W => c = .ret ∧ s.1 ≠ [] ∧ Jx (s.1.map Sk.Nd.d, s.2) W)
  ?own ?ownx ⟨⟨HW.out.2.2.2, HW.out.2.2.1⟩, HW.out.1.2.2, fun h => h⟩
  (fun s x a' W => a' = { tmps := #[.pointer (some ⟨p, 0, none⟩), .pointer o0, .func (.yield lo) #[] #[], undef, undef, .pointer (some ⟨w.heap.size, 0, none⟩), .pointer (some ⟨x.b, 0, none⟩), .pointer (some ⟨p, 0, none⟩), .pointer o0, .func (.func 121) #[] #[.pointer (some ⟨w.heap.size + 1, 0, none⟩), .pointer (some ⟨w.heap.size + 1 + 1, 0, none⟩)], .pointer (some ⟨x.b, 0, none⟩), undef, undef, undef, undef, undef, undef, undef, undef], defers := [] } ∧ ((J (s.1.map Sk.Nd.d, s.2) W ∧ Below n₀ W0 W) ∧ W.cell? ⟨w.heap.size, 0, none⟩ = some (.func (.yield lo) #[] #[]) ∧ ¬ s.2 w.heap.size))
  ?ownA ?assign ?body ?done ?stop
 case own =>
  rintro s A' B' row ⟨⟨h1, h2⟩, h3, h4⟩ hg hr
  have hs := HW.out.2.1
  exact ⟨⟨HJ.out _ _ _ row h1 hg fun r e => ⟨by have := (hr r e).1; omega, (hr r e).2⟩, h2.grown hg (by have := h2.size; omega) fun k e => by have := (hr k e).1; omega⟩, cell_kept h3 hg fun r e => (hr r e).2, h4⟩
 case ownx =>
  rintro c s A' B' row ⟨h1, h2, h3⟩ hg hr
  have hs := HW.out.2.1
  exact ⟨h1, h2, HJX.out _ _ _ row h3 hg fun r e => ⟨by have := (hr r e).1; omega, (hr r e).2⟩⟩
 case ownA =>
  rintro s x a' u A' B' row ⟨h0, ⟨h1, h2⟩, h3, h4⟩ hg hr
  have hs := HW.out.2.1
  exact ⟨h0, ⟨HJ.out _ _ _ row h1 hg fun r e => ⟨by have := (hr r e).1; omega, (hr r e).2⟩, h2.grown hg (by have := h2.size; omega) fun k e => by have := (hr k e).1; omega⟩, cell_kept h3 hg fun r e => (hr r e).2, h4⟩
 case assign =>
  rintro l pre O x args W hI rfl hpx hbW
  have HI := Lib.hid hI
  clear hI hpx hbW
  gi_wp2
  exact ⟨Below.refl _ _, HI.out⟩
 case body =>
  rintro l pre O x a' W hl hlr ⟨rfl, ⟨hj, hbl⟩, hyc, hyo⟩ hpx hbW
  have hxm : x ∈ N := HNB.out x (hpx.subset (by simp))
  have hpl : Sk.PL S W p N := HW.out.1.1.same hbW.size fun b hb => hbW.block b (HS.out b hb)
  obtain ⟨xa, xc, hxv⟩ := hpl.slice hxm
  have hnd := hpl.node hxm
  have CG := Lib.hid (Sk.given_c (w := W.drew) x.gone ((hpl.in_ hxm).later (Below.refl _ W).drew))
  have HXR := Lib.hid (hpl.rows x hxm)
  rw [hxv] at CG hnd
  have n0 : W.drew.cell? ⟨x.b, 0, none⟩ = some (.bool x.gone) := hnd.1
  have n1 : W.drew.cell? ⟨x.b, 1, none⟩ = some (.slice (some ⟨xa, 0, none⟩) x.row.length xc) := hnd.2.1
  have y0 : W.drew.cell? ⟨w.heap.size, 0, none⟩ = some (.func (.yield lo) #[] #[]) := hyc
  have HPX : Hid (pre.map Sk.Nd.d ++ [x.d] <+: B.map Sk.Nd.d) := Lib.hid (by
   have := hpx.map Sk.Nd.d
   rwa [List.map_append] at this)
  have HJP := Lib.hid hj
  have HBL := Lib.hid hbl
  have HYO := Lib.hid hyo
  have HYC : Hid (∀ W2, Below W.heap.size W W2 → W2.cell? ⟨w.heap.size, 0, none⟩ = some (.func (.yield lo) #[] #[])) := Lib.hid fun W2 g => (g.cell (p := ⟨w.heap.size, 0, none⟩) (World.block_lt_of_cell? _ _ hyc)).trans hyc
  have HNN : Hid (n₀ ≤ W.heap.size ∧ w.heap.size < W.heap.size) := Lib.hid (by have := hbl.size; have := HW.out.2.1; have := hbW.size; omega)
  have HR9 : Hid (∀ W2 u, Below W.drew.heap.size W.drew W2 → Sk.Rw W.drew.heap.size W2 u x.row → ∃ fn tmps assign body, (Instr.yield lo #[.agg #[.bool x.gone, u]]).run Tryz.prog W2 = .ok (.round lo fn tmps assign body) W2 ∧ RoundIn Fence.wide 7 Tryz.prog lo fn tmps assign body W2 fun e W' => ∃ bb, e = .returned (.bool bb) ∧
   ((bb = true ∧ ∃ O', ((J ((pre ++ [x]).map Sk.Nd.d, O') W' ∧ Below n₀ W0 W') ∧ W'.cell? ⟨w.heap.size, 0, none⟩ = some (.func (.yield lo) #[] #[]) ∧ ¬ O' w.heap.size) ∧ Below n₀ W W' ∧ Sk.Kp w1.heap.size O O' W W') ∨ (bb = false ∧ ∃ O', Jx ((pre ++ [x]).map Sk.Nd.d, O') W' ∧ Sk.Kp w1.heap.size O O' W W'))) := Lib.hid fun W2 u g2 hu => by
   have g3 : Below W.heap.size W W2 := (Below.refl _ W).drew.trans g2
   have hs := HW.out.2.1
   have hen : Sk.EnD n₀ x.d #[.agg #[.bool x.gone, u]] W2 := ⟨u, rfl, hu.mono HNN.out.1, HXR.out.2⟩
   obtain ⟨fn, tmps, assign, body, hy, hR⟩ := HY.out (pre.map Sk.Nd.d) O x.d _ W2 (Sk.own_below HJ.out HJP.out g3) hen (HBL.out.trans (g3.mono HNN.out.1)) HPX.out
   refine ⟨fn, tmps, assign, body, hy, hR.mono ?_⟩
   have hle : W0.heap.size ≤ w1.heap.size := by omega
   have hlt : w.heap.size < W2.heap.size := Nat.lt_of_lt_of_le HNN.out.2 g3.size
   rintro e W3 (⟨rfl, O', j3, b3, k3⟩ | ⟨rfl, O', j3, k3⟩)
   ·refine ⟨true, rfl, .inl ⟨rfl, O', ⟨⟨by rw [List.map_append]; exact j3, (HBL.out.trans (g3.mono HNN.out.1)).trans b3⟩, ?_, fun h => ?_⟩, (g3.mono HNN.out.1).trans b3, (Sk.Kp.below g3).trans (k3.le hle)⟩⟩
    ·exact (World.cell?_of_block (k3.same w.heap.size hs.1 hlt HYO.out)).trans (HYC.out W2 g3)
    ·rcases k3.own _ h with h | h
     ·exact HYO.out h
     ·omega
   ·exact ⟨false, rfl, .inr ⟨rfl, O', by rw [List.map_append]; exact j3, (Sk.Kp.below g3).trans (k3.le hle)⟩⟩
  have hmx : Tryz.prog.follows .mixedOrders = true := by kernel_rfl
  generalize x.b = xb at n0 n1
  generalize x.gone = xg at n0 CG HR9
  generalize x.row = xr at n1 CG HR9 HXR
  clear hl hlr hj hbl hyc hyo hpx hbW hxm hpl hxv hnd HPX HXR HJP HBL HYO HNN
  gi_wp2
  gi_region_with_o (first
   | (refine ⟨trivial, ?_⟩; gi_at_call 90; refine (CallsIn.inRound l (callsIn_wide.2 CG.out)).mono ?_; rintro e w2 ⟨u, rfl, hu, g2⟩
      obtain ⟨fn, tmps, assign, body, hy, hR⟩ := HR9.out w2 u g2 hu
      have y0 := HYC.out w2 ((Below.refl _ W).drew.trans g2))
   | (refine (Sk.round_any hR).mono ?_; rintro e w3 ⟨bb, rfl, hpost⟩))
  all_goals
   have HPO := Lib.hid hpost
   clear hpost y0 n0 n1 hy hR CG HR9 HYC
   rcases HPO.out with ⟨rfl, O', h1, h2, h3⟩ | ⟨rfl, O', h1, h2⟩
   ·have H := Lib.hid (And.intro h1 (And.intro h2 h3))
    clear h1 h2 h3 HPO
    gi_wp2
    exact ⟨O', H.out.2.2, H.out.2.1, H.out.1⟩
   ·have H := Lib.hid (And.intro h1 h2)
    clear h1 h2 HPO
    gi_wp2
    exact ⟨O', H.out.2, rfl, by simp, H.out.1⟩
 case done =>
  rintro D O W hD ⟨⟨hj, _⟩, _⟩ hK
  have H := Lib.hid hj
  have HD := Lib.hid hD
  have HK := Lib.hid hK
  clear hj hD hK
  gi_wp2
  refine ⟨by simp, .inl ⟨_, _, rfl, run_takeDeferred HK.out, ?_⟩⟩
  exact ⟨_, results_none rfl _ _ _, rfl, .inl ⟨O, HJ.out.putObj _ H.out (by have := HD.out; have := HW.out.2.1; omega) HK.out rfl⟩⟩
 case stop =>
  rintro D c pre O W hD hpre hne ⟨rfl, _, hj⟩ hK
  have H := Lib.hid (And.intro hj (And.intro hpre hne))
  have HD := Lib.hid hD
  have HK := Lib.hid hK
  clear hj hD hK hpre hne
  gi_wp2
  refine ⟨by simp, .inl ⟨_, _, rfl, run_takeDeferred HK.out, ?_⟩⟩
  exact ⟨_, results_none rfl _ _ _, rfl, .inr ⟨pre.map Sk.Nd.d, H.out.2.1.map _, by simpa using H.out.2.2, O, HJX.out.putObj _ H.out.1 (by have := HD.out; have := HW.out.2.1; omega) HK.out rfl⟩⟩
end
section
open Go Go.RowKit Go.Shelf
attribute [local go_sem] Oper.semAt_some
set_option maxHeartbeats 4000000 in
set_option maxRecDepth 100000 in
theorem Sk.all1_seq {S : Nat → Prop} {w : World} {p n₀ bl : Nat} {N : List Sk.Nd} (h : Sk.PL S w p N) (hS : ∀ b, S b → b < n₀) (hn : n₀ ≤ w.heap.size)
 (c1 : w.cell? ⟨bl, 0, none⟩ = some (.pointer (some ⟨p, 0, none⟩))) :
 Sk.Seq Tryz.prog 66 #[.pointer (some ⟨bl, 0, none⟩)] (Sk.EnD n₀) n₀ (N.map Sk.Nd.d) w := by
 intro l J Jx W hW hJ hJx hY h0
 have d1 := (hW.cell (p := ⟨bl, 0, none⟩) (World.block_lt_of_cell? w _ c1)).trans c1
 have hP := h.kept hW
 have hPd := hP.kept (Below.refl _ W).drew
 have l0 : W.drew.cell? ⟨p, 0, none⟩ = some (Sk.hd N) := by
  have := (hPd.lnk (A := []) (B := N) (i := 0) (by decide)).1
  rw [Sk.lnk_zero fun x hx => hP.hgt x hx] at this
  exact this
 have d2 : W.drew.cell? ⟨bl, 0, none⟩ = some (.pointer (some ⟨p, 0, none⟩)) := d1
 have CV := Lib.hid (Sk.visit_c (A := []) (w := W.drew) hPd rfl hS (Nat.le_trans hn hW.size) (Below.refl _ W).drew hJ hJx hY (Sk.own_below hJ h0 (Below.refl _ W).drew))
 clear hJ hJx hY h0 hP hPd h hW
 unfold Sk.hd at l0 CV
 generalize Sk.ha N = o0 at l0 CV
 have hmx : Tryz.prog.follows .mixedOrders = true := by kernel_rfl
 refine callsIn_of_wp Tryz.func66 rfl trivial ?_ rfl
 simp only [Tryz.ntmps66, List.size_toArray, List.length_cons, List.length_nil, Nat.reduceAdd, Nat.reduceSub, Array.replicate_succ, Array.replicate_zero, List.push_toArray, List.append_toArray, List.nil_append, List.cons_append]
 gi_wp2
 gi_region_with_o (refine ⟨trivial, ?_⟩; gi_at_call 67; refine (callsIn_wide.2 (callsIn_wide.1 CV.out)).mono ?_; rintro e w2 ⟨rfl, hp2⟩)
 all_goals
  have HP2 := Lib.hid hp2
  clear hp2 CV l0 d1 d2
  gi_wp2
  go_end0
  exact ⟨⟨_, rfl⟩, HP2.out⟩
set_option maxHeartbeats 1000000 in
set_option maxRecDepth 100000 in
theorem Sk.all_c {w : World} (o : Option Addr) (m : Nat) (hm : m = w.heap.size) :
 Calls Tryz.prog 32 #[.pointer o] w fun e w' => e = .returned (.func (.func 66) #[] #[.pointer (some ⟨m, 0, none⟩)]) ∧ w'.cell? ⟨m, 0, none⟩ = some (.pointer o) ∧ Below w.heap.size w w' := by
 subst hm
 have HC : Hid ((w.alloc (.cells #[.pointer o] 58)).cell? ⟨w.heap.size, 0, none⟩ = some (.pointer o)) := Lib.hid (Kn.cell_new w _ _ 0 _ rfl)
 go_enter Tryz.func32, Tryz.ntmps32
 go_wp2
 go_ret
 exact ⟨rfl, HC.out, (Below.refl _ w).alloc (Nat.le_refl _) _⟩
end
section
open Go Go.RowKit
def Sk.v (n : Int) : Kn.V := ⟨false, n, ⟨#[]⟩⟩
def Sk.dv (g : Bool) (n : Int) : Dd.D := ⟨g, [Sk.v n]⟩
def Sk.PD (B : Nat) (S : Nat → Prop) (w : World) (p : Nat) (L : List Dd.D) : Prop := (∃ N, Sk.PL S w p N ∧ N.map Sk.Nd.d = L) ∧ ∀ b, S b → B ≤ b
theorem Sk.PD.later {B : Nat} {S : Nat → Prop} {w w' : World} {p : Nat} {L : List Dd.D} (h : Sk.PD B S w p L) (g : Below w.heap.size w w') : Sk.PD B S w' p L := by
 obtain ⟨⟨N, h1, h2⟩, h3⟩ := h
 exact ⟨⟨N, h1.kept g, h2⟩, h3⟩
theorem Sk.PD.same {B : Nat} {S : Nat → Prop} {w w' : World} {p : Nat} {L : List Dd.D} (h : Sk.PD B S w p L) (hs : w.heap.size ≤ w'.heap.size) (g : ∀ b, S b → w'.heap[b]? = w.heap[b]?) : Sk.PD B S w' p L := by
 obtain ⟨⟨N, h1, h2⟩, h3⟩ := h
 exact ⟨⟨N, h1.same hs g, h2⟩, h3⟩
theorem Sk.PD.lt {B : Nat} {S : Nat → Prop} {w : World} {p : Nat} {L : List Dd.D} (h : Sk.PD B S w p L) : ∀ b, S b → b < w.heap.size := by
 obtain ⟨⟨N, h1, _⟩, _⟩ := h
 exact h1.alive
theorem Sk.PD.put {B : Nat} {S : Nat → Prop} {w : World} {p : Nat} {L : List Dd.D} (h : Sk.PD B S w p L) (hB : B ≤ w.heap.size) (hT : Sk.Tab w) (hg : 3 < B) (gn : Bool) {v : Value} {l : List Kn.V} (hin : Sk.In w v l) (hne : l ≠ []) (hl : L.length ≤ 100000) :
 Calls Tryz.prog 30 #[.pointer (some ⟨p, 0, none⟩), .agg #[.bool gn, v]] w fun e w' => e = .returned (.bool true) ∧ Sk.PD B (Sk.More S w w') w' p (Sk.put Sk.kd L ⟨gn, l⟩) ∧ Sk.Off S w w' ∧ Below B w w' := by
 obtain ⟨⟨N, h1, rfl⟩, h3⟩ := h
 rw [List.length_map] at hl
 refine (Sk.put_c h1 hT (Nat.lt_of_lt_of_le hg (h3 _ h1.mine)) gn hin hne hl).mono ?_
 rintro e w' ⟨he, ⟨N', h4, h5⟩, h6⟩
 exact ⟨he, ⟨⟨N', h4, h5⟩, fun b hb => by rcases hb with hb | hb; exact h3 b hb; omega⟩, h6, h6.below hB h3⟩
theorem Sk.PD.new {B : Nat} {w : World} (hB : B ≤ w.heap.size) (seed : Int) :
 Calls Tryz.prog 29 #[.int .u64 seed] w fun e w' => e = .returned (.pointer (some ⟨w.heap.size, 0, none⟩)) ∧ Sk.PD B (fun b => b = w.heap.size) w' w.heap.size [] ∧ Below w.heap.size w w' := by
 refine (Sk.new_c seed).mono ?_
 rintro e w' ⟨he, h1, h2⟩
 exact ⟨he, ⟨⟨[], h1, rfl⟩, fun b hb => by omega⟩, h2⟩
theorem Sk.PD.all {B : Nat} {S : Nat → Prop} {w : World} {p n₀ bl : Nat} {L : List Dd.D} (h : Sk.PD B S w p L) (hS : ∀ b, S b → b < n₀) (hn : n₀ ≤ w.heap.size) (c1 : w.cell? ⟨bl, 0, none⟩ = some (.pointer (some ⟨p, 0, none⟩))) :
 Sk.Seq Tryz.prog 66 #[.pointer (some ⟨bl, 0, none⟩)] (Sk.EnD n₀) n₀ L w := by
 obtain ⟨⟨N, h1, rfl⟩, _⟩ := h
 exact Sk.all1_seq h1 hS hn c1
theorem Sk.PD.asc {B : Nat} {S : Nat → Prop} {w : World} {p : Nat} {L : List Dd.D} (h : Sk.PD B S w p L) : Sk.Asc Sk.kd L ∧ ∀ d ∈ L, d.row ≠ [] := by
 obtain ⟨⟨N, h1, rfl⟩, _⟩ := h
 refine ⟨List.pairwise_map.2 h1.asc, fun d hd => ?_⟩
 obtain ⟨x, hx, rfl⟩ := List.mem_map.1 hd
 exact (h1.rows x hx).2.1
theorem Sk.In.one {w wb : World} (n : Int) (hw : wb = w.alloc (.cells #[.bool false, .int .i64 n, .string ⟨#[]⟩] 43)) : Sk.In wb (.slice (some ⟨w.heap.size, 0, none⟩) 1 1) [Sk.v n] := by
 subst hw
 refine ⟨_, 1, rfl, fun x hx => by obtain rfl := List.mem_singleton.1 hx; exact (show (0 : Nat) ≤ 140737488351232 by decide), (show 1 ≤ 4398046511104 by decide), .inr ⟨w.heap.size, 0, rfl, by simp, fun i x hx => ?_⟩⟩
 rcases i with _ | i
 ·obtain rfl : Sk.v n = x := by simpa using hx
  exact Kn.At.new w (Sk.v n) _
 ·simp at hx
end
section
open Go.RowKit Go.ChangeShapes Go.WideShapes Go.ChangeAt Go.Deep
section
variable {H : Type} {enc : TypeId × Value → H} {W : World}
def Kn.rd (x : Kn.V) : DataW H := .agg [.lit (.bool x.null), .lit (.int .i64 x.n), .lit (.string x.s.data.toList)]
set_option maxRecDepth 100000 in
theorem Kn.open_cells {fuel : Nat} {cs : List Value} {z : DataW H × List MemPlace} (h : DataW.trod enc Tryz.prog W 0 (fun _ => true) true fuel 43 cs = some z) :
 ∃ x : Kn.V, cs = [.bool x.null, .int .i64 x.n, .string x.s] ∧ z.1 = Kn.rd x := by
 obtain ⟨xs, f', _, hx, hcl, hxl, hg⟩ := DataW.trod_struct Tryz.underlying43 h
 have hC : Tryz.prog.cellsOf 43 = 3 := by kernel_rfl
 have i3 : Tryz.prog.cellsOf 4 = 1 := by kernel_rfl
 have i2 : Tryz.prog.cellsOf 2 = 1 := by kernel_rfl
 have i9 : Tryz.prog.cellsOf 9 = 1 := by kernel_rfl
 rw [hC] at hcl
 match cs, hcl, xs, hxl with
 | [c0, c1, c2], _, [y0, y1, y2], _ =>
   have g0 : DataW.trod enc Tryz.prog W 0 (fun _ => true) true f' 4 ((List.drop 0 [c0, c1, c2]).take (Tryz.prog.cellsOf 4)) = some y0 := hg 0 _ rfl
   have g1 : DataW.trod enc Tryz.prog W 0 (fun _ => true) true f' 2 ((List.drop 1 [c0, c1, c2]).take (Tryz.prog.cellsOf 2)) = some y1 := hg 1 _ rfl
   have g2 : DataW.trod enc Tryz.prog W 0 (fun _ => true) true f' 9 ((List.drop 2 [c0, c1, c2]).take (Tryz.prog.cellsOf 9)) = some y2 := hg 2 _ rfl
   rw [i3] at g0
   rw [i2] at g1
   rw [i9] at g2
   obtain ⟨k, e0, r0⟩ := DataW.trod_bool Tryz.underlying4 (show DataW.trod enc Tryz.prog W 0 (fun _ => true) true f' 4 [c0] = some y0 from g0)
   obtain ⟨n, e1, r1, w1⟩ := DataW.trod_int Tryz.underlying2 (show DataW.trod enc Tryz.prog W 0 (fun _ => true) true f' 2 [c1] = some y1 from g1)
   obtain ⟨s, e2, r2, _⟩ := DataW.trod_string Tryz.underlying9 (show DataW.trod enc Tryz.prog W 0 (fun _ => true) true f' 9 [c2] = some y2 from g2)
   simp only [List.cons.injEq, and_true] at e0 e1 e2
   subst e0 e1 e2 r0 r1 r2
   exact ⟨⟨k, n, s⟩, rfl, by rw [hx]; rfl⟩
set_option maxRecDepth 100000 in
theorem Kn.open_col_cells {fuel : Nat} {cs : List Value} {z : DataW H × List MemPlace} (h : DataW.trod enc Tryz.prog W 0 (fun _ => true) true fuel 50 cs = some z) :
 ∃ x : Kn.C, cs = [.int .i64 x.k, .bool x.null] := by
 obtain ⟨xs, f', _, hx, hcl, hxl, hg⟩ := DataW.trod_struct Tryz.underlying50 h
 have hC : Tryz.prog.cellsOf 50 = 2 := by kernel_rfl
 have i3 : Tryz.prog.cellsOf 4 = 1 := by kernel_rfl
 have i2 : Tryz.prog.cellsOf 48 = 1 := by kernel_rfl
 rw [hC] at hcl
 match cs, hcl, xs, hxl with
 | [c0, c1], _, [y0, y1], _ =>
   have g0 : DataW.trod enc Tryz.prog W 0 (fun _ => true) true f' 48 ((List.drop 0 [c0, c1]).take (Tryz.prog.cellsOf 48)) = some y0 := hg 0 _ rfl
   have g1 : DataW.trod enc Tryz.prog W 0 (fun _ => true) true f' 4 ((List.drop 1 [c0, c1]).take (Tryz.prog.cellsOf 4)) = some y1 := hg 1 _ rfl
   rw [i2] at g0
   rw [i3] at g1
   obtain ⟨n, e0, _⟩ := DataW.trod_int Tryz.underlying48 (show DataW.trod enc Tryz.prog W 0 (fun _ => true) true f' 48 [c0] = some y0 from g0)
   obtain ⟨k, e1, _⟩ := DataW.trod_bool Tryz.underlying4 (show DataW.trod enc Tryz.prog W 0 (fun _ => true) true f' 4 [c1] = some y1 from g1)
   simp only [List.cons.injEq, and_true] at e0 e1
   subst e0 e1
   exact ⟨⟨n, k⟩, rfl⟩
set_option maxRecDepth 100000 in
theorem Kn.open_cols {a0 : Option Addr} {len cap : Nat} {d : DataW H} {ps : List MemPlace} (h : DataW.Trod enc Tryz.prog W 0 (fun _ => true) true 22 (.slice a0 len cap) d ps) :
 ∃ l : List Kn.C, Kn.Cols W (.slice a0 len cap) l := by
 obtain ⟨fuel, hf⟩ := h
 have hC : Tryz.prog.cellsOf 50 = 2 := by kernel_rfl
 rcases open_slice Tryz.underlying22 hf with ⟨hcs, hx⟩ | ⟨a, len', cap', m, n, D, Pl, hcs, _, hl, hm, hmm, hx, hi⟩
 ·have hv : Value.slice a0 len cap = .slice none 0 0 := by simpa [Value.cells] using hcs
  exact ⟨[], ⟨none, 0, hv, .inl rfl⟩⟩
 ·have hv : Value.slice a0 len cap = .slice (some a) len' cap' := by simpa [Value.cells] using hcs
  simp only [Value.slice.injEq] at hv
  obtain ⟨rfl, rfl, rfl⟩ := hv
  simp only [if_true] at hmm
  by_cases hz : len = 0
  ·subst hz
   exact ⟨[], ⟨some a, cap, rfl, .inl rfl⟩⟩
  ·rw [hC] at hi
   have hone : ∀ i, i < len → ∃ x : Kn.C, W.cell? (a.add (i * 2)) = some (.int .i64 x.k) ∧ W.cell? (a.add (i * 2 + 1)) = some (.bool x.null) := fun i hil => by
    obtain ⟨cs', hc, ht⟩ := hi i (by omega)
    obtain ⟨x, rfl⟩ := Kn.open_col_cells ht
    obtain ⟨_, _, hat⟩ := World.cells?_some hc
    have a0 := hat 0 (by omega)
    have a1 := hat 1 (by omega)
    rw [add_add] at a0 a1
    exact ⟨x, a0, a1⟩
   obtain ⟨b, off, spot⟩ := a
   have hspot : spot = none := by
    obtain ⟨x, h0, _⟩ := hone 0 (by omega)
    simpa [Addr.add] using World.cell?_spot h0
   subst hspot
   have hlt : b < W.heap.size := by
    obtain ⟨x, h0, _⟩ := hone 0 (by omega)
    have := World.block_lt_of_cell? W _ h0
    simpa [Addr.add] using this
   have hch : ∃ f : Nat → Kn.C, ∀ i, i < len → W.cell? ⟨b, off + i * 2, none⟩ = some (.int .i64 (f i).k) ∧ W.cell? ⟨b, off + i * 2 + 1, none⟩ = some (.bool (f i).null) := by
    have hone' : ∀ i, i < len → ∃ x : Kn.C, W.cell? ⟨b, off + i * 2, none⟩ = some (.int .i64 x.k) ∧ W.cell? ⟨b, off + i * 2 + 1, none⟩ = some (.bool x.null) := fun i hil => by
     obtain ⟨x, h0, h1⟩ := hone i hil
     rw [add_plain] at h0 h1
     rw [← Nat.add_assoc] at h1
     exact ⟨x, h0, h1⟩
    refine ⟨fun i => if hil : i < len then (hone' i hil).choose else ⟨0, false⟩, fun i hil => ?_⟩
    have hs := (hone' i hil).choose_spec
    simp only [dif_pos hil]
    exact hs
   obtain ⟨f, hf'⟩ := hch
   refine ⟨(List.range len).map f, ⟨some ⟨b, off, none⟩, cap, by simp, .inr ⟨b, off, rfl, hlt, by unfold maxLen at hm; simp; omega, fun i x hix => ?_⟩⟩⟩
   rw [List.getElem?_map, Option.map_eq_some_iff] at hix
   obtain ⟨i', hi', rfl⟩ := hix
   obtain ⟨hil, rfl⟩ := List.getElem?_eq_some_iff.1 hi'
   rw [List.getElem_range]
   rw [List.length_range] at hil
   exact hf' i hil
end
end
end Go.Proofs.YtkhiemkekmdhgaaGreatDoor
