/-
  
  
  
  
  
  
  
  
  
-/
import Derived.Test.YtbelkhkllneifaaGreatDoorBlay
import Derived.Test.YtbelkhkllneifaaGreatDoorWCAC
import Derived.Test.YtbelkhkllneifaaGreatDoorWCAD
import Derived.Lib.Hide
import Derived.Test.YtbelkhkllneifaaGreatDoorWCAT
import Derived.Test.YtbelkhkllneifaaGreatDoorWCAL
import Derived.Test.YtbelkhkllneifaaGreatDoorWCAW
import Derived.Test.YtbelkhkllneifaaGreatDoorWCAQ
import Derived.StillTailTactics
import Derived.Test.YtbelkhkllneifaaGreatDoorWCAY
import Derived.Test.YtbelkhkllneifaaGreatDoorWCAX
import Derived.Test.YtbelkhkllneifaaGreatDoorWCAP
import Derived.Test.YtbelkhkllneifaaGreatDoorWCAV
namespace Go.Proofs.YtbelkhkllneifaaGreatDoor
open Go Go.RowKit Go.Shelf
theorem Rn.bSize : (Tryz.prog.info? 124).map (·.size) = some 2 := by kernel_rfl
theorem Rn.bLies : liesAt Tryz.prog Tryz.prog.depth 124 (2 / Tryz.prog.cellsOf 124) 0 124 1 = true := by kernel_rfl
theorem Rn.bInfo : (Tryz.prog.info? 5).map (fun i => (i.zero, i.size, i.bytes)) = some (some (.int .u8 0), 1, 1) := by kernel_rfl
set_option maxRecDepth 100000 in
theorem Rn.bExtra : Builder.Extra Tryz.prog Tryz.bstringL_ren where
 sizeBuilder := Rn.bSize
 liesBuilder := Rn.bLies
 t5 := Tryz.underlying5
 a5 := Tryz.isAgg5
 z5 := Tryz.sizeOf5
 v5 := Tryz.zeroValue5
 infoByte := Rn.bInfo
 cellsByte := by kernel_rfl
 sizeByte := by kernel_rfl
 neB5 := by decide
abbrev Rn.Bd (B b : Nat) (l : List UInt8) (w : World) : Prop := Lib.IsBuilder 124 5 B b (Lib.byteCells l) w
set_option maxHeartbeats 1000000 in
set_option maxRecDepth 100000 in
theorem Rn.bused_c (b : Nat) (w : World) (h0 : w.cell? ⟨b, 0, none⟩ = some (.pointer (some ⟨b, 0, none⟩))) :
 Calls Tryz.prog 101 #[.pointer (some ⟨b, 0, none⟩)] w fun e w' => e = .returned (.tuple #[]) ∧ w' = w := by
 obtain ⟨j, hj, _⟩ := Option.map_eq_some_iff.1 Rn.bSize
 go_enter Tryz.func101, Tryz.ntmps101
 go_wp2
 rw [Lib.run_neq_ptr_same w _ Tryz.underlying122 hj]
 go_wp2
 go_end0
 exact ⟨rfl, rfl⟩
set_option maxHeartbeats 1000000 in
set_option maxRecDepth 100000 in
theorem Rn.bfresh_c (b : Nat) (w : World) (h0 : w.cell? ⟨b, 0, none⟩ = some (.pointer none)) (hsh : w.shape? b = some (124, 2)) (hfz : w.frozen? ⟨b, 0, none⟩ = false) :
 Calls Tryz.prog 101 #[.pointer (some ⟨b, 0, none⟩)] w fun e w' => e = .returned (.tuple #[]) ∧ w' = w.setCell ⟨b, 0, none⟩ (.pointer (some ⟨b, 0, none⟩)) := by
 obtain ⟨j, hj, hjs⟩ := Option.map_eq_some_iff.1 Rn.bSize
 go_enter Tryz.func101, Tryz.ntmps101
 go_wp2
 rw [Lib.run_to_unsafe w ⟨b, 0, none⟩ Tryz.underlying122 Tryz.underlying184 hj (by rw [hjs]; decide) hsh (Nat.zero_lt_succ 1)]
 simp only [Result.andThen]
 rw [Oper.upon_value]
 go_wp2
 rw [run_callFunc_extern Tryz.func130 (by kernel_rfl) (by kernel_rfl) (by kernel_rfl) (e := Extern.AbiNoEscape.same) (by kernel_rfl), Lib.run_noEscape]
 simp only [Result.andThen]
 rw [Oper.upon_value]
 go_wp2
 rw [Lib.run_from_unsafe w ⟨b, 0, none⟩ Tryz.underlying184 Tryz.underlying122 hj hsh Rn.bLies]
 simp only [Result.andThen]
 rw [Oper.upon_value]
 go_wp2
 go_end0
 exact ⟨rfl, rfl⟩
theorem Rn.bcheck_c (B b : Nat) (bs : List Value) (w : World) (h : Lib.IsBuilder 124 5 B b bs w) :
 Calls Tryz.prog 101 #[.pointer (some ⟨b, 0, none⟩)] w fun e w' => e = .returned (.tuple #[]) ∧ Lib.BuilderAt 124 5 B b (.pointer (some ⟨b, 0, none⟩)) bs w' ∧ Below B w w' := by
 rcases h with h | h
 ·refine (Rn.bfresh_c b w h.cell0 h.shape h.frozen0).mono ?_
  rintro e w' ⟨rfl, rfl⟩
  exact ⟨rfl, h.used _, (Below.refl B w).setCell (p := ⟨b, 0, none⟩) h.1 _⟩
 ·refine (Rn.bused_c b w h.cell0).mono ?_
  rintro e w' ⟨rfl, rfl⟩
  exact ⟨rfl, h, Below.refl B _⟩
set_option maxHeartbeats 2000000 in
set_option maxRecDepth 100000 in
theorem Rn.bwrite_c (B b : Nat) (l k : List UInt8) (w : World) (h : Rn.Bd B b l w) (hlen : l.length + k.length ≤ 140737488355328) (hBw : B ≤ w.heap.size) :
 Calls Tryz.prog 69 #[.pointer (some ⟨b, 0, none⟩), .string (Ty.S k)] w fun e w' => e = .returned (.tuple #[.int .i64 (k.length : Int), .nilIface]) ∧ Rn.Bd B b (l ++ k) w' ∧ Below B w w' := by
 obtain ⟨i0, hi, hz0, hz1, hz2⟩ := info_parts Rn.bInfo
 have CC := Lib.hid (Rn.bcheck_c B b _ w h)
 have HL : Hid ((Lib.byteCells l).length + (Ty.S k).size ≤ 140737488355328 ∧ B ≤ w.heap.size) := Lib.hid (by
  refine ⟨?_, hBw⟩
  rw [Ty.size_S]
  simpa [Lib.byteCells] using hlen)
 have HK : Hid ((Ty.S k).size = k.length ∧ Lib.byteCells l ++ Lib.strCells (Ty.S k) = Lib.byteCells (l ++ k)) := Lib.hid (by
  refine ⟨Ty.size_S _, ?_⟩
  simp [Lib.byteCells, Lib.strCells, Ty.S])
 have hks := HK.out.1
 generalize Lib.byteCells l = bs at CC HL HK
 generalize Ty.S k = s at HL HK hks ⊢
 clear h hlen hBw
 go_enter Tryz.func69, Tryz.ntmps69
 go_wp2_with (go_at_call 101; refine CC.out.mono ?_)
 rintro e w1 ⟨rfl, h1, hb1⟩
 have H1 := Lib.hid h1
 have HB1 := Lib.hid hb1
 obtain ⟨hB, v, hbk, hown, hne⟩ := h1
 have c1 : w1.cell? ⟨b, 1, none⟩ = some v := by rw [Lib.cell_of_heap hbk]; rfl
 have HBK := Lib.hid hbk
 have HO := Lib.hid hown
 have HNE := Lib.hid (And.intro hB hne)
 clear hbk hown hne hB hb1
 go_wp2_with (at_builtin; refine Lib.wpList_append_own_string _ rfl _ _ 118 9 rfl B 5 i0 Tryz.underlying118 Tryz.underlying9 hi hz0 hz1 hz2 _ _ _ rfl HO.out s rfl (by have := HL.out.1; unfold maxLen; omega) (by have := HL.out.1; omega) (by have := HL.out.2; have := HB1.out.size; omega) ?_)
 intro v' w2 hown' hgrow _
 have hlt : b < w1.heap.size := H1.out.lt
 have hb2 : w2.heap[b]? = some (.cells #[.pointer (some ⟨b, 0, none⟩), v] 124 (0, 0)) := by
  rw [hgrow.block b hlt (fun e => HNE.out.2 e.symm)]
  exact HBK.out
 have d1 : w2.cell? ⟨b, 1, none⟩ = some v := by rw [Lib.cell_of_heap hb2]; rfl
 have f1 : w2.frozen? ⟨b, 1, none⟩ = false := Lib.frozen_of_heap hb2 1
 obtain ⟨ao, n', cap, rfl⟩ : ∃ ao n' cap, v' = .slice ao n' cap := by
  rcases hown'.2 with ⟨hv, _⟩ | ⟨g, cap, cur, hv, _⟩
  ·exact ⟨_, _, _, hv⟩
  ·exact ⟨_, _, _, hv⟩
 have HE : Hid (Rn.Bd B b (l ++ k) (w2.setCell ⟨b, 1, none⟩ (.slice ao n' cap)) ∧ Below B w (w2.setCell ⟨b, 1, none⟩ (.slice ao n' cap))) := Lib.hid (by
  refine ⟨.inr ?_, ?_⟩
  ·rw [← HK.out.2]
   exact Lib.BuilderAt.put HNE.out.1 hb2 (by simpa [Lib.strCells_length, hks] using hown') (by decide)
  ·exact (HB1.out.grown hgrow (by have := HB1.out.size; have := HL.out.2; omega) (fun k hk => (HO.out.lt k hk).1)).setCell (p := ⟨b, 1, none⟩) HNE.out.1 _)
 clear hb2 hown' hgrow
 go_wp2
 go_ret2
 exact ⟨rfl, HE.out⟩
theorem Rn.bstring_c (B b : Nat) (l : List UInt8) (w : World) (h : Rn.Bd B b l w) (hB : B ≤ w.heap.size) :
 Calls Tryz.prog 71 #[.pointer (some ⟨b, 0, none⟩)] w fun e w' => e = .returned (.string (Ty.S l)) ∧ Below B w w' :=
 Any.Builder_String_any Tryz.bstringL Rn.bExtra B b l w h hB
theorem Rn.bd_new (w : World) : Rn.Bd w.heap.size w.heap.size [] (w.alloc (.cells #[.pointer none, .slice none 0 0] 124)) :=
 .inl ⟨Nat.le_refl _, _, heap_alloc_new w _, World.ownsRow_nil _ _ _ _, by simp [Value.ownBlock]⟩
theorem Rn.Bd.kept {B b : Nat} {l : List UInt8} {w w' : World} (h : Rn.Bd B b l w) (g : Below w.heap.size w w') : Rn.Bd B b l w' := by
 have one : ∀ p, Lib.BuilderAt 124 5 B b p (Lib.byteCells l) w → Lib.BuilderAt 124 5 B b p (Lib.byteCells l) w' := fun p hp => by
  obtain ⟨h1, v, h2, h3, h4⟩ := hp
  exact ⟨h1, v, (g.block b (Array.getElem?_eq_some_iff.1 h2).1).trans h2, by
   refine ⟨h3.1, ?_⟩
   rcases h3.2 with hn | ⟨b', cap, cur, rfl, hbb, hgg, rest⟩
   ·exact .inl hn
   ·exact .inr ⟨b', cap, cur, rfl, hbb, by rw [g.block b' (h3.lt b' rfl).2]; exact hgg, rest⟩, h4⟩
 exact h.imp (one _) (one _)
end Go.Proofs.YtbelkhkllneifaaGreatDoor

namespace Go.Proofs.YtbelkhkllneifaaGreatDoor
open Go.RowKit
open Ty (I64)
def Dd.Cap (v : Value) : Prop := ∀ a n c, v = .slice a n c → n ≤ c
theorem Dd.Cap.of {a : Option Addr} {n c : Nat} (h : n ≤ c) : Dd.Cap (.slice a n c) := fun a' n' c' e => by
 simp only [Value.slice.injEq] at e
 omega
def Dd.Cols (w : World) (v : Value) (l : List Kn.C) : Prop := Kn.Cols w v l ∧ Dd.Cap v
theorem Dd.Cols.later {w w' : World} {v : Value} {l : List Kn.C} (h : Dd.Cols w v l) (g : Below w.heap.size w w') : Dd.Cols w' v l := ⟨h.1.later g, h.2⟩
theorem Dd.Cols.first {w : World} {a : Option Addr} {n c : Nat} {l : List Kn.C} (h : Dd.Cols w (.slice a n c) l) (hl : 1 ≤ l.length) : Dd.Cols w (.slice a 1 c) (l.take 1) := by
 obtain ⟨⟨a', c', e, h⟩, hc⟩ := h
 simp only [Value.slice.injEq] at e
 obtain ⟨rfl, rfl, rfl⟩ := e
 have hc := hc _ _ _ rfl
 refine ⟨⟨a, c, by rw [List.length_take, Nat.min_eq_left hl], ?_⟩, Dd.Cap.of (by omega)⟩
 rcases h with rfl | ⟨b, o, rfl, hb, hm, h⟩
 ·simp at hl
 ·refine .inr ⟨b, o, rfl, hb, by rw [List.length_take]; omega, fun i x hx => h i x ?_⟩
  rw [List.getElem?_take] at hx
  split at hx
  ·exact hx
  ·cases hx
theorem Dd.cols_right {s : List Kn.C} (h : Kn.right s = true) (g : Bool) : Kn.right (Dd.cols s g) = true := by
 unfold Dd.cols
 cases g
 ·exact h
 ·rw [if_pos rfl]
  obtain ⟨x, t, rfl, hx, hg⟩ := Kn.right_head h
  simp [Kn.right, Kn.headOk, hx, hg]
theorem Dd.cols_good {s : List Kn.C} (h : Kn.right s = true) {g : Bool} {k : Nat} {c : Kn.C} (hc : (Dd.cols s g)[k]? = some c) : c.good = true := by
 have ha := Kn.right_all (Dd.cols_right h g)
 exact (List.all_eq_true.1 ha) c (List.mem_of_getElem? hc)
theorem Dd.cols_len {s : List Kn.C} (h : Kn.right s = true) (g : Bool) : 1 ≤ (Dd.cols s g).length ∧ (Dd.cols s g).length ≤ 6 := Kn.right_len (Dd.cols_right h g)
theorem Dd.fitE_cols {s : List Kn.C} (h : Kn.right s = true) (d : Dd.D) : Kn.fitsE (Dd.cols s d.gone) d.row = Dd.fitE s d := by
 have hr := Dd.cols_right h d.gone
 obtain ⟨g, row⟩ := d
 unfold Dd.fitE
 cases g
 ·rfl
 ·simp only [if_true] at hr ⊢
  rw [if_pos h]
  obtain ⟨x, t, rfl, hx, hg⟩ := Kn.right_head h
  have e : Dd.cols (x :: t) true = [x] := rfl
  simp only [e] at hr ⊢
  match row with
  | [] => exact Kn.fitsE_len hr (by simp)
  | [k] =>
    simp only
    unfold Kn.fitsE Kn.keyE
    rw [if_pos hr, if_pos h, if_pos (by simp)]
    simp only [Kn.fitsAll, Bool.and_true]
  | _ :: _ :: _ => exact Kn.fitsE_len hr (by simp)
theorem Dd.fitE_not {s : List Kn.C} (h : Kn.right s = false) (d : Dd.D) : Dd.fitE s d = 4 := by
 unfold Dd.fitE
 split
 ·rw [h, if_neg (by decide)]
 ·exact Kn.fitsE_bad h
set_option maxRecDepth 100000 in
set_option maxHeartbeats 400000 in
theorem Dd.columnsOf_c (v : Value) (s : List Kn.C) (g : Bool) (w : World) (hs : Dd.Cols w v s) (hl : 1 ≤ s.length) :
 Calls Tryz.prog 62 #[v, .bool g] w fun e w' => (∃ u, e = .returned u ∧ ∀ W, Dd.Cols W v s → Dd.Cols W u (Dd.cols s g)) ∧ w' = w := by
 obtain ⟨a, c, rfl, _⟩ := hs.1.is
 have hc := hs.2 _ _ _ rfl
 have hc1 : (1 : Int) ≤ (c : Int) := by omega
 cases g
 ·go_enter Tryz.func62, Tryz.ntmps62
  go_wp2
  go_ret
  exact ⟨⟨_, rfl, fun W h => h⟩, rfl⟩
 ·have hl2 := Lib.hid hl
  go_enter Tryz.func62, Tryz.ntmps62
  go_wp2
  go_ret
  exact ⟨⟨_, rfl, fun W h => h.first hl2.out⟩, rfl⟩
set_option maxRecDepth 100000 in
set_option maxHeartbeats 400000 in
theorem Dd.appendFlag_c (base : Nat) (v : Value) (bs : List UInt8) (b : Bool) (w : World) (hown : Ty.Buf base w v bs) (hb : base ≤ w.heap.size) (hl : bs.length + 1 ≤ 140737488355328) :
 Calls Tryz.prog 64 #[v, .bool b] w (Ty.Written base w v (bs ++ [Dd.flag b])) := by
 cases b
 ·go_enter Tryz.func64, Tryz.ntmps64
  go_wp2_with (at_builtin; refine Ty.wpList_append_byte hown hb hl (.tmp 9) (.tmp 10) _ rfl rfl rfl rfl ?_; intro v1 w1 h1 g1)
  go_ret
  exact ⟨v1, rfl, h1 _ rfl, g1⟩
 ·go_enter Tryz.func64, Tryz.ntmps64
  go_wp2_with (at_builtin; refine Ty.wpList_append_byte hown hb hl (.tmp 6) (.tmp 7) _ rfl rfl rfl rfl ?_; intro v1 w1 h1 g1)
  go_ret
  exact ⟨v1, rfl, h1 _ rfl, g1⟩
end Go.Proofs.YtbelkhkllneifaaGreatDoor

namespace Go.Proofs.YtbelkhkllneifaaGreatDoor
open Go.RowKit
open Ty (I64)
open Ig (encI)
open Tx (encT)
theorem Dd.encV_there {c : Kn.C} {v : Kn.V} (hc : c.null = false) (hv : v.null = false) : Dd.encV c v = Dd.encP c v := by
 unfold Dd.encV
 rw [hc, hv, if_neg (by decide), if_neg (by decide), List.nil_append]
theorem Dd.encV_flag {c : Kn.C} {v : Kn.V} (hc : c.null = true) (hv : v.null = false) : Dd.encV c v = Dd.flag false :: Dd.encP c v := by
 unfold Dd.encV
 rw [hc, hv, if_pos rfl, if_neg (by decide)]
 rfl
theorem Dd.encV_null {c : Kn.C} {v : Kn.V} (hc : c.null = true) (hv : v.null = true) : Dd.encV c v = [Dd.flag true] := by
 unfold Dd.encV
 rw [hc, hv, if_pos rfl, if_pos rfl]
 rfl
theorem Dd.encP_int {c : Kn.C} {v : Kn.V} (hk : c.k = 1) : Dd.encP c v = Ig.encI v.n := by unfold Dd.encP; rw [if_pos hk]
theorem Dd.encP_txt {c : Kn.C} {v : Kn.V} (hk : c.k = 2) : Dd.encP c v = encT v.s.data.toList := by unfold Dd.encP; rw [if_neg (by omega)]
theorem Dd.fits_live {c : Kn.C} {v : Kn.V} (h : Kn.fits c v = true) (hc : c.null = false) : v.null = false := by
 cases hv : v.null
 ·rfl
 ·have := (Dd.fits_null h hv).2
  rw [hc] at this; cases this
theorem Dd.fits_size {c : Kn.C} {v : Kn.V} (hk : c.k = 2) (h : Kn.fits c v = true) (hv : v.null = false) : v.s.size ≤ 64 := by
 have := (Dd.fits_str (by omega) h hv).2
 rwa [Ty.length_data] at this
theorem Dd.tabs_grew {w w' : World} {v v' : Value} {base : Nat} {bs : List UInt8} (h : Ty.Tabs w) (hg : Ty.Grew w w' v v') (hb : Ty.Buf base w v bs) (hG : Ty.G ≤ base) : Ty.Tabs w' :=
 Ty.Tabs.by h hg.by_ fun k hk => Nat.le_trans hG (World.ownsRow.lt hb k hk).1
set_option maxHeartbeats 2000000 in
set_option maxRecDepth 100000 in
theorem Dd.appendValue_c (base : Nat) (v : Value) (bs : List UInt8) (c : Kn.C) (x : Kn.V) (w : World) (hT : Ty.Tabs w) (hG : Ty.G ≤ base) (hown : Ty.Buf base w v bs) (hb : base ≤ w.heap.size) (hl : bs.length ≤ 1000) (hf : Kn.fits c x = true) (hg : c.good = true) (hi : I64 x.n) :
 Calls Tryz.prog 65 #[v, c.val, x.val] w (Ty.Written base w v (bs ++ Dd.encV c x)) := by
 obtain ⟨ck, cn⟩ := c
 obtain ⟨xn, xi, xs⟩ := x
 have hgr : Below w.heap.size w ((w.alloc (.cells #[.int .i64 ck, .bool cn] 76)).alloc (.cells #[.bool xn, .int .i64 xi, .string xs] 33)) := ((Below.refl _ w).alloc (Nat.le_refl _) _).alloc (by simp) _
 have hown2 : Ty.Buf base ((w.alloc (.cells #[.int .i64 ck, .bool cn] 76)).alloc (.cells #[.bool xn, .int .i64 xi, .string xs] 33)) v bs := World.ownsRow.alloc (World.ownsRow.alloc hown _) _
 have hown3 : Hid (∀ k, v.ownBlock = some k → k < w.heap.size) := Lib.hid fun k hk => (World.ownsRow.lt hown k hk).2
 have hT2 := Lib.hid (Ty.Tabs.below hT hgr (Ty.Tabs.two hT))
 have hBH : Hid (∀ (w' : World) (v' : Value), Ty.Grew ((w.alloc (.cells #[.int .i64 ck, .bool cn] 76)).alloc (.cells #[.bool xn, .int .i64 xi, .string xs] 33)) w' v v' → Ty.Grew w w' v v') := Lib.hid fun w' v' h => (h.behind _).behind _
 have hsz : ((w.alloc (.cells #[.int .i64 ck, .bool cn] 76)).alloc (.cells #[.bool xn, .int .i64 xi, .string xs] 33)).heap.size = w.heap.size + 2 := by simp
 have hb2 := (Below.refl _ (w.alloc (.cells #[.int .i64 ck, .bool cn] 76))).alloc (Nat.le_refl _) (.cells #[.bool xn, .int .i64 xi, .string xs] 33)
 have x0 := (hb2.cell (p := ⟨w.heap.size, 0, none⟩) (by simp)).trans (Kn.cell_new w #[.int .i64 ck, .bool cn] 76 0 _ rfl)
 have x1 := (hb2.cell (p := ⟨w.heap.size, 1, none⟩) (by simp)).trans (Kn.cell_new w #[.int .i64 ck, .bool cn] 76 1 _ rfl)
 have y0 := Kn.cell_new (w.alloc (.cells #[.int .i64 ck, .bool cn] 76)) #[.bool xn, .int .i64 xi, .string xs] 33 0 _ rfl
 have y1 := Kn.cell_new (w.alloc (.cells #[.int .i64 ck, .bool cn] 76)) #[.bool xn, .int .i64 xi, .string xs] 33 1 _ rfl
 have y2 := Kn.cell_new (w.alloc (.cells #[.int .i64 ck, .bool cn] 76)) #[.bool xn, .int .i64 xi, .string xs] 33 2 _ rfl
 rw [World.size_alloc] at y0 y1 y2
 simp only [List.getElem_toArray, List.getElem_cons_zero, List.getElem_cons_succ] at x0 x1 y0 y1 y2
 have HT := hT2
 have HOW := Lib.hid hown2
 have HI := Lib.hid hi
 have HF := Lib.hid hf
 have HGB := Lib.hid hG
 have HBB := Lib.hid hb
 have HL := Lib.hid hl
 clear hgr hown2 hT2 hb2 hi hf hG hT hown
 have HK := Lib.hid ((Dd.good_iff _).1 hg)
 simp only at HI HK
 clear hg
 unfold Kn.C.val Kn.V.val
 cases cn
 ·obtain rfl : xn = false := Dd.fits_live HF.out rfl
  rcases HK.out with rfl | rfl
  ·have HE := Lib.hid ((Dd.encV_there (c := ⟨1, false⟩) (v := ⟨false, xi, xs⟩) rfl rfl).trans (Dd.encP_int rfl))
   go_enter Tryz.func65, Tryz.ntmps65
   go_wp2_with fail
   generalize hwo : World.alloc _ _ = wo at HOW HT hBH hsz x0 x1 y0 y1 y2 ⊢
   clear hwo
   with_reducible refine (Ty.int_c base v _ xi HI.out wo HT.out HOW.out (by have := HBB.out; omega) (by have := HL.out; omega)).mono ?_
   rintro e w4 ⟨v4, rfl, hB4, hG4⟩
   have HB4 := Lib.hid hB4
   have HG4 := Lib.hid hG4
   clear hB4 hG4
   go_wp2
   go_ret
   refine ⟨v4, rfl, ?_, hBH.out _ _ HG4.out⟩
   rw [HE.out]
   have h := HB4.out
   simpa only [Ig.encI, List.append_assoc, List.singleton_append, List.cons_append, List.nil_append] using h
  ·have HE := Lib.hid ((Dd.encV_there (c := ⟨2, false⟩) (v := ⟨false, xi, xs⟩) rfl rfl).trans (Dd.encP_txt rfl))
   have h64 := Dd.fits_size rfl HF.out rfl
   simp only at h64
   go_enter Tryz.func65, Tryz.ntmps65
   go_wp2_with fail
   generalize hwo : World.alloc _ _ = wo at HOW HT hBH hsz x0 x1 y0 y1 y2 ⊢
   clear hwo
   with_reducible refine (Ty.text_c base v _ xs wo HT.out HOW.out (by have := HBB.out; omega) (by have := HL.out; omega)).mono ?_
   rintro e w4 ⟨v4, rfl, hB4, hG4⟩
   have HB4 := Lib.hid hB4
   have HG4 := Lib.hid hG4
   clear hB4 hG4
   go_wp2
   go_ret
   refine ⟨v4, rfl, ?_, hBH.out _ _ HG4.out⟩
   rw [HE.out]
   have h := HB4.out
   simpa only [encT, Ty.length_data, List.append_assoc, List.singleton_append, List.cons_append, List.nil_append] using h
 ·cases xn
  ·rcases HK.out with rfl | rfl
   ·have HE := Lib.hid ((Dd.encV_flag (c := ⟨1, true⟩) (v := ⟨false, xi, xs⟩) rfl rfl).trans (congrArg _ (Dd.encP_int rfl)))
    go_enter Tryz.func65, Tryz.ntmps65
    go_wp2_with fail
    generalize hwo : World.alloc _ _ = wo at HOW HT hBH hsz x0 x1 y0 y1 y2 ⊢
    clear hwo
    with_reducible refine (Dd.appendFlag_c base v bs false wo HOW.out (by have := HBB.out; omega) (by have := HL.out; omega)).mono ?_
    rintro e w3 ⟨v3, rfl, hB3, hG3⟩
    have hs3 := hG3.by_.size
    have hn0 : some w.heap.size ≠ v.ownBlock := fun e => by have := hown3.out _ e.symm; omega
    have hn1 : some (w.heap.size + 1) ≠ v.ownBlock := fun e => by have := hown3.out _ e.symm; omega
    replace x0 := hG3.by_.cell x0 hn0
    replace y0 := hG3.by_.cell y0 hn1
    replace y1 := hG3.by_.cell y1 hn1
    replace y2 := hG3.by_.cell y2 hn1
    have HB3 := Lib.hid hB3
    have HG3 := Lib.hid hG3
    have HT3 := Lib.hid (Dd.tabs_grew HT.out hG3 HOW.out HGB.out)
    clear x1 hn0 hn1 hB3 hG3
    go_wp2_with fail
    with_reducible refine (Ty.int_c base v3 _ xi HI.out w3 HT3.out HB3.out (by have := HBB.out; omega) (by rw [List.length_append]; have := HL.out; simp only [List.length_singleton]; omega)).mono ?_
    rintro e w4 ⟨v4, rfl, hB4, hG4⟩
    have HB4 := Lib.hid hB4
    have HG4 := Lib.hid hG4
    clear hB4 hG4
    go_wp2
    go_ret
    refine ⟨v4, rfl, ?_, hBH.out _ _ (HG3.out.trans HG4.out)⟩
    rw [HE.out]
    have h := HB4.out
    simpa only [Ig.encI, List.append_assoc, List.singleton_append, List.cons_append, List.nil_append] using h
   ·have HE := Lib.hid ((Dd.encV_flag (c := ⟨2, true⟩) (v := ⟨false, xi, xs⟩) rfl rfl).trans (congrArg _ (Dd.encP_txt rfl)))
    have h64 := Dd.fits_size rfl HF.out rfl
    simp only at h64
    go_enter Tryz.func65, Tryz.ntmps65
    go_wp2_with fail
    generalize hwo : World.alloc _ _ = wo at HOW HT hBH hsz x0 x1 y0 y1 y2 ⊢
    clear hwo
    with_reducible refine (Dd.appendFlag_c base v bs false wo HOW.out (by have := HBB.out; omega) (by have := HL.out; omega)).mono ?_
    rintro e w3 ⟨v3, rfl, hB3, hG3⟩
    have hs3 := hG3.by_.size
    have hn0 : some w.heap.size ≠ v.ownBlock := fun e => by have := hown3.out _ e.symm; omega
    have hn1 : some (w.heap.size + 1) ≠ v.ownBlock := fun e => by have := hown3.out _ e.symm; omega
    replace x0 := hG3.by_.cell x0 hn0
    replace y0 := hG3.by_.cell y0 hn1
    replace y1 := hG3.by_.cell y1 hn1
    replace y2 := hG3.by_.cell y2 hn1
    have HB3 := Lib.hid hB3
    have HG3 := Lib.hid hG3
    have HT3 := Lib.hid (Dd.tabs_grew HT.out hG3 HOW.out HGB.out)
    clear x1 hn0 hn1 hB3 hG3
    go_wp2_with fail
    with_reducible refine (Ty.text_c base v3 _ xs w3 HT3.out HB3.out (by have := HBB.out; omega) (by rw [List.length_append]; have := HL.out; simp only [List.length_singleton]; omega)).mono ?_
    rintro e w4 ⟨v4, rfl, hB4, hG4⟩
    have HB4 := Lib.hid hB4
    have HG4 := Lib.hid hG4
    clear hB4 hG4
    go_wp2
    go_ret
    refine ⟨v4, rfl, ?_, hBH.out _ _ (HG3.out.trans HG4.out)⟩
    rw [HE.out]
    have h := HB4.out
    simpa only [encT, Ty.length_data, List.append_assoc, List.singleton_append, List.cons_append, List.nil_append] using h
  ·have HE := Lib.hid (Dd.encV_null (c := ⟨ck, true⟩) (v := ⟨true, xi, xs⟩) rfl rfl)
   go_enter Tryz.func65, Tryz.ntmps65
   go_wp2_with fail
   generalize hwo : World.alloc _ _ = wo at HOW HT hBH hsz x0 x1 y0 y1 y2 ⊢
   clear hwo
   with_reducible refine (Dd.appendFlag_c base v bs true wo HOW.out (by have := HBB.out; omega) (by have := HL.out; omega)).mono ?_
   rintro e w3 ⟨v3, rfl, hB3, hG3⟩
   have hs3 := hG3.by_.size
   have hn0 : some w.heap.size ≠ v.ownBlock := fun e => by have := hown3.out _ e.symm; omega
   have hn1 : some (w.heap.size + 1) ≠ v.ownBlock := fun e => by have := hown3.out _ e.symm; omega
   replace x0 := hG3.by_.cell x0 hn0
   replace y0 := hG3.by_.cell y0 hn1
   replace y1 := hG3.by_.cell y1 hn1
   replace y2 := hG3.by_.cell y2 hn1
   have HB3 := Lib.hid hB3
   have HG3 := Lib.hid hG3
   have HT3 := Lib.hid (Dd.tabs_grew HT.out hG3 HOW.out HGB.out)
   clear x1 hn0 hn1 hB3 hG3
   go_wp2
   go_ret
   exact ⟨v3, rfl, by rw [HE.out]; exact HB3.out, hBH.out _ _ HG3.out⟩
end Go.Proofs.YtbelkhkllneifaaGreatDoor

namespace Go.Proofs.YtbelkhkllneifaaGreatDoor
open Go.RowKit
def Dd.T (w : World) : Prop := Ty.Tabs w
theorem Dd.T.below {w w' : World} (h : Dd.T w) (g : Below w.heap.size w w') : Dd.T w' := Ty.Tabs.below h g (Ty.Tabs.two h)
end Go.Proofs.YtbelkhkllneifaaGreatDoor

namespace Go.Proofs.YtbelkhkllneifaaGreatDoor
open Go.RowKit
structure Dd.By2 (r b : Nat) (w w' : World) : Prop where
 os : w'.os = w.os
 tape : w'.tape = w.tape
 output : w'.output = w.output
 size : w.heap.size ≤ w'.heap.size
 block : ∀ k, k < w.heap.size → k ≠ r → k ≠ b → w'.heap[k]? = w.heap[k]?
theorem Dd.By2.refl (r b : Nat) (w : World) : Dd.By2 r b w w := ⟨rfl, rfl, rfl, Nat.le_refl _, fun _ _ _ _ => rfl⟩
theorem Dd.By2.trans {r b : Nat} {u v w : World} (h : Dd.By2 r b u v) (k : Dd.By2 r b v w) : Dd.By2 r b u w :=
 ⟨k.os.trans h.os, k.tape.trans h.tape, k.output.trans h.output, Nat.le_trans h.size k.size, fun i hi h1 h2 => (k.block i (Nat.lt_of_lt_of_le hi h.size) h1 h2).trans (h.block i hi h1 h2)⟩
theorem Dd.By2.set {r b : Nat} (w : World) (i : Nat) (u : Value) : Dd.By2 r b w (w.setCell ⟨r, i, none⟩ u) :=
 ⟨rfl, rfl, rfl, by simp [World.setCell], fun k _ h1 _ => Below.heap_setCell _ _ _ _ (by show k ≠ r; exact h1)⟩
theorem Dd.By2.cell {r b : Nat} {w w' : World} (h : Dd.By2 r b w w') {a : Addr} {v : Value} (hv : w.cell? a = some v) (h1 : a.block ≠ r) (h2 : a.block ≠ b) : w'.cell? a = some v :=
 (World.cell?_of_block (h.block a.block (World.block_lt_of_cell? w a hv) h1 h2)).trans hv
theorem Dd.By2.below {r b B : Nat} {w w' : World} (h : Dd.By2 r b w w') (hr : B ≤ r) (hb : B ≤ b) (hB : B ≤ w.heap.size) : Below B w w' :=
 ⟨h.os, h.tape, h.output, h.size, fun k hk => h.block k (by omega) (by omega) (by omega)⟩
end Go.Proofs.YtbelkhkllneifaaGreatDoor

namespace Go.Proofs.YtbelkhkllneifaaGreatDoor
open Go.RowKit
end Go.Proofs.YtbelkhkllneifaaGreatDoor

namespace Go.Proofs.YtbelkhkllneifaaGreatDoor
open Go.RowKit
theorem Dd.By2.new {r b q i : Nat} {w w1 : World} (g : Dd.By2 r b w w1) (hq : w.heap.size ≤ q) (u : Value) : Dd.By2 r b w (w1.setCell ⟨q, i, none⟩ u) :=
 ⟨g.os, g.tape, g.output, by have := g.size; simpa [World.setCell] using this, fun k hk h1 h2 => (Below.heap_setCell _ _ _ _ (by show k ≠ q; omega)).trans (g.block k hk h1 h2)⟩
end Go.Proofs.YtbelkhkllneifaaGreatDoor

namespace Go.Proofs.YtbelkhkllneifaaGreatDoor
open Go.RowKit
open Ty (I64)
theorem Dd.Cols.kn {w : World} {v : Value} {l : List Kn.C} (h : Dd.Cols w v l) : Kn.Cols w v l := h.1
theorem Dd.cols_at {s : List Kn.C} {g : Bool} {k : Nat} {c : Kn.C} (h : (Dd.cols s g)[k]? = some c) : s[k]? = some c := by
 unfold Dd.cols at h
 cases g
 ·exact h
 ·rw [if_pos rfl, List.getElem?_take] at h
  split at h
  ·exact h
  ·cases h
set_option maxHeartbeats 2000000 in
set_option maxRecDepth 100000 in
theorem Dd.write_c (v u : Value) (s : List Kn.C) (d : Dd.D) (w : World) (hw : Dd.T w) (hs : Dd.Cols w v s) (hu : Kn.Vals w u d.row) (hi : ∀ x ∈ d.row, I64 x.n) :
 Calls Tryz.prog 34 #[v, .agg #[.bool d.gone, u]] w fun e w' => e = .returned (Dd.wV s d) ∧ Below w.heap.size w w' := by
 have HS := Lib.hid hs
 have HU := Lib.hid hu
 have HI := Lib.hid hi
 have HW := Lib.hid hw
 have HB0 : Hid (Below w.heap.size w (w.alloc (.cells #[.bool d.gone, u] 41))) := Lib.hid ((Below.refl _ _).alloc (Nat.le_refl _) _)
 have HX0 := Lib.hid (Kn.cell_new w #[.bool d.gone, u] 41 0 _ rfl)
 have HX1 := Lib.hid (Kn.cell_new w #[.bool d.gone, u] 41 1 _ rfl)
 simp only [List.getElem_toArray, List.getElem_cons_zero, List.getElem_cons_succ] at HX0 HX1
 have hsz : (w.alloc (.cells #[.bool d.gone, u] 41)).heap.size = w.heap.size + 1 := World.size_alloc ..
 obtain ⟨V, hV⟩ : ∃ V, V = Dd.wV s d := ⟨_, rfl⟩
 rw [← hV]
 have HV := Lib.hid hV
 have CR := Lib.hid fun wz (h : Kn.Cols wz v s) => Kn.right_c v s wz h
 clear hV hs hu hi hw
 cases hrt : Kn.right s
 ·have HE := Lib.hid (HV.out.trans (Dd.wV_bad (by rw [Dd.fitE_not hrt]; decide)))
  have HE4 := Lib.hid (Dd.fitE_not hrt d)
  rw [hrt] at CR
  clear hrt
  go_enter Tryz.func34, Tryz.ntmps34
  go_wp2_with fail
  generalize hwo : w.alloc _ = wo at hsz HX0 HX1 HB0 ⊢
  clear hwo
  with_reducible refine (CR.out wo (HS.out.later HB0.out).kn).mono ?_
  rintro e w1 ⟨rfl, g1⟩
  have HB1 := Lib.hid (HB0.out.trans (g1.mono HB0.out.size))
  clear g1
  go_wp2
  go_ret2
  exact ⟨by rw [HE.out, HE4.out]; rfl, HB1.out⟩
 ·rw [hrt] at CR
  have hl := Kn.right_len hrt
  have CC := Lib.hid fun wz (h : Dd.Cols wz v s) => Dd.columnsOf_c v s d.gone wz h hl.1
  have HFE : Hid (Kn.fitsE (Dd.cols s d.gone) d.row = Dd.fitE s d) := Lib.hid (Dd.fitE_cols hrt d)
  have HGOOD : Hid (∀ (k : Nat) (c : Kn.C), (Dd.cols s d.gone)[k]? = some c → c.good = true) := Lib.hid fun k c h => Dd.cols_good hrt h
  have HAT : Hid (∀ (k : Nat) (c : Kn.C), (Dd.cols s d.gone)[k]? = some c → s[k]? = some c) := Lib.hid fun k c h => Dd.cols_at h
  have HLN : Hid (Dd.fitE s d = 0 → d.row.length = (Dd.cols s d.gone).length ∧ Kn.fitsAll (Dd.cols s d.gone) d.row = true) := Lib.hid fun h => (Dd.fitE_0 h).2
  have hcl := Dd.cols_len hrt d.gone
  have HCL := Lib.hid hcl
  generalize Dd.cols s d.gone = cs at CC HFE HGOOD HAT HLN HCL
  clear hrt hl hcl
  go_enter Tryz.func34, Tryz.ntmps34
  go_wp2_with fail
  generalize hwo : w.alloc _ = wo at hsz HX0 HX1 HB0 ⊢
  clear hwo
  with_reducible refine (CR.out wo (HS.out.later HB0.out).kn).mono ?_
  rintro e w1 ⟨rfl, g1⟩
  have HB1 := Lib.hid (HB0.out.trans (g1.mono HB0.out.size))
  have x0 := (g1.cell (p := ⟨w.heap.size, 0, none⟩) (by simp [hsz])).trans HX0.out
  have x1 := (g1.cell (p := ⟨w.heap.size, 1, none⟩) (by simp [hsz])).trans HX1.out
  have hs1 : w.heap.size < w1.heap.size := by have := g1.size; omega
  clear g1 CR HX0 HX1 hsz
  go_wp2_with fail
  with_reducible refine (CC.out w1 (HS.out.later HB1.out)).mono ?_
  rintro e w2 ⟨⟨uc, rfl, hC⟩, h2⟩
  subst w2
  have HC : Hid (∀ W, Below w.heap.size w W → Kn.Cols W uc cs) := Lib.hid fun W h => (hC W (HS.out.later h)).1
  clear hC CC
  go_wp2_with fail
  have cf := Kn.fits_c uc u cs d.row w1 (HC.out _ HB1.out) (HU.out.later HB1.out)
  rw [HFE.out] at cf
  by_cases hE : Dd.fitE s d = 0
  ·have HE := Lib.hid (HV.out.trans (Dd.wV_ok hE))
   obtain ⟨hln, hfa⟩ := HLN.out hE
   have HFT : Hid (∀ (k : Nat) (c : Kn.C) (x : Kn.V), cs[k]? = some c → d.row[k]? = some x → Kn.fits c x = true) := Lib.hid fun k c x h1 h2 => Dd.fitsAll_at cs d.row k c x hfa h1 h2
   have HPL : Hid (∀ k, k ≤ d.row.length → (Dd.pre s d.gone d.row k).length ≤ 500) := Lib.hid fun k hk => Dd.pre_len hE hk
   have HPA := Lib.hid (Dd.pre_all hE)
   have HPS : Hid (∀ (k : Nat) (c : Kn.C) (x : Kn.V), cs[k]? = some c → d.row[k]? = some x → Dd.pre s d.gone d.row (k + 1) = Dd.pre s d.gone d.row k ++ Dd.encV c x) := Lib.hid fun k c x h1 h2 => Dd.pre_step (HAT.out k c h1) h2
   have hr6 : d.row.length ≤ 6 := by have := HCL.out; omega
   have HLEN := Lib.hid hln
   rw [hE] at cf
   obtain ⟨ac, cc, rfl, -⟩ := (HC.out _ HB1.out).is
   obtain ⟨au, cu, rfl, hUH⟩ := HU.out.is
   have HUH := Lib.hid hUH
   have HCC : Hid (∀ W, Below w.heap.size w W → cs = [] ∨ ∃ b2 o2, ac = some ⟨b2, o2, none⟩ ∧ b2 < W.heap.size ∧ ∀ i x, cs[i]? = some x → W.cell? ⟨b2, o2 + i * 2, none⟩ = some (.int .i64 x.k) ∧ W.cell? ⟨b2, o2 + i * 2 + 1, none⟩ = some (.bool x.null)) := Lib.hid fun W hW => by
    obtain ⟨a', c', e, h⟩ := (HC.out W hW).is
    simp only [Value.slice.injEq, true_and] at e
    obtain ⟨rfl, _⟩ := e
    rcases h with h | ⟨b2, o2, h1, h2, _, h3⟩
    ·exact .inl h
    ·exact .inr ⟨b2, o2, h1, h2, h3⟩
   clear hE hfa hUH HC
   with_reducible refine cf.mono ?_
   rintro e w2 ⟨rfl, g2⟩
   have HB2 := Lib.hid (HB1.out.trans (g2.mono HB1.out.size))
   have HX1 := Lib.hid ((g2.cell (p := ⟨w.heap.size, 1, none⟩) hs1).trans x1)
   have y0 := (g2.cell (p := ⟨w.heap.size, 0, none⟩) hs1).trans x0
   have hs2 : w.heap.size < w2.heap.size := by have := g2.size; omega
   have HT2 := Lib.hid (HW.out.below HB2.out)
   clear g2 cf x0 x1 hs1
   go_wp2_with fail
   with_reducible refine (Dd.appendFlag_c w2.heap.size _ [] d.gone w2 (Ty.Buf.nil _ _) (Nat.le_refl _) (by simp)).mono ?_
   rintro e w3 ⟨v3, rfl, hB3, hG3⟩
   have HG3 := Lib.hid (hG3.below (Nat.le_refl _) (fun k hk => by cases hk))
   have HB3 := Lib.hid hB3
   clear hB3 hG3 y0
   go_wp2_with fail
   rw [← hln]
   clear hln
   go_loopw [8, 30] (fun sv i wr => ∃ (k : Nat) (bv : Value), k ≤ d.row.length ∧ i = .int .i64 k ∧ bv = sv ∧ Ty.Buf w2.heap.size wr bv (Dd.pre s d.gone d.row k) ∧ Below w2.heap.size w2 wr) (fun _ i _ => d.row.length - (intOf i).toNat)
   case atStart => exact ⟨0, _, Nat.zero_le _, rfl, rfl, HB3.out, HG3.out⟩
   case round =>
    obtain ⟨k, bv, hk, rfl, rfl, hBk, hGk⟩ := hrel
    have HBK := Lib.hid hBk
    have HGK := Lib.hid hGk
    have HBW := Lib.hid (HB2.out.trans (hGk.mono HB2.out.size))
    have hws := hGk.size
    have x1 := (hGk.cell (p := ⟨w.heap.size, 1, none⟩) hs2).trans HX1.out
    have hk0 : (0 : Int) ≤ (k : Int) := by omega
    have HPK := Lib.hid (HPL.out k hk)
    clear hBk hGk HB3 HG3
    by_cases hlk : k < d.row.length
    ·rcases HCC.out wr HBW.out with h | ⟨b2, o2, rfl, hbl, hc2⟩
     ·exact absurd hlk (by have := HLEN.out; rw [h, List.length_nil] at this; omega)
     ·rcases HUH.out with h | ⟨b3, o3, rfl, hbl3, hm3, hx3⟩
      ·exact absurd hlk (by rw [h]; simp)
      ·obtain ⟨⟨ck, cn⟩, hc⟩ : ∃ c, cs[k]? = some c := ⟨_, List.getElem?_eq_getElem (by have := HLEN.out; omega)⟩
       obtain ⟨⟨xn, xi, xs⟩, hx⟩ : ∃ x, d.row[k]? = some x := ⟨_, List.getElem?_eq_getElem hlk⟩
       obtain ⟨e0, e1⟩ := hc2 k _ hc
       obtain ⟨a0, a1, a2⟩ := (hx3 k _ hx).later HBW.out
       have HST := Lib.hid (HPS.out k _ _ hc hx)
       have HFX := Lib.hid (HFT.out k _ _ hc hx)
       have HGX := Lib.hid (HGOOD.out k _ hc)
       have HIX := Lib.hid (HI.out _ (List.mem_of_getElem? hx))
       have hkl : (k : Int) < (d.row.length : Int) := by omega
       have hbl3r : b3 < wr.heap.size := by have := HBW.out.size; omega
       have hn0 := Kn.cell_new wr #[.int .i64 ck, .bool cn] 76 0 _ rfl
       have hn1 := Kn.cell_new wr #[.int .i64 ck, .bool cn] 76 1 _ rfl
       have gN : Below wr.heap.size wr (wr.alloc (.cells #[.int .i64 ck, .bool cn] 76)) := (Below.refl _ _).alloc (Nat.le_refl _) _
       simp only [List.getElem_toArray, List.getElem_cons_zero, List.getElem_cons_succ] at hn0 hn1
       simp only at e0 e1 a0 a1 a2 HIX
       have n1 := (gN.cell (p := ⟨w.heap.size, 1, none⟩) (by show w.heap.size < wr.heap.size; omega)).trans x1
       have m0 := (gN.cell (p := ⟨b3, o3 + k * 3, none⟩) hbl3r).trans a0
       have m1 := (gN.cell (p := ⟨b3, o3 + k * 3 + 1, none⟩) hbl3r).trans a1
       have m2 := (gN.cell (p := ⟨b3, o3 + k * 3 + 2, none⟩) hbl3r).trans a2
       have HGN := Lib.hid (HGK.out.trans (gN.mono hws))
       have HBN : Hid (Ty.Buf w2.heap.size (wr.alloc (.cells #[.int .i64 ck, .bool cn] 76)) bv (Dd.pre s d.gone d.row k)) := Lib.hid (HBK.out.later gN)
       clear hc hx hc2 hx3 hm3 hbl
       go_wp2_with fail
       generalize hwn : wr.alloc _ = wn at hn0 hn1 n1 m0 m1 m2 HGN HBN ⊢
       clear hwn gN x1 e0 e1 a0 a1 a2
       refine wp_region_still_tail 7 (by kernel_rfl) (by kernel_rfl) ?_
       simp only [List.take_succ_cons, List.take_zero, List.drop_succ_cons, List.drop_zero]
       change wpStill _ _ (World.drew _) (fun a' => wpList _ _ _ _ a' (World.drew _)) _ _
       still_step
       still_step
       still_step
       still_step
       still_step
       still_step
       still_step
       refine wpStill_nil ?_
       have HTN := Lib.hid (HT2.out.below HGN.out.drew)
       have ca := Dd.appendValue_c w2.heap.size bv (Dd.pre s d.gone d.row k) ⟨ck, cn⟩ ⟨xn, xi, xs⟩ wn.drew HTN.out (Ty.Tabs.two HT2.out) HBN.out HGN.out.size (by have := HPK.out; omega) HFX.out HGX.out HIX.out
       unfold Kn.C.val Kn.V.val at ca
       simp only at ca
       go_wp2_with fail
       with_reducible refine ca.mono ?_
       rintro e w5 ⟨v5, rfl, hB5, hG5⟩
       have HB5 := Lib.hid hB5
       have HG5 := Lib.hid ((hG5.drawn).below HGN.out.size HBN.out.base)
       clear ca hB5 hG5 hn0 hn1 n1 m0 m1 m2
       go_wp2
       go_roundw
       case rel => exact ⟨k + 1, _, by omega, by simp, rfl, by rw [HST.out]; exact HB5.out, HGN.out.trans HG5.out⟩
       case measure => simp [intOf]; omega
    ·obtain rfl : k = d.row.length := by omega
     have hkl : ¬ (d.row.length : Int) < (d.row.length : Int) := by omega
     have hstr := HBK.out.str
     rw [HPA.out] at hstr
     go_wp2
     go_ret2
     exact ⟨by rw [HE.out]; rfl, HBW.out⟩
  ·have HE := Lib.hid (HV.out.trans (Dd.wV_bad hE))
   have hEb : (Dd.fitE s d != 0) = true := by rw [bne_iff_ne]; exact hE
   generalize Dd.fitE s d = E at cf HE hEb
   clear hE
   with_reducible refine cf.mono ?_
   rintro e w2 ⟨rfl, g2⟩
   have HB2 := Lib.hid (HB1.out.trans (g2.mono HB1.out.size))
   clear g2 cf x0 x1
   go_wp2
   go_ret2
   exact ⟨by rw [HE.out]; rfl, HB2.out⟩
end Go.Proofs.YtbelkhkllneifaaGreatDoor

namespace Go.Proofs.YtbelkhkllneifaaGreatDoor
open Go.RowKit
open Tx (encT)
theorem Bk.first_at {s : List Kn.C} : ∀ {L : List Dd.D} {k : Nat} {d : Dd.D}, L[k]? = some d → (∀ j x, j < k → L[j]? = some x → Dd.fitE s x = 0) → Dd.fitE s d ≠ 0 → Bk.firstE s L = Dd.fitE s d
 | [], _, _, h, _, _ => by simp at h
 | x :: L, 0, d, h, _, hd => by
   obtain rfl : x = d := by simpa using h
   unfold Bk.firstE
   rw [if_neg hd]
 | x :: L, k + 1, d, h, hj, hd => by
   unfold Bk.firstE
   rw [if_pos (hj 0 x (by omega) rfl)]
   exact Bk.first_at (by simpa using h) (fun j y h1 h2 => hj (j + 1) y (by omega) (by simpa using h2)) hd
theorem Bk.wE_k {s : List Kn.C} {L : List Dd.D} (h : Kn.right s = false) : Bk.wE s L = 4 := by unfold Bk.wE; rw [if_neg (by rw [h]; decide)]
theorem Bk.wE_l {s : List Kn.C} {L : List Dd.D} (h : Kn.right s = true) (h1 : L.length < 1 ∨ 8 < L.length) : Bk.wE s L = 1 := by unfold Bk.wE; rw [if_pos h, if_pos h1]
theorem Bk.wE_f {s : List Kn.C} {L : List Dd.D} (h : Kn.right s = true) (h1 : ¬ (L.length < 1 ∨ 8 < L.length)) {q : Int} (h2 : Bk.firstE s L = q) (h3 : q ≠ 0) : Bk.wE s L = q := by
 unfold Bk.wE Bk.fitsE
 rw [if_pos h, if_neg h1, h2, if_neg h3]
theorem Bk.wE_s {s : List Kn.C} {L : List Dd.D} (h : Kn.right s = true) (h1 : ¬ (L.length < 1 ∨ 8 < L.length)) (h2 : Bk.firstE s L = 0) (h3 : Bk.sorted L = false) : Bk.wE s L = 1 := by
 unfold Bk.wE Bk.fitsE
 rw [if_pos h, if_neg h1, if_pos h2, if_neg (by rw [h3]; decide)]
theorem Bk.wE_g {s : List Kn.C} {L : List Dd.D} (h : Kn.right s = true) (h1 : ¬ (L.length < 1 ∨ 8 < L.length)) (h2 : Bk.firstE s L = 0) (h3 : Bk.sorted L = true) : Bk.wE s L = 0 := by
 unfold Bk.wE Bk.fitsE
 rw [if_pos h, if_neg h1, if_pos h2, if_pos h3]
theorem Bk.pre_start (s : List Kn.C) (L : List Dd.D) : Bk.pre s L 0 = Ty.encU L.length ++ Bk.bools L := by
 unfold Bk.pre
 rw [List.take_zero, show Bk.encC 0 [] L = [] from rfl, List.append_nil]
set_option maxHeartbeats 8000000 in
set_option maxRecDepth 100000 in
theorem Bk.pwrite_c (vs v : Value) (s : List Kn.C) (L : List Dd.D) (w : World) (hT : Ty.Tabs w) (hs : Dd.Cols w vs s) (hv : Bk.Ds w v L) (hz : Bk.Zs L) (hi : ∀ d ∈ L, ∀ x ∈ d.row, Ty.I64 x.n) :
 Calls Tryz.prog 68 #[vs, v] w fun e w' => e = .returned (Bk.wV s L) ∧ Below w.heap.size w w' := by
 obtain ⟨V, hV⟩ : ∃ V, V = Bk.wV s L := ⟨_, rfl⟩
 rw [← hV]
 have HV9 := Lib.hid hV
 have HT := Lib.hid hT
 have HS := Lib.hid hs
 have HV := Lib.hid hv
 have HZ := Lib.hid hz
 have HI := Lib.hid hi
 have cR := Kn.right_c vs s w hs.1
 have CD := Lib.hid fun (u : Value) (d : Dd.D) (wz : World) (h1 : Ty.Tabs wz) (h2 : Dd.Cols wz vs s) (h3 : Kn.Vals wz u d.row) (h4 : ∀ x ∈ d.row, Ty.I64 x.n) => Dd.write_c vs u s d wz h1 h2 h3 h4
 have CS := Lib.hid fun (wz : World) (h : Bk.Ds wz v L) => Bk.psorted_c v L wz h HZ.out
 obtain ⟨a, c, rfl, hlc, hcm, h⟩ := hv
 obtain ⟨⟨sa, sc, rfl, hsa⟩, -⟩ := hs
 have HH := Lib.hid h
 have HSA := Lib.hid hsa
 clear hV hT hz hi h hsa
 cases hr : Kn.right s
 ·rw [hr] at cR
  have HE := Lib.hid (HV9.out.trans (Bk.wV_bad (Bk.wE_k (L := L) hr) (by decide)))
  clear hr
  go_enter Tryz.func68, Tryz.ntmps68
  go_wp2_with fail
  with_reducible refine cR.mono ?_
  rintro e w1 ⟨rfl, g1⟩
  have HG := Lib.hid g1
  clear g1
  go_wp2
  go_ret2
  exact ⟨by rw [HE.out]; rfl, HG.out⟩
 rw [hr] at cR
 have HR := Lib.hid hr
 clear hr
 by_cases hlen : L.length < 1 ∨ 8 < L.length
 ·have HE := Lib.hid (HV9.out.trans (Bk.wV_bad (Bk.wE_l HR.out hlen) (by decide)))
  by_cases h1 : (L.length : Int) < 1
  ·clear hlen
   go_enter Tryz.func68, Tryz.ntmps68
   go_wp2_with fail
   with_reducible refine cR.mono ?_
   rintro e w1 ⟨rfl, g1⟩
   have HG := Lib.hid g1
   clear g1
   go_wp2
   go_ret2
   exact ⟨by rw [HE.out]; rfl, HG.out⟩
  ·have h2 : (8 : Int) < (L.length : Int) := by omega
   clear hlen
   go_enter Tryz.func68, Tryz.ntmps68
   go_wp2_with fail
   with_reducible refine cR.mono ?_
   rintro e w1 ⟨rfl, g1⟩
   have HG := Lib.hid g1
   clear g1
   go_wp2
   go_ret2
   exact ⟨by rw [HE.out]; rfl, HG.out⟩
 have hi1 : ¬ (L.length : Int) < 1 := by omega
 have hi2 : ¬ (8 : Int) < (L.length : Int) := by omega
 have HLN := Lib.hid hlen
 have H8 : Hid (L.length ≤ 8) := Lib.hid (by omega)
 have H1 : Hid (1 ≤ L.length) := Lib.hid (by omega)
 clear hlen
 go_enter Tryz.func68, Tryz.ntmps68
 go_wp2_with fail
 with_reducible refine cR.mono ?_
 rintro e w1 ⟨rfl, g1⟩
 have HG1 := Lib.hid g1
 clear cR g1
 go_wp2_with fail
 clear hi1 hi2
 go_loopw [28] (fun i wr => ∃ k : Nat, k ≤ L.length ∧ i = .int .i64 k ∧ (∀ j x, j < k → L[j]? = some x → Dd.fitE s x = 0) ∧ Below w.heap.size w wr) (fun i _ => L.length - (intOf i).toNat)
 case atStart => exact ⟨0, Nat.zero_le _, rfl, (fun j x hj => by omega), HG1.out⟩
 case round =>
  obtain ⟨k, hk, rfl, hf, hb⟩ := hrel
  have HF := Lib.hid hf
  have HB := Lib.hid hb
  clear hf hb
  by_cases hl : k < L.length
  ·rcases HH.out with rfl | ⟨b, o, rfl, hlt, hc⟩
   ·simp at hl
   ·have hx := List.getElem?_eq_getElem hl
    generalize L[k] = d at hx
    obtain ⟨u, c0, c1, hu⟩ := hc k d hx
    have hu := hu.later HB.out
    have c0 := (HB.out.cell (p := ⟨b, o + k * 2, none⟩) hlt).trans c0
    have c1 := (HB.out.cell (p := ⟨b, o + k * 2 + 1, none⟩) hlt).trans c1
    have HU := Lib.hid hu
    obtain ⟨ua, uc, rfl, -⟩ := hu
    have hkl : (k : Int) < (L.length : Int) := by omega
    have hk0 : (0 : Int) ≤ (k : Int) := by omega
    have hk7 : (k : Int) ≤ 7 := by have := H8.out; omega
    have HX := Lib.hid hx
    have HK := Lib.hid hl
    clear hc hx hl hk
    go_upto_region 8 with (fail)
    have HB0 : Hid (Below wr.heap.size wr (wr.alloc (.cells #[.bool d.gone, .slice ua d.row.length uc] 41))) := Lib.hid ((Below.refl _ _).alloc (Nat.le_refl _) _)
    have x0 := Kn.cell_new wr #[.bool d.gone, .slice ua d.row.length uc] 41 0 _ rfl
    have x1 := Kn.cell_new wr #[.bool d.gone, .slice ua d.row.length uc] 41 1 _ rfl
    simp only [List.getElem_toArray, List.getElem_cons_zero, List.getElem_cons_succ] at x0 x1
    obtain ⟨q, hq⟩ : ∃ q, q = wr.heap.size := ⟨_, rfl⟩
    rw [← hq] at x0 x1 ⊢
    generalize wr.alloc _ = w3 at HB0 x0 x1 ⊢
    have HB3 := Lib.hid (HB.out.trans (HB0.out.mono HB.out.size))
    have cd := CD.out _ d w3 (HT.out.below HB3.out HT.out.two) (HS.out.later HB3.out) (HU.out.later HB0.out) (HI.out d (List.mem_of_getElem? HX.out))
    unfold Dd.wV at cd
    have HFE : Hid (Dd.fitE s d ≠ 0 → V = .tuple #[.string (Ty.S []), .int .i64 (Dd.fitE s d)]) := Lib.hid fun h => HV9.out.trans (Bk.wV_bad (Bk.wE_f HR.out HLN.out (Bk.first_at HX.out HF.out h) h) h)
    have HFZ : Hid (Dd.fitE s d = 0 → ∀ j x, j < k + 1 → L[j]? = some x → Dd.fitE s x = 0) := Lib.hid fun h j x hj hx => by
     rcases Nat.lt_or_ge j k with h2 | h2
     ·exact HF.out j x h2 hx
     ·obtain rfl : j = k := by omega
      rw [HX.out] at hx
      cases hx
      exact h
    generalize Dd.fitE s d = E at cd HFE HFZ
    generalize Ty.S (Dd.wS s d) = T9 at cd
    clear hq c0 c1
    go_wp2_with fail
    with_reducible refine cd.mono ?_
    rintro e w4 ⟨rfl, g4⟩
    have HB4 := Lib.hid (HB3.out.trans (g4.mono HB3.out.size))
    clear cd g4 x0 x1
    by_cases hE : E = 0
    ·subst hE
     have HFZ2 := Lib.hid (HFZ.out rfl)
     go_wp2
     go_roundw
     case rel => exact ⟨k + 1, HK.out, by simp, HFZ2.out, HB4.out⟩
     case measure => (have := HK.out; simp [intOf]; omega)
    ·have hEb : (E != 0) = true := by rw [bne_iff_ne]; exact hE
     have HX2 := Lib.hid (HFE.out hE)
     clear hE
     go_wp2
     go_ret2
     exact ⟨by rw [HX2.out]; rfl, HB4.out⟩
  ·obtain rfl : k = L.length := by omega
   have hkl : ¬ (L.length : Int) < (L.length : Int) := by omega
   have HFA : Hid (∀ d ∈ L, Dd.fitE s d = 0) := Lib.hid fun d hd => by
    obtain ⟨j, hj, rfl⟩ := List.mem_iff_getElem.1 hd
    exact HF.out j _ hj (List.getElem?_eq_getElem hj)
   have H0 := Lib.hid (Bk.firstE_0.2 HFA.out)
   have cs := CS.out wr (HV.out.later HB.out)
   clear hk hl HF
   cases hso : Bk.sorted L
   ·rw [hso] at cs
    have HE := Lib.hid (HV9.out.trans (Bk.wV_bad (Bk.wE_s HR.out HLN.out H0.out hso) (by decide)))
    clear hso
    go_wp2_with fail
    with_reducible refine cs.mono ?_
    rintro e w2 ⟨rfl, g2⟩
    have HB2 := Lib.hid (HB.out.trans (g2.mono HB.out.size))
    clear cs g2
    go_wp2
    go_ret2
    exact ⟨by rw [HE.out]; rfl, HB2.out⟩
   rw [hso] at cs
   have HE := Lib.hid (HV9.out.trans (Bk.wV_ok (Bk.wE_g HR.out HLN.out H0.out hso)))
   have hcw : ∀ j c, s[j]? = some c → Cl.wE c (Bk.col L j) = 0 := fun j c hc => Bk.col_fit HR.out H8.out HFA.out hc
   have HLE := Lib.hid (Bk.encC_len (s := s) (L := L) fun j c hc => Bk.enc_le (hcw j c hc) (Bk.col_le H8.out j))
   have HCW := Lib.hid hcw
   have HEL : Hid (∀ (j : Nat) (c : Kn.C), s[j]? = some c → (Cl.enc c (Bk.col L j)).length ≤ 1048576) := Lib.hid fun j c hc => Bk.enc_le (HCW.out j c hc) (Bk.col_le H8.out j)
   have H6 := Lib.hid (Kn.right_len HR.out)
   have CK := Lib.hid fun (j : Nat) (c9 : Kn.C) (hc : s[j]? = some c9) (wz : World) (h : Bk.Ds wz (.slice a L.length c) L) => Bk.pvalues_c _ L j H8.out (by have := (List.getElem?_eq_some_iff.1 hc).1; have := H6.out.2; omega) (Bk.col_has HFA.out hc) wz h
   have CW := Lib.hid fun (j : Nat) (c : Kn.C) (hc : s[j]? = some c) (u : Value) (wz : World) (h1 : Ty.Tabs wz) (h : Kn.Vals wz u (Bk.col L j)) => Cl.write_c c u (Bk.col L j) wz h1 h (Bk.col_i64 HFA.out HI.out hc)
   have HBL : Hid ((Bk.bools L).length = 1) := Lib.hid (by rw [Bk.bools_one H1.out H8.out]; rfl)
   have HPN : Hid (∀ (k : Nat) (c : Kn.C), s[k]? = some c → Bk.pre s L (k + 1) = Bk.pre s L k ++ encT (Cl.enc c (Bk.col L k))) := Lib.hid fun k c h => Bk.pre_next h L
   have hwk : IntKind.u64.wrap (L.length : Int) = (L.length : Int) := by rw [IntKind.wrap_u64]; have := H8.out; omega
   have HWK := Lib.hid hwk
   obtain ⟨R, hdr, -⟩ := HV.out.dr
   have HDR := Lib.hid hdr
   clear hso hcw hwk hdr CD CS
   go_wp2_with fail
   with_reducible refine cs.mono ?_
   rintro e w2 ⟨rfl, g2⟩
   have HB2 := Lib.hid (HB.out.trans (g2.mono HB.out.size))
   have hw9 := HWK.out
   have cu := Ty.uintNil (L.length : Int) (by omega) (show Ty.U64 ((L.length : Int)).toNat by rw [Int.toNat_natCast]; unfold Ty.U64; have := H8.out; omega) w2 (HT.out.below HB2.out HT.out.two)
   rw [Int.toNat_natCast] at cu
   clear cs g2 hkl
   go_wp2_with fail
   with_reducible refine cu.mono ?_
   rintro e w3 ⟨v3, rfl, hO3, hT3, g3⟩
   have HB3 := Lib.hid (HB2.out.trans (g3.mono HB2.out.size))
   have HG3 := Lib.hid g3
   have HO3 := Lib.hid hO3
   have cf := Bk.pflags_c _ L R w3 (HDR.out.later HB3.out) H8.out
   clear cu hO3 hT3 g3 hw9
   go_wp2_with fail
   with_reducible refine cf.mono ?_
   rintro e w4 ⟨u4, rfl, hS4, g4⟩
   have HG4 := Lib.hid (HG3.out.trans (g4.mono HG3.out.size))
   have HO4 := Lib.hid (HO3.out.later g4)
   have ct := Bt.truths_c u4 L.length (Bk.gones L) w4 hS4 (Nat.le_trans H8.out (by decide))
   clear cf hS4 g4
   go_wp2_with fail
   with_reducible refine ct.mono ?_
   rintro e w5 ⟨rfl, g5⟩
   have HG5 := Lib.hid (HG4.out.trans (g5.mono HG4.out.size))
   have hO5 := HO4.out.later g5
   have hws5 : w2.heap.size ≤ w5.heap.size := HG5.out.size
   have hroom : (Ty.encU L.length).length + (Bt.bytes (Bt.need L.length) (Bt.tr L.length (Bk.gones L))).size ≤ 140737488355328 := by
    have h1 := Ty.encU_len9 L.length
    have h2 : (Bt.bytes (Bt.need L.length) (Bt.tr L.length (Bk.gones L))).data.toList.length = 1 := HBL.out
    rw [Ty.length_data] at h2
    omega
   have HPS : Hid (Ty.encU L.length ++ (Bt.bytes (Bt.need L.length) (Bt.tr L.length (Bk.gones L))).data.toList = Bk.pre s L 0) := Lib.hid (Bk.pre_start s L).symm
   clear ct g5
   generalize Ty.encU L.length = B1 at hO5 hroom HPS
   generalize Bt.bytes (Bt.need L.length) (Bt.tr L.length (Bk.gones L)) = B2 at hroom HPS ⊢
   go_wp2_with (at_builtin; refine Ty.wpList_append_text hO5 hws5 hroom (.tmp 49) (.tmp 52) rfl rfl rfl rfl ?_; intro v6 w6 h6 g6)
   have HB6 := Lib.hid (HG5.out.trans (g6.below hws5 hO5.base))
   rw [HPS.out] at h6
   have HO6 := Lib.hid h6
   clear h6 g6 hO5 hroom hws5 HO3 HO4
   go_wp2_with fail
   go_loopw [10, 56] (fun out i wr2 => ∃ k : Nat, k ≤ s.length ∧ i = .int .i64 k ∧ Ty.Buf w2.heap.size wr2 out (Bk.pre s L k) ∧ Below w2.heap.size w2 wr2) (fun _ i _ => s.length - (intOf i).toNat)
   case atStart => exact ⟨0, Nat.zero_le _, rfl, HO6.out, HB6.out⟩
   case round =>
    obtain ⟨k, hkl, rfl, hO, hb⟩ := hrel
    have HO7 := Lib.hid hO
    have HB7 := Lib.hid hb
    have hpl : (Ty.S (Bk.pre s L k)).size ≤ 6291520 := Bk.pre_size HBL.out (HLE.out k hkl) (Nat.le_trans hkl H6.out.2)
    have HPL := Lib.hid hpl
    clear hpl hO
    by_cases hlt : k < s.length
    ·rcases HSA.out with rfl | ⟨b, o, rfl, hbl, hm, hc⟩
     ·simp at hlt
     ·have hx := List.getElem?_eq_getElem hlt
      generalize s[k] = cc at hx
      have HB8 := Lib.hid (HB2.out.trans (HB7.out.mono HB2.out.size))
      have c0 := (HB8.out.cell (p := ⟨b, o + k * 2, none⟩) hbl).trans (hc k cc hx).1
      have c1 := (HB8.out.cell (p := ⟨b, o + k * 2 + 1, none⟩) hbl).trans (hc k cc hx).2
      have dk : (k : Int) < (s.length : Int) := by omega
      have dk0 : (0 : Int) ≤ (k : Int) := by omega
      have dk6 : (k : Int) ≤ 6 := by have := H6.out.2; omega
      have HK := Lib.hid hlt
      have CK2 := Lib.hid (CK.out k cc hx)
      have hCW : ∀ u wz, Ty.Tabs wz → Kn.Vals wz u (Bk.col L k) → Calls Tryz.prog 99 #[.agg #[.int .i64 cc.k, .bool cc.null], u] wz fun e w' => e = .returned (.tuple #[.string (Ty.S (Cl.enc cc (Bk.col L k))), .int .i64 0]) ∧ Below wz.heap.size wz w' := fun u wz ht h => by
       have := CW.out k cc hx u wz ht h
       rw [Cl.wV_ok (HCW.out k cc hx)] at this
       exact this
      have HE1 := HEL.out k cc hx
      have HP1 := HPN.out k cc hx
      generalize Cl.enc cc (Bk.col L k) = E at hCW HE1 HP1
      have CW2 := Lib.hid hCW
      have HPR := Lib.hid HP1
      have HE9 : Hid ((Ty.S E).size ≤ 1048576) := Lib.hid (by rw [Ty.size_S]; exact HE1)
      have HEE : Hid (encT E = Ty.encU (Ty.S E).size ++ (Ty.S E).data.toList) := Lib.hid rfl
      generalize cc.k = ck at c0 CW2
      generalize cc.null = cn at c1 CW2
      clear HE1 HP1 hCW hc hx hlt hkl hb hm
      go_upto_region 19 with (fail)
      have HBX : Hid (Below wr.heap.size wr (wr.alloc (.cells #[.int .i64 ck, .bool cn] 76))) := Lib.hid ((Below.refl _ _).alloc (Nat.le_refl _) _)
      have x0 := Kn.cell_new wr #[.int .i64 ck, .bool cn] 76 0 _ rfl
      have x1 := Kn.cell_new wr #[.int .i64 ck, .bool cn] 76 1 _ rfl
      simp only [List.getElem_toArray, List.getElem_cons_zero, List.getElem_cons_succ] at x0 x1
      have hsz : (wr.alloc (.cells #[.int .i64 ck, .bool cn] 76)).heap.size = wr.heap.size + 1 := World.size_alloc ..
      obtain ⟨q, hq⟩ : ∃ q, q = wr.heap.size := ⟨_, rfl⟩
      rw [← hq] at x0 x1 ⊢
      generalize wr.alloc _ = w8 at HBX x0 x1 hsz ⊢
      have hq8 : q < w8.heap.size := by omega
      have HQ8 := Lib.hid hq8
      have HB9 := Lib.hid (HB7.out.trans (HBX.out.mono HB7.out.size))
      have HO9 := Lib.hid (HO7.out.later HBX.out)
      have HHS : Hid (∀ W, Below w8.heap.size w8 W → W.cell? ⟨q, 0, none⟩ = some (.int .i64 ck) ∧ W.cell? ⟨q, 1, none⟩ = some (.bool cn)) := Lib.hid fun W g => ⟨(g.cell (p := ⟨q, 0, none⟩) hq8).trans x0, (g.cell (p := ⟨q, 1, none⟩) hq8).trans x1⟩
      have HDW : Hid (Below w8.heap.size w8 w8.drew) := Lib.hid (Bt.drewN_below w8 1)
      have HW9 := Lib.hid (HB2.out.trans ((HB9.out.trans (HDW.out.mono HB9.out.size)).mono HB2.out.size))
      have HVD := Lib.hid (HV.out.later HW9.out)
      have HTT : Hid (∀ W, Below w8.drew.heap.size w8.drew W → Ty.Tabs W) := Lib.hid fun W g => HT.out.below (HW9.out.trans (g.mono HW9.out.size)) HT.out.two
      clear hq c0 c1 x0 x1 hsz hq8 HB7 HO7
      go_region_held3 (fun W => W.cell? ⟨q, 0, none⟩ = some (.int .i64 ck) ∧ W.cell? ⟨q, 1, none⟩ = some (.bool cn))
       (first
        | exact HHS.out _ HDW.out
        | exact HHS.out _ (HDW.out.trans (g5.mono HDW.out.size))
        | exact HHS.out _ (HDW.out.trans ((g5.trans (g6.mono g5.size)).mono HDW.out.size)))
       (first
        | (go_at_call 100; (with_reducible refine (CK2.out _ HVD.out).mono ?_); rintro e w5 ⟨u, rfl, hu, g5⟩)
        | (go_at_call 99; (with_reducible refine (CW2.out u _ (HTT.out _ g5) hu).mono ?_); rintro e w6 ⟨rfl, g6⟩))
      have hg6 := HDW.out.trans ((g5.trans (g6.mono g5.size)).mono HDW.out.size)
      have HG6 := Lib.hid (HB9.out.trans (hg6.mono HB9.out.size))
      have HO10 := Lib.hid (HO9.out.later hg6)
      have ct := Ty.text_c w2.heap.size _ (Bk.pre s L k) (Ty.S E) _ (HT.out.below (HB2.out.trans (HG6.out.mono HB2.out.size)) HT.out.two) HO10.out HG6.out.size (by have := HPL.out; rw [Ty.size_S] at this; have := HE9.out; omega)
      rw [List.append_assoc, ← HEE.out, ← HPR.out] at ct
      clear hu g5 g6 hg6
      go_wp2_with fail
      with_reducible refine ct.mono ?_
      rintro e w7 ⟨v7, rfl, hO7, g7⟩
      have HO7 := Lib.hid hO7
      have HB7 := Lib.hid (HG6.out.trans (g7.below HG6.out.size HO10.out.base))
      clear ct hO7 g7
      go_wp2
      go_roundw
      case rel => exact ⟨k + 1, HK.out, by simp, HO7.out, HB7.out⟩
      case measure =>
       simp [intOf]
       exact Bk.meas2 HK.out
    ·obtain rfl : k = s.length := by omega
     have dk : ¬ (s.length : Int) < (s.length : Int) := by omega
     rw [Bk.pre_all] at HO7
     have hcv := HO7.out.str
     clear hlt hkl hb HPL
     go_wp2
     go_ret2
     exact ⟨by rw [HE.out]; rfl, HB2.out.trans (HB7.out.mono HB2.out.size)⟩
end Go.Proofs.YtbelkhkllneifaaGreatDoor
