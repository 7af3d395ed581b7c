/-
  The document's answers for package texts: pick, where the bytes are there.
  The document's answers for package texts: pick, Read.
-/
import Derived.Test.YtcognkgabdaneaaGreatDoorQC
import Derived.Deep.RegionHeld3
import Derived.Deep.OwnRows
namespace Go.Proofs.YtcognkgabdaneaaGreatDoor
open Go.RowKit
open Ty (encU num txt)
open Tx (rdPick outs)
/-- The marks as cells. -/
def Tx.mv (X : Nat → Nat) (k j : Nat) : Value := .bool (Tx.mark X k j)
theorem Tx.row_by {w w' : World} {g n : Nat} {t : TypeId} {f : Nat → Value} (h : w.rowIs g t n f) {r : Option Nat} (hg : w.grownBy w' r) (hne : some g ≠ r) : w'.rowIs g t n f :=
  h.of_block (hg.block g h.lt hne)
theorem Tx.row_mark {w : World} {g n k : Nat} {X : Nat → Nat} (h : w.rowIs g 4 n (Tx.mv X k)) : (w.setCell ⟨g, X k, none⟩ (.bool true)).rowIs g 4 n (Tx.mv X (k + 1)) :=
  (World.rowIs.set h (X k) (.bool true)).congr fun i _ => by
    unfold Tx.mv
    by_cases e : i = X k
    · rw [e, Tx.mark_self]; simp
    · rw [Tx.mark_other X k i (fun e2 => e e2.symm), if_neg e]
/-- No number lies in the cursor. -/
theorem Tx.rc_ne {r b o a e : Nat} {w : World} {s : ByteArray} {x : Int} (h : Ty.RC r w s a e) (hc : w.cell? ⟨b, o, none⟩ = some (.int .u64 x)) : b ≠ r := by
  intro e
  subst e
  unfold Ty.RC at h
  unfold World.cell? at hc
  simp only [h] at hc
  match o, hc with
  | 0, hc => simp at hc
  | 1, hc => simp at hc
  | 2, hc => simp at hc
  | o + 3, hc => simp at hc
theorem Tx.sl_rc {r a e n : Nat} {w w' : World} {s : ByteArray} {v : Value} {X : Nat → Nat} (h : Bt.Sl w v n (Bt.nv X)) (hr : Ty.RC r w s a e) (hg : w.grownBy w' (some r)) : Bt.Sl w' v n (Bt.nv X) := by
  obtain ⟨a', c', ev, h⟩ := h
  refine ⟨a', c', ev, ?_⟩
  rcases h with h | ⟨b, o, ea, hlt, h⟩
  · exact .inl h
  · by_cases hn : n = 0
    · exact .inl hn
    · have h0 := h 0 (by omega)
      have hne := Tx.rc_ne hr h0
      refine .inr ⟨b, o, ea, Nat.lt_of_lt_of_le hlt hg.size, fun i hi => ?_⟩
      rw [← h i hi]
      unfold World.cell?
      simp only [hg.block b hlt (fun e => hne (Option.some.inj e))]
theorem Tx.by_new {w0 w : World} {r g i : Nat} (h : w0.grownBy w (some r)) (hg : w0.heap.size ≤ g) (u : Value) : w0.grownBy (w.setCell ⟨g, i, none⟩ u) (some r) :=
  ⟨h.os, h.tape, h.output, by have := h.size; simpa [World.setCell] using this, fun j hj hn => (Below.heap_setCell _ _ _ _ (by show j ≠ g; omega)).trans (h.block j hj hn)⟩
theorem Tx.At.str {B n c : Nat} {w : World} {a : Option Addr} {L : List Tx.Str} (h : Tx.At B w (.slice a n c) L) {k : Nat} (hk : k < L.length) : ∃ b o, a = some ⟨b, o, none⟩ ∧ w.cell? ⟨b, o + k, none⟩ = some (.string (Ty.S (L.getD k []))) := by
  obtain ⟨a', c', e, _, _, h⟩ := h
  simp only [Value.slice.injEq] at e
  rcases h with ⟨h, _⟩ | ⟨b, o, ea, _, h⟩
  · rw [h] at hk; simp at hk
  · exact ⟨b, o, e.1.trans ea, h k hk⟩
/-- One more value appended, where the block's number is told otherwise. -/
theorem Tx.wpList_append_at (e t : TypeId) (z : Value) (by_ : Nat) (hu : Tryz.prog.underlying t = some (.slice e)) (hinfo : (Tryz.prog.info? e).map (fun i => (i.zero, i.size, i.bytes)) = some (some z, 1, by_)) (hz : z.cells.size = 1)
    {base : Nat} {w0 : World} {v : Value} {n B : Nat} {f : Nat → Value} (hown : Bt.Buf e base w0 v n f) (hb : base ≤ w0.heap.size) (hl : (n + 1) * by_ ≤ 140737488355328) (hl2 : n + 1 ≤ 140737488355328)
    {ops : Array Oper} {rest : List Oper} {o : Oper} {a : Act} {Q : Exit → Act → World → Prop} (s x : Operand) (u : Value) (hu1 : u.oneCell' = true) (hgd : o.guard = none)
    (ho : o.op = .call { callee := .builtin .append, args := #[s, x], argTypes := #[t, t] })
    (hs : a.eval s = v) (hx : a.eval x = .slice (some ⟨B, 0, none⟩) 1 1) (hB : B = w0.heap.size)
    (h : ∀ v' w', (u = f n → Bt.Buf e base w' v' (n + 1) f) → Ty.Grew w0 w' v v' → wpList Tryz.prog ops Q rest (a.put o.dst v') w') :
    wpList Tryz.prog ops Q (o :: rest) a (w0.alloc (.cells #[u] e)) :=
  Bt.wpList_append_one e t z by_ hu hinfo hz hown hb hl hl2 s x u hu1 hgd ho hs (hB ▸ hx) h
set_option maxHeartbeats 4000000 in
set_option maxRecDepth 100000 in
theorem Tx.rpick_main (r : Nat) (s : ByteArray) (hs : s.size ≤ 140737488351232) (n : Nat) (hn : n ≤ 65536) (vd : Value) (d : List Tx.Str) (hdl : d.length ≤ 65536) (x : UInt8) (t : List UInt8) (w : World) (hd : Tx.At w.heap.size w vd d) (hdr : ∀ w' : World, w.grownBy w' (some r) → Tx.At w'.heap.size w' vd d) (h : Ty.RS r s w (x :: t) 0) (h64 : ¬ 64 < x.toNat) (hss : ¬ t.length < Bt.need (n * x.toNat)) :
    Calls Tryz.prog 80 #[.pointer (some ⟨r, 0, none⟩), .int .i64 n, vd] w (Tx.RRd r s w (rdPick n d (x :: t))) := by
  have hrw := Tx.RS_lt h
  have cb := Tx.rbyte_x r s hs x t w h
  have F4 := Lib.hid (fun h3 => Tx.rdPk4 (d := d) h64 hss h3)
  have F5 := Lib.hid (fun h3 h4 => Tx.rdPk5 (d := d) h64 hss h3 h4)
  have F6 := Lib.hid (fun h3 h4 => Tx.rdPk6 (d := d) h64 hss h3 h4)
  obtain ⟨T, hT⟩ : ∃ T, T = rdPick n d (x :: t) := ⟨_, rfl⟩
  rw [← hT] at F4 F5 F6 ⊢
  obtain ⟨q, hq⟩ : ∃ q, q = x.toNat := ⟨_, rfl⟩
  rw [← hq] at cb h64 hss F4 F5 F6
  have hmul := Bt.mul_le n q (by omega)
  obtain ⟨m, hm⟩ : ∃ m, n * q = m := ⟨_, rfl⟩
  have hmi : (n : Int) * (q : Int) = (m : Int) := by rw [← hm]; simp
  have hmm : m ≤ 4194304 := by omega
  have hnd := Tx.need_is hm
  obtain ⟨sz, hsz⟩ : ∃ sz, sz = Bt.need (n * q) := ⟨_, rfl⟩
  rw [← hsz] at hnd hss F4 F5 F6
  have hsz2 : sz ≤ 524289 := by rw [hsz, hm]; unfold Bt.need; omega
  have hq64i : ¬ (64 : Int) < (q : Int) := by omega
  have hlt : ¬ (t.length : Int) < (sz : Int) := by omega
  have hts : (Ty.S (t.take sz)).size ≤ 140737488355328 := by rw [Ty.size_S, List.length_take]; omega
  have cun := fun wz => Bt.runpack_c (Ty.S (t.take sz)) (n : Int) (q : Int) wz hts
  have e3 : Bt.upE (Ty.S (t.take sz)) (n : Int) (q : Int) = Bt.chk (Ty.S (t.take sz)) (n * q) := by unfold Bt.upE; rw [if_pos ⟨by omega, by omega⟩]; rfl
  have e4 : Bt.upN (Ty.S (t.take sz)) (n : Int) (q : Int) = if Bt.chk (Ty.S (t.take sz)) (n * q) = 0 then n else 0 := by unfold Bt.upN; rw [e3]; rfl
  rw [e3, e4, Int.toNat_natCast] at cun
  have HEX : Hid (∀ a, s.data.toList.drop a = t → s.extract a (a + sz) = Ty.S (t.take sz)) := Lib.hid fun a h => by rw [Ty.extract_S, h, Nat.add_sub_cancel_left]
  have HDR : Hid (∀ a, s.data.toList.drop a = t → s.data.toList.drop (a + sz) = t.drop sz) := Lib.hid fun a h => by rw [Ty.drop_at, h]
  have HTL : Hid (∀ a, a ≤ s.size → s.data.toList.drop a = t → a + sz ≤ s.size) := Lib.hid fun a ha h => by
    have := congrArg List.length h
    rw [Ty.len_drop] at this
    omega
  have hX : ∀ i, Bt.nums (Ty.S (t.take sz)) q i < 2 ^ 64 := fun i => Nat.lt_of_lt_of_le (Bt.num_lt q _) (Nat.pow_le_pow_right (by decide) (by omega))
  have HUN : Hid (Ig.un (Ty.S (t.take sz)) q = Bt.nums (Ty.S (t.take sz)) q) := Lib.hid rfl
  rw [HUN.out] at F5 F6
  generalize Bt.nums (Ty.S (t.take sz)) q = X at cun F5 F6 hX HUN
  generalize Ty.S (t.take sz) = b at cun F4 F5 F6 HEX HUN
  generalize t.drop sz = l9 at F6 HDR
  have HX := Lib.hid hX
  have HD := Lib.hid hdr
  have cl := fun wz (hc : Ty.RS r s wz t 0) => Ty.rleft_m r s hs t 0 wz hc
  generalize Bt.chk b (n * q) = C at cun F4 F5 F6
  clear h h64 hss hsz hm hq hmul hT e3 e4 hts HUN hX hdr
  obtain ⟨ad, cd, rfl, hcd, _, hd0⟩ := hd
  clear hd0
  go_enter Tryz.func80, Tryz.ntmps80
  go_wp2_with fail
  refine cb.mono ?_
  rintro e w4 ⟨rfl, hc4, hg4⟩
  have he4 := Tx.RS_err hc4
  simp only [Int.natCast_zero] at he4
  have HG4 := Lib.hid hg4
  have cl4 := cl _ hc4
  clear cb hc4 hg4 cl
  go_wp2_with fail
  refine cl4.mono ?_
  rintro e w5 ⟨rfl, hc5, hg5⟩
  have HG5 := Lib.hid (Ty.by_trans HG4.out hg5)
  obtain ⟨a, ha, hla, hR⟩ := hc5
  obtain ⟨c0, c1, c2, f1, _⟩ := hR.cells
  have HR := Lib.hid hR
  have hex := HEX.out a hla
  have HDA := Lib.hid (HDR.out a hla)
  have hta := HTL.out a ha hla
  have w1' : IntKind.i64.wrap ((a : Int) + (sz : Int)) = (a : Int) + (sz : Int) := IntWalk.i64_in _ (by omega)
  have z1 : 0 ≤ (a : Int) := by omega
  have z2 : (a : Int) ≤ (a : Int) + (sz : Int) := by omega
  have z3 : (a : Int) + (sz : Int) ≤ (s.size : Int) := by omega
  have t2 : ((a : Int) + (sz : Int)).toNat = a + sz := by omega
  have HLA := Lib.hid hla
  have HDW : Hid (Below w5.heap.size w5 w5.drew) := Lib.hid (Bt.drewN_below w5 1)
  have HSA : Hid (∀ W, Below w5.heap.size w5 W → W.cell? ⟨r, 0, none⟩ = some (.string s) ∧ W.cell? ⟨r, 1, none⟩ = some (.int .i64 (a : Int))) := Lib.hid fun W g => by
    obtain ⟨d0, d1, _⟩ := (hR.below g hR.lt).cells
    exact ⟨d0, d1⟩
  clear cl4 hg5 he4 hla hR HEX HDR HTL
  go_wp2_with fail
  go_region_held3 (fun wx => wx.cell? ⟨r, 0, none⟩ = some (.string s) ∧ wx.cell? ⟨r, 1, none⟩ = some (.int .i64 (a : Int)))
    (first
      | exact HSA.out _ HDW.out
      | exact HSA.out _ (HDW.out.trans (g8.mono HDW.out.size)))
    (first
      | (go_at_call 103; (with_reducible refine (cun _).mono ?_); rintro e w8 ⟨v8, rfl, hS8, g8⟩))
  have hb8 : Below w5.heap.size w5 w8 := (Bt.drewN_below w5 1).trans g8
  have HG8 := Lib.hid (Tx.below_by hb8 HG5.out)
  have hR8 := HR.out.below hb8 HR.out.lt
  clear cun g8 hb8 c0 c1 c2 f1 hex w1' z1 z2 z3 t2
  by_cases hck : C = 0
  · subst hck
    rw [if_pos rfl] at hS8
    simp only [Int.natCast_zero]
    have G5 := Lib.hid (F5.out (by trivial))
    have G6 := Lib.hid (F6.out (by trivial))
    have ec : (a : Int) + (sz : Int) = ((a + sz : Nat) : Int) := by omega
    have hSa := Tx.sl_rc hS8 hR8 (Ty.by_set w8 r 1 (.int .i64 ((a : Int) + (sz : Int))))
    have hRa : Ty.RS r s (w8.setCell ⟨r, 1, none⟩ (.int .i64 ((a : Int) + (sz : Int)))) l9 0 := ⟨a + sz, hta, HDA.out, by rw [ec]; exact Ty.rc_set1 hR8⟩
    have hba : w.grownBy (w8.setCell ⟨r, 1, none⟩ (.int .i64 ((a : Int) + (sz : Int)))) (some r) := Ty.by_trans HG8.out (Ty.by_set _ _ _ _)
    have hsa : (w8.setCell ⟨r, 1, none⟩ (.int .i64 ((a : Int) + (sz : Int)))).heap.size = w8.heap.size := by simp [World.setCell]
    obtain ⟨c0, c1, c2, f1, _⟩ := hR8.cells
    have w1' : IntKind.i64.wrap ((a : Int) + (sz : Int)) = (a : Int) + (sz : Int) := IntWalk.i64_in _ (by omega)
    have hmk := run_make_row' (P := Tryz.prog) 44 4 (.bool false) 1 Tryz.underlying44 Bt.infoB rfl .i64 .i64 d.length (by omega) (by omega)
    have HHS := Lib.hid hS8
    have HSA2 := Lib.hid hSa
    have HRA := Lib.hid hRa
    have HBA := Lib.hid hba
    have HSZ := Lib.hid hsa
    obtain ⟨a8, c8, rfl, h8⟩ := hS8
    clear F4 F5 F6 h8 hR8 hSa hRa hba hsa ec
    go_wp2_with fail
    have hs8 := HBA.out.size
    generalize w8.setCell ⟨r, 1, none⟩ (.int .i64 ((a : Int) + (sz : Int))) = wa at HSA2 HRA HBA HSZ hs8 ⊢
    have hRw : (wa.alloc (.cells (madeCells #[.bool false] d.length) 4)).rowIs wa.heap.size 4 d.length (Tx.mv X 0) := (World.rowIs_made wa (.bool false) d.length 4).congr fun i _ => by unfold Tx.mv; rw [Tx.mark_zero]
    have hB : Below wa.heap.size wa (wa.alloc (.cells (madeCells #[.bool false] d.length) 4)) := (Below.refl _ _).alloc (Nat.le_refl _) _
    generalize wa.alloc (.cells (madeCells #[.bool false] d.length) 4) = w9 at hRw hB ⊢
    have hsz9 := HSZ.out
    rw [hsz9] at hRw hB hs8
    generalize hg : w8.heap.size = g at hRw hB hs8 hsz9
    have HGE := Lib.hid hg
    have HGA := Lib.hid hsz9
    clear hmk hg hsz9 c0 c1 c2 f1 w1' HHS HSZ
    go_loopw [13, 14] (fun ov i wr => ∃ k : Nat, k ≤ n ∧ i = .int .i64 k ∧ (∀ j, j < k → X j < d.length) ∧ wr.rowIs g 4 d.length (Tx.mv X k) ∧ Tx.Own (g + 1) wr ov (outs k d X) ∧ Below g wa wr) (fun _ i _ => n - (intOf i).toNat)
    case atStart => exact ⟨0, by omega, rfl, (fun j hj => by omega), hRw, Tx.Own.nil _ _, hB⟩
    case round =>
      obtain ⟨k, hk, rfl, hxs, hRk, hO, hBk⟩ := hrel
      have HXS := Lib.hid hxs
      have HRK := Lib.hid hRk
      have HO := Lib.hid hO
      have HBK := Lib.hid hBk
      have hgw := hRk.lt
      have hba : Below wa.heap.size wa wr := by rw [HGA.out]; exact hBk
      have HBR := Lib.hid (Tx.below_by hba HBA.out)
      have HSR := Lib.hid (HSA2.out.later hba)
      have HRR := Lib.hid (Tx.RS_below HRA.out hba (Tx.RS_lt HRA.out))
      clear hRw hB hxs hRk hO hBk hba
      have hk0 : (0 : Int) ≤ (k : Int) := by omega
      by_cases hkn : k < n
      · have hki : (k : Int) < (n : Int) := by omega
        obtain ⟨b2, o2, rfl, hb2g, hcell⟩ : ∃ b2 o2, a8 = some ⟨b2, o2, none⟩ ∧ b2 < g ∧ wr.cell? ⟨b2, o2 + k, none⟩ = some (.int .u64 ((X k : Nat) : Int)) := by
          obtain ⟨a', c', ev, h⟩ := HSA2.out
          simp only [Value.slice.injEq] at ev
          rcases h with h | ⟨b2, o2, ea, hlt, h⟩
          · omega
          · have hlt2 : b2 < g := by have := HGA.out; omega
            exact ⟨b2, o2, ev.1.trans ea, hlt2, (HBK.out.cell (p := ⟨b2, o2 + k, none⟩) hlt2).trans (h k hkn)⟩
        by_cases hxd : X k < d.length
        · obtain ⟨b3, o3, rfl, hcd⟩ := (HD.out wr HBR.out).str hxd
          have hcd2 : ∀ u, (wr.setCell ⟨g, X k, none⟩ u).cell? ⟨b3, o3 + X k, none⟩ = some (.string (Ty.S (d.getD (X k) []))) := fun u => by
            obtain ⟨b4, o4, e4, h4⟩ := (HD.out _ (Tx.by_new (i := X k) HBR.out hs8 u)).str hxd
            simp only [Option.some.injEq, Addr.mk.injEq, and_true] at e4
            obtain ⟨rfl, rfl⟩ := e4
            exact h4
          have hcell2 : ∀ u, (wr.setCell ⟨g, X k, none⟩ u).cell? ⟨b2, o2 + k, none⟩ = some (.int .u64 ((X k : Nat) : Int)) := fun u => by
            have e : (wr.setCell ⟨g, X k, none⟩ u).heap[b2]? = wr.heap[b2]? := Below.heap_setCell _ _ _ _ (by show b2 ≠ g; omega)
            rw [← hcell]
            unfold World.cell?
            simp only [e]
          have hf := HRK.out.frozen (X k)
          have hcl := HRK.out.cell hxd
          have HRN := Lib.hid (Tx.row_mark (k := k) HRK.out)
          have hO2 : Tx.Own (g + 1) (wr.setCell ⟨g, X k, none⟩ (.bool true)) _ (outs k d X) := Tx.buf_by HO.out (Ty.by_set wr g (X k) (.bool true)) (Nat.lt_succ_self g)
          have hB2 : Below g wa (wr.setCell ⟨g, X k, none⟩ (.bool true)) := HBK.out.trans (Bt.below_set (Nat.le_refl _) _)
          have hs2 : g + 1 ≤ (wr.setCell ⟨g, X k, none⟩ (.bool true)).heap.size := by simp [World.setCell]; omega
          have HON := Lib.hid (Tx.outs_next k d X)
          have HOL := Lib.hid (Tx.outs_len k d X)
          have HXN : Hid (∀ j, j < k + 1 → X j < d.length) := Lib.hid fun j hj => by
            by_cases e : j = k
            · rw [e]; exact hxd
            · exact HXS.out j (by omega)
          obtain ⟨y, hy⟩ : ∃ y, y = d.getD (X k) [] := ⟨_, rfl⟩
          rw [← hy] at hcd hcd2 HON
          have HYS : Hid (Value.string (Ty.S y) = Tx.sv (outs k d X ++ [y]) (outs k d X).length) := Lib.hid (Tx.sv_snoc _ _)
          generalize Ty.S y = ys at hcd hcd2 HYS
          have HO2 := Lib.hid (hO2.pre y)
          have HB2 := Lib.hid hB2
          have hl16 : ((outs k d X).length + 1) * 16 ≤ 140737488355328 := by rw [HOL.out]; omega
          have hl17 : (outs k d X).length + 1 ≤ 140737488355328 := by rw [HOL.out]; omega
          obtain ⟨x', hx'⟩ : ∃ x', x' = X k := ⟨_, rfl⟩
          rw [← hx'] at hcell hcell2 hcd hcd2 hf hcl hxd hs2 HRN HO2 HB2
          have hxi : (x' : Int) < (d.length : Int) := by omega
          have hxi2 : ¬ (d.length : Int) ≤ (x' : Int) := by omega
          have hx0 : (0 : Int) ≤ (x' : Int) := by omega
          have hdl2 : (d.length : Int) ≤ 65536 := by omega
          clear hO2 hB2 hx' hy hxd
          go_wp2_with (at_builtin; refine Tx.wpList_append_at 9 74 (.string ⟨#[]⟩) 16 Tryz.underlying74 Tx.infoS rfl HO2.out hs2 hl16 hl17 (.tmp 92) (.tmp 100) _ rfl rfl rfl rfl rfl (by simp [World.setCell]) ?_; intro v6 w6 h6 g6)
          have H6 := Lib.hid (Tx.Own.post (h6 HYS.out))
          have HR6 := Lib.hid (Tx.row_by HRN.out g6.by_ (fun e => by have := Bt.Buf.base_le HO2.out g e.symm; omega))
          have HB6 := Lib.hid (HB2.out.trans (g6.below (by omega) (fun j hj => by have := Bt.Buf.base_le HO2.out j hj; omega)))
          clear h6 g6
          go_roundw
          case rel => exact ⟨k + 1, by omega, by simp, HXN.out, HR6.out, by rw [HON.out]; exact H6.out, HB6.out⟩
          case measure => simp [intOf]; omega
        · have HBD : Hid (T.1 = 4) := Lib.hid (G5.out fun hr => hxd ((Tx.right_iff.1 hr).1 k hkn))
          have hxi : (d.length : Int) ≤ ((X k : Nat) : Int) := by omega
          obtain ⟨x', hx'⟩ : ∃ x', x' = X k := ⟨_, rfl⟩
          rw [← hx'] at hcell hxi
          clear hx' hxd
          go_wp2_with fail
          go_ret2
          exact Tx.RRd.bad (by rw [HBD.out]; rfl) (by rw [HBD.out]; decide) HBR.out
      · obtain rfl : k = n := by omega
        have hki : ¬ (k : Int) < (k : Int) := by omega
        go_wp2_with fail
        go_loopw [15] (fun i wz => ∃ j : Nat, j ≤ d.length ∧ i = .int .i64 j ∧ (∀ p, p < j → Tx.mark X k p = true) ∧ wz = wr) (fun i _ => d.length - (intOf i).toNat)
        case atStart => exact ⟨0, by omega, rfl, (fun p hp => by omega), rfl⟩
        case round =>
          obtain ⟨j, hj, rfl, hms, rfl⟩ := hrel
          have HMS := Lib.hid hms
          clear hms
          have hj0 : (0 : Int) ≤ (j : Int) := by omega
          by_cases hjd : j < d.length
          · have hji : (j : Int) < (d.length : Int) := by omega
            have hcl := HRK.out.cell hjd
            unfold Tx.mv at hcl
            cases hmk2 : Tx.mark X k j
            · have HBD : Hid (T.1 = 4) := Lib.hid (G5.out fun hr => by
                have := (Tx.right_iff.1 hr).2.1 j hjd
                rw [hmk2] at this
                cases this)
              rw [hmk2] at hcl
              clear hmk2
              go_wp2_with fail
              go_ret2
              exact Tx.RRd.bad (by rw [HBD.out]; rfl) (by rw [HBD.out]; decide) HBR.out
            · have HMK := Lib.hid hmk2
              rw [hmk2] at hcl
              clear hmk2
              go_wp2_with fail
              go_roundw
              case rel => exact ⟨j + 1, by omega, by simp, (fun p hp => by
                by_cases e : p = j
                · rw [e]; exact HMK.out
                · exact HMS.out p (by omega)), by trivial⟩
              case measure => simp [intOf]; omega
          · have hji : ¬ (j : Int) < (d.length : Int) := by omega
            have cwd := Bt.rwidth_c _ k X _ HSR.out HX.out (by omega)
            by_cases hwq : Bt.wid k X = q
            · have HT := Lib.hid (G6.out (Tx.right_iff.2 ⟨HXS.out, (fun p hp => HMS.out p (by omega)), hwq⟩))
              rw [hwq] at cwd
              have hqq : ((q : Int) != (q : Int)) = false := by simp
              clear hwq
              go_wp2_with fail
              refine cwd.mono ?_
              rintro e w10 ⟨rfl, rfl⟩
              clear cwd
              go_wp2
              go_ret2
              refine Tx.RRd.good (by rw [HT.out]) ?_ (by rw [HT.out]; exact HRR.out) HBR.out
              rw [HT.out]
              exact Tx.Own.mono HO.out (by omega)
            · have HBD : Hid (T.1 = 4) := Lib.hid (G5.out fun hr => hwq (Tx.right_iff.1 hr).2.2)
              have hqq : (((Bt.wid k X : Nat) : Int) != (q : Int)) = true := by rw [bne_iff_ne]; omega
              generalize Bt.wid k X = z at cwd hqq
              clear hwq
              go_wp2_with fail
              refine cwd.mono ?_
              rintro e w10 ⟨rfl, rfl⟩
              clear cwd
              go_wp2
              go_ret2
              exact Tx.RRd.bad (by rw [HBD.out]; rfl) (by rw [HBD.out]; decide) HBR.out
  · rw [if_neg hck] at hS8
    have HB := Lib.hid (F4.out hck)
    have hCi : ((C : Int) != 0) = true := by rw [bne_iff_ne]; omega
    have HC := Lib.hid hck
    clear hck F4 F5 F6 hS8 hR8
    go_wp2
    go_ret2
    exact Tx.RRd.bad (by rw [HB.out]) (by rw [HB.out]; exact HC.out) HG8.out
end Go.Proofs.YtcognkgabdaneaaGreatDoor

namespace Go.Proofs.YtcognkgabdaneaaGreatDoor
open Go.RowKit
open Ty (num txt)
open Ig (rest)
open Tx (rdWords rdPick rdBody rd)
theorem Tx.rpick_c (r : Nat) (s : ByteArray) (hs : s.size ≤ 140737488351232) (n : Nat) (hn : n ≤ 65536) (vd : Value) (d : List Tx.Str) (hdl : d.length ≤ 65536) (l : List UInt8) (w : World) (hd : Tx.At w.heap.size w vd d) (hdr : ∀ w' : World, w.grownBy w' (some r) → Tx.At w'.heap.size w' vd d) (h : Ty.RS r s w l 0) :
    Calls Tryz.prog 80 #[.pointer (some ⟨r, 0, none⟩), .int .i64 n, vd] w (Tx.RRd r s w (rdPick n d l)) := by
  cases l with
  | nil => exact Tx.rpick_nil r s hs n vd d w h
  | cons x t =>
    by_cases h64 : 64 < x.toNat
    · exact Tx.rpick_wide r s hs n vd d x t w h h64
    · by_cases hss : t.length < Bt.need (n * x.toNat)
      · exact Tx.rpick_short r s hs n hn vd d x t w h h64 hss
      · exact Tx.rpick_main r s hs n hn vd d hdl x t w hd hdr h h64 hss
/-- What Read leaves. -/
def Tx.Got (w : World) (r : Nat × List Tx.Str) (e : Ending) (w' : World) : Prop :=
  ∃ v, e = .returned (.tuple #[v, .int .i64 ((r.1 : Nat) : Int)]) ∧ Tx.At w'.heap.size w' v r.2 ∧ Below w.heap.size w w'
theorem Tx.Got.bad {w w' : World} {r : Nat × List Tx.Str} {z : Int} {q : Nat} (hr : r = (q, [])) (hz : z = (q : Int)) (g : Below w.heap.size w w') : Tx.Got w r (.returned (.tuple #[.slice none 0 0, .int .i64 z])) w' :=
  ⟨_, by rw [hr, hz], by rw [hr]; exact Tx.At.nil _, g⟩
theorem Tx.Got.good {w w' : World} {r : Nat × List Tx.Str} {v : Value} {L : List Tx.Str} (hr : r = (0, L)) (h : Tx.At w'.heap.size w' v L) (g : Below w.heap.size w w') : Tx.Got w r (.returned (.tuple #[v, .int .i64 0])) w' :=
  ⟨v, by rw [hr]; rfl, by rw [hr]; exact h, g⟩
section
variable {x : UInt8} {r : List UInt8}
theorem Tx.rd1 (h : 1 < x.toNat) : rd (x :: r) = (4, []) := by unfold rd; simp only; rw [if_pos h]
theorem Tx.rd2 (h : ¬ 1 < x.toNat) (h2 : (num r).2.2 ≠ 0) : rd (x :: r) = ((num r).2.2, []) := by unfold rd; simp only; rw [if_neg h, if_pos h2]
theorem Tx.rd3 (h : ¬ 1 < x.toNat) (h2 : (num r).2.2 = 0) (h3 : 65536 < (num r).1) : rd (x :: r) = (3, []) := by unfold rd; simp only; rw [if_neg h, if_neg (by rw [h2]; simp), if_pos h3]
theorem Tx.rd4 (h : ¬ 1 < x.toNat) (h2 : (num r).2.2 = 0) (h3 : ¬ 65536 < (num r).1) (h4 : (rdBody x.toNat (num r).1 (rest r)).1 ≠ 0) : rd (x :: r) = ((rdBody x.toNat (num r).1 (rest r)).1, []) := by
  unfold rd; simp only; rw [if_neg h, if_neg (by rw [h2]; simp), if_neg h3, if_pos h4]
theorem Tx.rd5 (h : ¬ 1 < x.toNat) (h2 : (num r).2.2 = 0) (h3 : ¬ 65536 < (num r).1) (h4 : (rdBody x.toNat (num r).1 (rest r)).1 = 0) (h5 : (rdBody x.toNat (num r).1 (rest r)).2.2 ≠ []) : rd (x :: r) = (5, []) := by
  unfold rd; simp only; rw [if_neg h, if_neg (by rw [h2]; simp), if_neg h3, if_neg (by rw [h4]; simp), if_pos h5]
theorem Tx.rd6 (h : ¬ 1 < x.toNat) (h2 : (num r).2.2 = 0) (h3 : ¬ 65536 < (num r).1) (h4 : (rdBody x.toNat (num r).1 (rest r)).1 = 0) (h5 : (rdBody x.toNat (num r).1 (rest r)).2.2 = []) : rd (x :: r) = (0, (rdBody x.toNat (num r).1 (rest r)).2.1) := by
  unfold rd; simp only; rw [if_neg h, if_neg (by rw [h2]; simp), if_neg h3, if_neg (by rw [h4]; simp), if_neg (by rw [h5]; simp)]
end
section
variable {n : Nat} {l : List UInt8}
theorem Tx.rdBody0 : rdBody 0 n l = rdWords false n none l := rfl
theorem Tx.rdB1 (h : (num l).2.2 ≠ 0) : (rdBody 1 n l).1 = (num l).2.2 := by unfold rdBody; rw [if_neg (by decide), if_pos h]
theorem Tx.rdB2 (h : (num l).2.2 = 0) (h2 : 65536 < (num l).1) : (rdBody 1 n l).1 = 3 := by unfold rdBody; rw [if_neg (by decide), if_neg (by rw [h]; simp), if_pos h2]
theorem Tx.rdB3 (h : (num l).2.2 = 0) (h2 : ¬ 65536 < (num l).1) (h3 : (rdWords true (num l).1 none (rest l)).1 ≠ 0) : (rdBody 1 n l).1 = (rdWords true (num l).1 none (rest l)).1 := by unfold rdBody; rw [if_neg (by decide), if_neg (by rw [h]; simp), if_neg h2, if_pos h3]
theorem Tx.rdB4 (h : (num l).2.2 = 0) (h2 : ¬ 65536 < (num l).1) (h3 : (rdWords true (num l).1 none (rest l)).1 = 0) : rdBody 1 n l = rdPick n (rdWords true (num l).1 none (rest l)).2.1 (rdWords true (num l).1 none (rest l)).2.2 := by unfold rdBody; rw [if_neg (by decide), if_neg (by rw [h]; simp), if_neg h2, if_neg (by rw [h3]; simp)]
end
theorem Tx.rdWords_le {ord : Bool} {n : Nat} {l : List UInt8} (h : (rdWords ord n none l).1 = 0) : (rdWords ord n none l).2.1.length = n := (Tx.rdWords_only ord n none l h).2.1
theorem Tx.RS_new (s : ByteArray) (w : World) : Ty.RS w.heap.size s (w.alloc (.cells #[.string s, .int .i64 0, .int .i64 0] 63)) s.data.toList 0 :=
  ⟨0, Nat.zero_le _, by simp, heap_alloc_new w _⟩
theorem Tx.ruint_x (r : Nat) (s : ByteArray) (hs : s.size ≤ 140737488351232) (l : List UInt8) (w : World) (h : Ty.RS r s w l 0) :
    Calls Tryz.prog 31 #[.pointer (some ⟨r, 0, none⟩)] w (Ty.RLeft r s w (.int .u64 (((num l).1 : Nat) : Int)) (rest l) (num l).2.2) := by
  have e : Ty.rdU l 0 = ((num l).1, rest l, (num l).2.2) := by unfold Ty.rdU; rw [if_neg (by omega)]; rfl
  have := Ty.ruint_m r s hs l 0 w h
  rw [e] at this
  exact this
set_option maxHeartbeats 4000000 in
set_option maxRecDepth 100000 in
theorem Tx.rread_c (s : ByteArray) (w : World) (hs : s.size ≤ 140737488351232) :
    Calls Tryz.prog 56 #[.string s] w (Tx.Got w (rd s.data.toList)) := by
  have HRS0 := Lib.hid (Tx.RS_new s w)
  have HB1 : Hid (Below w.heap.size w (w.alloc (.cells #[.string s, .int .i64 0, .int .i64 0] 63))) := Lib.hid ((Below.refl _ _).alloc (Nat.le_refl _) _)
  generalize s.data.toList = l at HRS0 ⊢
  cases l with
  | nil =>
    have HR : Hid (rd [] = (2, [])) := Lib.hid rfl
    have e1 : Ty.rdB [] 0 = (0, [], 2) := rfl
    have e2 : Ty.rdU [] 2 = (0, [], 2) := rfl
    have cb := fun wz (hc : Ty.RS w.heap.size s wz [] 0) => Ty.rbyte_m w.heap.size s hs [] 0 wz hc
    have cu := fun wz (hc : Ty.RS w.heap.size s wz [] 2) => Ty.ruint_m w.heap.size s hs [] 2 wz hc
    rw [e1] at cb
    rw [e2] at cu
    simp only [Int.natCast_zero] at cb cu
    clear e1 e2
    go_enter Tryz.func56, Tryz.ntmps56
    go_wp2_with fail
    have cb0 := cb _ HRS0.out
    clear cb
    refine cb0.mono ?_
    rintro e w2 ⟨rfl, hc2, hg2⟩
    have he2' := Tx.RS_err hc2
    simp only [Int.cast_ofNat_Int] at he2'
    have HB2 := Lib.hid (HB1.out.trans (Ty.below_at (B := w.heap.size) hg2 HB1.out.size (Nat.le_refl _)))
    have hs2 := HB2.out.size
    have cu2' := cu _ hc2
    clear cb0 hc2 hg2 cu
    go_wp2_with fail
    refine cu2'.mono ?_
    rintro e w3 ⟨rfl, hc3, hg3⟩
    have he3' := Tx.RS_err hc3
    simp only [Int.cast_ofNat_Int] at he3'
    have HB3 := Lib.hid (HB2.out.trans (Ty.below_at (B := w.heap.size) hg3 hs2 (Nat.le_refl _)))
    have hs3 := HB3.out.size
    have HC3 := Lib.hid hc3
    clear cu2' hg3 he2' hc3
    go_wp2_with fail
    go_quiet (fail)
    go_wp2
    go_ret2
    exact Tx.Got.bad HR.out rfl (HB3.out.trans ((Bt.drewN_below _ _).mono HB3.out.size))
  | cons x r =>
    have cb := fun wz (hc : Ty.RS w.heap.size s wz (x :: r) 0) => Tx.rbyte_x w.heap.size s hs x r wz hc
    by_cases h1 : 1 < x.toNat
    · have HR := Lib.hid (Tx.rd1 (r := r) h1)
      have h1i : (1 : Int) < (x.toNat : Int) := by omega
      clear h1
      go_enter Tryz.func56, Tryz.ntmps56
      go_wp2_with fail
      have cb0 := cb _ HRS0.out
      clear cb
      refine cb0.mono ?_
      rintro e w2 ⟨rfl, hc2, hg2⟩
      have he2' := Tx.RS_err hc2
      simp only [Int.natCast_zero] at he2'
      have HB2 := Lib.hid (HB1.out.trans (Ty.below_at (B := w.heap.size) hg2 HB1.out.size (Nat.le_refl _)))
      have hs2 := HB2.out.size
      go_wp2
      go_ret2
      exact Tx.Got.bad HR.out rfl HB2.out
    · have cu := fun wz (hc : Ty.RS w.heap.size s wz r 0) => Tx.ruint_x w.heap.size s hs r wz hc
      by_cases he : (num r).2.2 = 0
      · rw [he] at cu
        obtain ⟨K, hK⟩ : ∃ K, K = x.toNat := ⟨_, rfl⟩
        have G3 := Lib.hid (fun h3 => Tx.rd3 (r := r) h1 he h3)
        have G4 := Lib.hid (fun h3 h4 => Tx.rd4 (r := r) h1 he h3 h4)
        have G5 := Lib.hid (fun h3 h4 h5 => Tx.rd5 (r := r) h1 he h3 h4 h5)
        have G6 := Lib.hid (fun h3 h4 h5 => Tx.rd6 (r := r) h1 he h3 h4 h5)
        rw [← hK] at cb G4 G5 G6 h1
        obtain ⟨RR, hRR⟩ : ∃ RR, RR = rd (x :: r) := ⟨_, rfl⟩
        rw [← hRR] at G3 G4 G5 G6 ⊢
        generalize (num r).1 = n at cu G3 G4 G5 G6
        generalize rest r = l3 at cu G4 G5 G6
        clear he hK hRR
        rcases (by omega : K = 0 ∨ K = 1) with rfl | rfl
        · rw [Tx.rdBody0] at G4 G5 G6
          simp only [Int.natCast_zero] at cb
          go_enter Tryz.func56, Tryz.ntmps56
          go_wp2_with fail
          have cb0 := cb _ HRS0.out
          clear cb
          refine cb0.mono ?_
          rintro e w2 ⟨rfl, hc2, hg2⟩
          have he2' := Tx.RS_err hc2
          simp only [Int.natCast_zero] at he2'
          have HB2 := Lib.hid (HB1.out.trans (Ty.below_at (B := w.heap.size) hg2 HB1.out.size (Nat.le_refl _)))
          have hs2 := HB2.out.size
          have cu2' := cu _ hc2
          clear cb0 hc2 hg2 cu
          go_wp2_with fail
          refine cu2'.mono ?_
          rintro e w3 ⟨rfl, hc3, hg3⟩
          have he3' := Tx.RS_err hc3
          simp only [Int.natCast_zero] at he3'
          have HB3 := Lib.hid (HB2.out.trans (Ty.below_at (B := w.heap.size) hg3 hs2 (Nat.le_refl _)))
          have hs3 := HB3.out.size
          have HC3 := Lib.hid hc3
          clear cu2' hg3 he2' hc3
          by_cases hnl : 65536 < n
          · have hni : (65536 : Int) < (n : Int) := by omega
            have HR := Lib.hid (G3.out hnl)
            clear hnl
            go_wp2
            go_ret2
            exact Tx.Got.bad HR.out rfl HB3.out
          · have hni : ¬ (65536 : Int) < (n : Int) := by omega
            have cw := fun wz (hc : Ty.RS w.heap.size s wz l3 0) => Tx.rwords_c w.heap.size s hs l3 n false wz hc (by omega)
            have J4 := Lib.hid (G4.out hnl)
            have J5 := Lib.hid (G5.out hnl)
            have J6 := Lib.hid (G6.out hnl)
            generalize rdWords false n none l3 = T at cw J4 J5 J6
            obtain ⟨C, L, l4⟩ := T
            simp only at J4 J5 J6
            have cw3 := cw _ HC3.out
            clear cw G3 G4 G5 G6 hnl
            go_wp2_with fail
            refine cw3.mono ?_
            rintro e w7 ⟨v7, rfl, hO7, hc7, hg7⟩
            simp only at hO7 hc7
            have hbase : w.heap.size < w3.heap.size := Tx.RS_lt HC3.out
            have HB7 := Lib.hid (HB3.out.trans (Ty.below_at (B := w.heap.size) hg7 hs3 (Nat.le_refl _)))
            clear cw3 hg7
            by_cases hC : C = 0
            · subst hC
              simp only [if_true] at hO7
              have hc8 := hc7 rfl
              have K5 := Lib.hid (J5.out rfl)
              have K6 := Lib.hid (J6.out rfl)
              have HO7 := Lib.hid hO7
              simp only [Int.natCast_zero]
              clear hc7 hO7 J4 J5 J6
              have hd := Ty.rdone_m w.heap.size s hs l4 0 _ hc8
              clear hc8
              by_cases hl4 : l4 = []
              · have HR := Lib.hid (K6.out hl4)
                have hf : Ty.fin l4 0 = 0 := by rw [hl4]; rfl
                rw [hf] at hd
                simp only [Int.natCast_zero] at hd
                clear hl4 hf
                go_wp2_with fail
                refine hd.mono ?_
                rintro e w8 ⟨rfl, _, hg8⟩
                have HB8 := Lib.hid (HB7.out.trans (Ty.below_at (B := w.heap.size) hg8 HB7.out.size (Nat.le_refl _)))
                have HA9 := Lib.hid (Tx.Own.at (Tx.Own.by HO7.out hg8 hbase))
                clear hd hg8
                go_wp2
                go_ret2
                exact Tx.Got.good HR.out HA9.out HB8.out
              · have HR := Lib.hid (K5.out hl4)
                have hf : Ty.fin l4 0 = 5 := by unfold Ty.fin; rw [if_pos ⟨rfl, hl4⟩]
                rw [hf] at hd
                simp only [Int.cast_ofNat_Int] at hd
                clear hl4 hf
                go_wp2_with fail
                refine hd.mono ?_
                rintro e w8 ⟨rfl, _, hg8⟩
                have HB8 := Lib.hid (HB7.out.trans (Ty.below_at (B := w.heap.size) hg8 HB7.out.size (Nat.le_refl _)))
                clear hd hg8
                go_wp2
                go_ret2
                exact Tx.Got.bad HR.out rfl HB8.out
            · have HR := Lib.hid (J4.out hC)
              have hne : ((C : Int) != 0) = true := by rw [bne_iff_ne]; omega
              have hne2 : ((C : Int) == 0) = false := by rw [beq_eq_false_iff_ne]; omega
              clear hC hO7 hc7
              go_wp2
              go_ret2
              exact Tx.Got.bad HR.out rfl HB7.out
        · have cu2 := fun wz (hc : Ty.RS w.heap.size s wz l3 0) => Tx.ruint_x w.heap.size s hs l3 wz hc
          by_cases hnl : 65536 < n
          · have hni : (65536 : Int) < (n : Int) := by omega
            have HR := Lib.hid (G3.out hnl)
            generalize (num l3).1 = m at cu2
            generalize (num l3).2.2 = e2 at cu2
            generalize rest l3 = l5 at cu2
            clear hnl G3 G4 G5 G6
            go_enter Tryz.func56, Tryz.ntmps56
            go_wp2_with fail
            have cb0 := cb _ HRS0.out
            clear cb
            refine cb0.mono ?_
            rintro e w2 ⟨rfl, hc2, hg2⟩
            have he2' := Tx.RS_err hc2
            simp only [Int.natCast_zero] at he2'
            have HB2 := Lib.hid (HB1.out.trans (Ty.below_at (B := w.heap.size) hg2 HB1.out.size (Nat.le_refl _)))
            have hs2 := HB2.out.size
            have cu2' := cu _ hc2
            clear cb0 hc2 hg2 cu
            go_wp2_with fail
            refine cu2'.mono ?_
            rintro e w3 ⟨rfl, hc3, hg3⟩
            have he3' := Tx.RS_err hc3
            simp only [Int.natCast_zero] at he3'
            have HB3 := Lib.hid (HB2.out.trans (Ty.below_at (B := w.heap.size) hg3 hs2 (Nat.le_refl _)))
            have hs3 := HB3.out.size
            have HC3 := Lib.hid hc3
            clear cu2' hg3 he2' hc3
            have cu5 := cu2 _ HC3.out
            clear cu2
            go_wp2_with fail
            refine cu5.mono ?_
            rintro e w5 ⟨rfl, hc5, hg5⟩
            have he5' := Tx.RS_err hc5
            skip
            have HB5 := Lib.hid (HB3.out.trans (Ty.below_at (B := w.heap.size) hg5 hs3 (Nat.le_refl _)))
            have hs5 := HB5.out.size
            have HC5 := Lib.hid hc5
            clear cu5 hg5 he3' hc5
            go_wp2
            go_ret2
            exact Tx.Got.bad HR.out rfl HB5.out
          · have hni : ¬ (65536 : Int) < (n : Int) := by omega
            have J4 := Lib.hid (G4.out hnl)
            have J5 := Lib.hid (G5.out hnl)
            have J6 := Lib.hid (G6.out hnl)
            have hn6 : n ≤ 65536 := by omega
            clear G3 G4 G5 G6 hnl
            by_cases he2 : (num l3).2.2 = 0
            · rw [he2] at cu2
              by_cases hml : 65536 < (num l3).1
              · have hmi : (65536 : Int) < ((num l3).1 : Int) := by omega
                have HB0 := Lib.hid (Tx.rdB2 (n := n) he2 hml)
                have HR := Lib.hid (J4.out (by rw [HB0.out]; decide))
                rw [HB0.out] at HR
                generalize (num l3).1 = m at cu2 hmi
                generalize rest l3 = l5 at cu2
                clear he2 hml J4 J5 J6
                go_enter Tryz.func56, Tryz.ntmps56
                go_wp2_with fail
                have cb0 := cb _ HRS0.out
                clear cb
                refine cb0.mono ?_
                rintro e w2 ⟨rfl, hc2, hg2⟩
                have he2' := Tx.RS_err hc2
                simp only [Int.natCast_zero] at he2'
                have HB2 := Lib.hid (HB1.out.trans (Ty.below_at (B := w.heap.size) hg2 HB1.out.size (Nat.le_refl _)))
                have hs2 := HB2.out.size
                have cu2' := cu _ hc2
                clear cb0 hc2 hg2 cu
                go_wp2_with fail
                refine cu2'.mono ?_
                rintro e w3 ⟨rfl, hc3, hg3⟩
                have he3' := Tx.RS_err hc3
                simp only [Int.natCast_zero] at he3'
                have HB3 := Lib.hid (HB2.out.trans (Ty.below_at (B := w.heap.size) hg3 hs2 (Nat.le_refl _)))
                have hs3 := HB3.out.size
                have HC3 := Lib.hid hc3
                clear cu2' hg3 he2' hc3
                have cu5 := cu2 _ HC3.out
                clear cu2
                go_wp2_with fail
                refine cu5.mono ?_
                rintro e w5 ⟨rfl, hc5, hg5⟩
                have he5' := Tx.RS_err hc5
                simp only [Int.natCast_zero] at he5'
                have HB5 := Lib.hid (HB3.out.trans (Ty.below_at (B := w.heap.size) hg5 hs3 (Nat.le_refl _)))
                have hs5 := HB5.out.size
                have HC5 := Lib.hid hc5
                clear cu5 hg5 he3' hc5
                go_wp2
                go_ret2
                exact Tx.Got.bad HR.out rfl HB5.out
              · have hmi : ¬ (65536 : Int) < ((num l3).1 : Int) := by omega
                have B3 := Lib.hid (fun h3 => Tx.rdB3 (n := n) he2 hml h3)
                have B4 := Lib.hid (fun h3 => Tx.rdB4 (n := n) he2 hml h3)
                have cw := fun wz (hc : Ty.RS w.heap.size s wz (rest l3) 0) => Tx.rwords_c w.heap.size s hs (rest l3) (num l3).1 true wz hc (by omega)
                have HLE := Lib.hid (fun h3 => Tx.rdWords_le (ord := true) (n := (num l3).1) (l := rest l3) h3)
                have HM : Hid ((num l3).1 ≤ 65536) := Lib.hid (by omega)
                generalize (num l3).1 = m at cu2 hmi B3 B4 cw HLE HM
                generalize rest l3 = l5 at cu2 B3 B4 cw HLE
                generalize rdWords true m none l5 = T at cw B3 B4 HLE
                obtain ⟨C, d, l6⟩ := T
                simp only at B3 B4 HLE
                clear he2 hml
                go_enter Tryz.func56, Tryz.ntmps56
                go_wp2_with fail
                have cb0 := cb _ HRS0.out
                clear cb
                refine cb0.mono ?_
                rintro e w2 ⟨rfl, hc2, hg2⟩
                have he2' := Tx.RS_err hc2
                simp only [Int.natCast_zero] at he2'
                have HB2 := Lib.hid (HB1.out.trans (Ty.below_at (B := w.heap.size) hg2 HB1.out.size (Nat.le_refl _)))
                have hs2 := HB2.out.size
                have cu2' := cu _ hc2
                clear cb0 hc2 hg2 cu
                go_wp2_with fail
                refine cu2'.mono ?_
                rintro e w3 ⟨rfl, hc3, hg3⟩
                have he3' := Tx.RS_err hc3
                simp only [Int.natCast_zero] at he3'
                have HB3 := Lib.hid (HB2.out.trans (Ty.below_at (B := w.heap.size) hg3 hs2 (Nat.le_refl _)))
                have hs3 := HB3.out.size
                have HC3 := Lib.hid hc3
                clear cu2' hg3 he2' hc3
                have cu5 := cu2 _ HC3.out
                clear cu2
                go_wp2_with fail
                refine cu5.mono ?_
                rintro e w5 ⟨rfl, hc5, hg5⟩
                have he5' := Tx.RS_err hc5
                simp only [Int.natCast_zero] at he5'
                have HB5 := Lib.hid (HB3.out.trans (Ty.below_at (B := w.heap.size) hg5 hs3 (Nat.le_refl _)))
                have hs5 := HB5.out.size
                have HC5 := Lib.hid hc5
                clear cu5 hg5 he3' hc5
                have cw5 := cw _ HC5.out
                clear cw
                go_wp2_with fail
                refine cw5.mono ?_
                rintro e w7 ⟨v7, rfl, hO7, hc7, hg7⟩
                simp only at hO7 hc7
                have hbase : w.heap.size < w5.heap.size := Tx.RS_lt HC5.out
                have HB7 := Lib.hid (HB5.out.trans (Ty.below_at (B := w.heap.size) hg7 hs5 (Nat.le_refl _)))
                have hs7 := HB7.out.size
                clear cw5 hg7
                by_cases hC : C = 0
                · subst hC
                  simp only [if_true] at hO7
                  have HC8 := Lib.hid (hc7 rfl)
                  have HT := Lib.hid (B4.out rfl)
                  have hdl : d.length ≤ 65536 := by rw [HLE.out rfl]; exact HM.out
                  have cp := Tx.rpick_c w.heap.size s hs n hn6 v7 d hdl l6 w7 hO7.at (fun w' hg => (hO7.by hg hbase).at) HC8.out
                  rw [HT.out] at J4 J5 J6
                  generalize rdPick n d l6 = T2 at cp J4 J5 J6
                  obtain ⟨C, L, l4⟩ := T2
                  simp only at J4 J5 J6
                  simp only [Int.natCast_zero]
                  clear hc7 hO7 B3 B4 HT HLE
                  go_wp2_with fail
                  refine cp.mono ?_
                  rintro e w9 ⟨v9, rfl, hO9, hc9, hg9⟩
                  simp only at hO9 hc9
                  have hbase9 : w.heap.size < w7.heap.size := Tx.RS_lt HC8.out
                  have HB9 := Lib.hid (HB7.out.trans (Ty.below_at (B := w.heap.size) hg9 hs7 (Nat.le_refl _)))
                  clear cp hg9
                  by_cases hC : C = 0
                  · subst hC
                    simp only [if_true] at hO9
                    have hc8 := hc9 rfl
                    have K5 := Lib.hid (J5.out rfl)
                    have K6 := Lib.hid (J6.out rfl)
                    have HO7 := Lib.hid hO9
                    have HB7 := HB9
                    have hbase := hbase9
                    simp only [Int.natCast_zero]
                    clear hc9 hO9 J4 J5 J6 HB9 hbase9
                    have hd := Ty.rdone_m w.heap.size s hs l4 0 _ hc8
                    clear hc8
                    by_cases hl4 : l4 = []
                    · have HR := Lib.hid (K6.out hl4)
                      have hf : Ty.fin l4 0 = 0 := by rw [hl4]; rfl
                      rw [hf] at hd
                      simp only [Int.natCast_zero] at hd
                      clear hl4 hf
                      go_wp2_with fail
                      refine hd.mono ?_
                      rintro e w8 ⟨rfl, _, hg8⟩
                      have HB8 := Lib.hid (HB7.out.trans (Ty.below_at (B := w.heap.size) hg8 HB7.out.size (Nat.le_refl _)))
                      have HA9 := Lib.hid (Tx.Own.at (Tx.Own.by HO7.out hg8 hbase))
                      clear hd hg8
                      go_wp2
                      go_ret2
                      exact Tx.Got.good HR.out HA9.out HB8.out
                    · have HR := Lib.hid (K5.out hl4)
                      have hf : Ty.fin l4 0 = 5 := by unfold Ty.fin; rw [if_pos ⟨rfl, hl4⟩]
                      rw [hf] at hd
                      simp only [Int.cast_ofNat_Int] at hd
                      clear hl4 hf
                      go_wp2_with fail
                      refine hd.mono ?_
                      rintro e w8 ⟨rfl, _, hg8⟩
                      have HB8 := Lib.hid (HB7.out.trans (Ty.below_at (B := w.heap.size) hg8 HB7.out.size (Nat.le_refl _)))
                      clear hd hg8
                      go_wp2
                      go_ret2
                      exact Tx.Got.bad HR.out rfl HB8.out
                  · have HR := Lib.hid (J4.out hC)
                    have hne : ((C : Int) != 0) = true := by rw [bne_iff_ne]; omega
                    have hne2 : ((C : Int) == 0) = false := by rw [beq_eq_false_iff_ne]; omega
                    clear hC hO9 hc9
                    go_wp2
                    go_ret2
                    exact Tx.Got.bad HR.out rfl HB9.out
                · have HB0 := Lib.hid (B3.out hC)
                  have HR := Lib.hid (J4.out (by rw [HB0.out]; exact hC))
                  rw [HB0.out] at HR
                  have hne : ((C : Int) != 0) = true := by rw [bne_iff_ne]; omega
                  have hne2 : ((C : Int) == 0) = false := by rw [beq_eq_false_iff_ne]; omega
                  clear hC hO7 hc7
                  go_wp2
                  go_ret2
                  exact Tx.Got.bad HR.out rfl HB7.out
            · have HB0 := Lib.hid (Tx.rdB1 (n := n) he2)
              have HR := Lib.hid (J4.out (by rw [HB0.out]; exact he2))
              rw [HB0.out] at HR
              have hz := (Ty.num_err l3 he2).1
              rw [hz] at cu2
              generalize (num l3).2.2 = q at cu2 he2 HR
              generalize rest l3 = l5 at cu2
              have hne : ((q : Int) != 0) = true := by rw [bne_iff_ne]; omega
              simp only [Int.natCast_zero] at cu2
              clear he2 J4 J5 J6 hz HB0
              go_enter Tryz.func56, Tryz.ntmps56
              go_wp2_with fail
              have cb0 := cb _ HRS0.out
              clear cb
              refine cb0.mono ?_
              rintro e w2 ⟨rfl, hc2, hg2⟩
              have he2' := Tx.RS_err hc2
              simp only [Int.natCast_zero] at he2'
              have HB2 := Lib.hid (HB1.out.trans (Ty.below_at (B := w.heap.size) hg2 HB1.out.size (Nat.le_refl _)))
              have hs2 := HB2.out.size
              have cu2' := cu _ hc2
              clear cb0 hc2 hg2 cu
              go_wp2_with fail
              refine cu2'.mono ?_
              rintro e w3 ⟨rfl, hc3, hg3⟩
              have he3' := Tx.RS_err hc3
              simp only [Int.natCast_zero] at he3'
              have HB3 := Lib.hid (HB2.out.trans (Ty.below_at (B := w.heap.size) hg3 hs2 (Nat.le_refl _)))
              have hs3 := HB3.out.size
              have HC3 := Lib.hid hc3
              clear cu2' hg3 he2' hc3
              have cu5 := cu2 _ HC3.out
              clear cu2
              go_wp2_with fail
              refine cu5.mono ?_
              rintro e w5 ⟨rfl, hc5, hg5⟩
              have he5' := Tx.RS_err hc5
              skip
              have HB5 := Lib.hid (HB3.out.trans (Ty.below_at (B := w.heap.size) hg5 hs3 (Nat.le_refl _)))
              have hs5 := HB5.out.size
              have HC5 := Lib.hid hc5
              clear cu5 hg5 he3' hc5
              go_wp2_with fail
              go_quiet (fail)
              go_wp2
              go_ret2
              exact Tx.Got.bad HR.out rfl (HB5.out.trans ((Bt.drewN_below _ _).mono HB5.out.size))
      · have HR := Lib.hid (Tx.rd2 (r := r) h1 he)
        rw [HR.out]
        have hz := (Ty.num_err r he).1
        rw [hz] at cu
        obtain ⟨K, hK⟩ : ∃ K, K = x.toNat := ⟨_, rfl⟩
        rw [← hK] at cb h1
        have cu2 := fun wz l5 (hc : Ty.RS w.heap.size s wz l5 (num r).2.2) => Ty.ruint_m w.heap.size s hs l5 (num r).2.2 wz hc
        have e2 : ∀ l5, Ty.rdU l5 (num r).2.2 = (0, l5, (num r).2.2) := fun l5 => by unfold Ty.rdU; rw [if_pos he]
        simp only [e2] at cu2
        generalize (num r).2.2 = q at cu cu2 he ⊢
        generalize rest r = l3 at cu
        have hne : ((q : Int) != 0) = true := by rw [bne_iff_ne]; omega
        simp only [Int.natCast_zero] at cu cu2
        clear he hz HR e2 hK
        rcases (by omega : K = 0 ∨ K = 1) with rfl | rfl
        · simp only [Int.natCast_zero] at cb
          clear cu2
          go_enter Tryz.func56, Tryz.ntmps56
          go_wp2_with fail
          have cb0 := cb _ HRS0.out
          clear cb
          refine cb0.mono ?_
          rintro e w2 ⟨rfl, hc2, hg2⟩
          have he2' := Tx.RS_err hc2
          simp only [Int.natCast_zero] at he2'
          have HB2 := Lib.hid (HB1.out.trans (Ty.below_at (B := w.heap.size) hg2 HB1.out.size (Nat.le_refl _)))
          have hs2 := HB2.out.size
          have cu2' := cu _ hc2
          clear cb0 hc2 hg2 cu
          go_wp2_with fail
          refine cu2'.mono ?_
          rintro e w3 ⟨rfl, hc3, hg3⟩
          have he3' := Tx.RS_err hc3
          skip
          have HB3 := Lib.hid (HB2.out.trans (Ty.below_at (B := w.heap.size) hg3 hs2 (Nat.le_refl _)))
          have hs3 := HB3.out.size
          have HC3 := Lib.hid hc3
          clear cu2' hg3 he2' hc3
          go_wp2_with fail
          go_quiet (fail)
          go_wp2
          go_ret2
          exact Tx.Got.bad rfl rfl (HB3.out.trans ((Bt.drewN_below _ _).mono HB3.out.size))
        · simp only [Int.cast_ofNat_Int] at cb
          go_enter Tryz.func56, Tryz.ntmps56
          go_wp2_with fail
          have cb0 := cb _ HRS0.out
          clear cb
          refine cb0.mono ?_
          rintro e w2 ⟨rfl, hc2, hg2⟩
          have he2' := Tx.RS_err hc2
          simp only [Int.natCast_zero] at he2'
          have HB2 := Lib.hid (HB1.out.trans (Ty.below_at (B := w.heap.size) hg2 HB1.out.size (Nat.le_refl _)))
          have hs2 := HB2.out.size
          have cu2' := cu _ hc2
          clear cb0 hc2 hg2 cu
          go_wp2_with fail
          refine cu2'.mono ?_
          rintro e w3 ⟨rfl, hc3, hg3⟩
          have he3' := Tx.RS_err hc3
          skip
          have HB3 := Lib.hid (HB2.out.trans (Ty.below_at (B := w.heap.size) hg3 hs2 (Nat.le_refl _)))
          have hs3 := HB3.out.size
          have HC3 := Lib.hid hc3
          clear cu2' hg3 he2' hc3
          have cu5 := cu2 _ _ HC3.out
          clear cu2
          go_wp2_with fail
          refine cu5.mono ?_
          rintro e w5 ⟨rfl, hc5, hg5⟩
          have he5' := Tx.RS_err hc5
          skip
          have HB5 := Lib.hid (HB3.out.trans (Ty.below_at (B := w.heap.size) hg5 hs3 (Nat.le_refl _)))
          have hs5 := HB5.out.size
          have HC5 := Lib.hid hc5
          clear cu5 hg5 he3' hc5
          go_wp2_with fail
          go_quiet (fail)
          go_wp2
          go_ret2
          exact Tx.Got.bad rfl rfl (HB5.out.trans ((Bt.drewN_below _ _).mono HB5.out.size))
end Go.Proofs.YtcognkgabdaneaaGreatDoor
