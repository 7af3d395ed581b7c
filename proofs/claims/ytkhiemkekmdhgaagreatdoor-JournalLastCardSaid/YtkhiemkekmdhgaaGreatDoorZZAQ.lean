import Derived.Test.YtkhiemkekmdhgaaGreatDoorZZAM
import Derived.Test.YtkhiemkekmdhgaaGreatDoorZZAP
import Derived.Test.YtkhiemkekmdhgaaGreatDoorZZAA
import Derived.Lib.AtoiTie
import Derived.Lib.Strings
import Derived.Test.YtkhiemkekmdhgaaGreatDoorZZAJ
import Derived.Test.YtkhiemkekmdhgaaGreatDoorZZAI
import Derived.Test.YtkhiemkekmdhgaaGreatDoorZZAB
import Derived.Shelf.Strconv.ErrVarAll
import Derived.Shelf.Small.Wraps
namespace Go.Proofs.YtkhiemkekmdhgaaGreatDoor
section
open Go.RowKit
theorem Jn.RL.imp {S P P' : Nat → Prop} {w : World} {p : Nat} {v : Value} {L : List Sk.E} (h : Jn.RL S P w p v L) (g : ∀ b, P b → P' b) (k : ∀ b, S b → ¬ P' b) : Jn.RL S P' w p v L :=
 ⟨h.blk, h.own, h.ownS, h.mine, h.alive, k, fun x hx => ⟨(h.rows x hx).1.imp g, (h.rows x hx).2⟩⟩
def Jn.Lst (w0 : World) (p : Nat) (X : List Dd.D) (lo hi : Nat) (W : World) : Prop :=
 ∃ (S : Nat → Prop) (v : Value) (M : List Sk.E), Jn.RL S (fun b => b < W.heap.size ∧ ¬ S b) W p v M ∧ M.map Sk.E.d = X ∧ (∀ b, S b → w0.heap.size ≤ b) ∧ Below w0.heap.size w0 W ∧ ∀ b, lo ≤ b → b < hi → b < W.heap.size ∧ ¬ S b
theorem Jn.Lst.below {w0 W : World} {p lo hi : Nat} {X : List Dd.D} (h : Jn.Lst w0 p X lo hi W) : Below w0.heap.size w0 W := by
 obtain ⟨_, _, _, _, _, _, g, _⟩ := h
 exact g
theorem Jn.Lst.later {w0 W W' : World} {p lo hi : Nat} {X : List Dd.D} (h : Jn.Lst w0 p X lo hi W) (g : Below W.heap.size W W') : Jn.Lst w0 p X W.heap.size W'.heap.size W' := by
 obtain ⟨S, v, M, h1, h2, h3, h4, _⟩ := h
 refine ⟨S, v, M, (h1.kept g).imp (fun b hb => ⟨Nat.lt_of_lt_of_le hb.1 g.size, hb.2⟩) (fun b hb hp => hp.2 hb), h2, h3, h4.trans (g.mono h4.size), fun b hl hh => ⟨hh, fun hs => ?_⟩⟩
 have := h1.alive b hs
 omega
theorem Jn.Lst.none {w0 W : World} {p lo hi : Nat} {X : List Dd.D} (h : Jn.Lst w0 p X lo hi W) : Jn.Lst w0 p X 0 0 W := by
 obtain ⟨S, v, M, h1, h2, h3, h4, _⟩ := h
 exact ⟨S, v, M, h1, h2, h3, h4, fun b _ hb => by omega⟩
theorem Jn.put_c {w0 W : World} {p lo hi : Nat} {X : List Dd.D} (h : Jn.Lst w0 p X lo hi W) (hX : X.length ≤ 900000) {d : Dd.D} {u : Value} (hu : Kn.Vals W u d.row) (hz : ∀ x ∈ d.row, Kn.Z x) (hne : d.row ≠ []) (hr : ∀ k, u.ownBlock = some k → lo ≤ k ∧ k < hi) :
 Calls Tryz.prog 33 #[.pointer (some ⟨p, 0, none⟩), .agg #[.bool d.gone, u]] W fun e W' => e = .returned (.bool true) ∧ Jn.Lst w0 p (Sk.put Bk.key X d) lo hi W' ∧ (∀ b, lo ≤ b → b < hi → W'.heap[b]? = W.heap[b]?) ∧ W.heap.size ≤ W'.heap.size := by
 obtain ⟨S, v, M, h1, rfl, h3, h4, h5⟩ := h
 rw [List.length_map] at hX
 have hrow : Jn.Row (fun b => b < W.heap.size ∧ ¬ S b) W u d.row := by
  obtain ⟨a, c, hv, hu⟩ := hu
  rcases hu with hu | ⟨b, o, rfl, hb, hm, hu⟩
  ·exact absurd hu hne
  ·have h9 := hr b (by rw [hv]; rfl)
   exact ⟨_, c, hv, hm, hz, .inr ⟨b, o, rfl, h5 b h9.1 h9.2, hb, hu⟩⟩
 refine (Jn.rput_c (fun b hb => hb.1) h1 ⟨d.gone, u, d.row⟩ hrow hne hX).mono ?_
 rintro e W' ⟨rfl, ⟨v', h2⟩, h6⟩
 refine ⟨rfl, ⟨_, v', _, h2.imp (fun b hb => ⟨Nat.lt_of_lt_of_le hb.1 h6.size, fun hm => ?_⟩) (fun b hb hp => hp.2 hb), (Sk.map_put (key := Sk.ke) Sk.E.d Sk.kd (fun _ => rfl) M ⟨d.gone, u, d.row⟩).symm, fun b hb => ?_, h4.trans (h6.below h4.size h3), fun b hl hh => ⟨Nat.lt_of_lt_of_le (h5 b hl hh).1 h6.size, fun hm => ?_⟩⟩, fun b hl hh => h6.block b (h5 b hl hh).1 (h5 b hl hh).2, h6.size⟩
 ·rcases hm with hm | hm
  ·exact hb.2 hm
  ·omega
 ·rcases hb with hb | hb
  ·exact h3 b hb
  ·have := h4.size; omega
 ·rcases hm with hm | hm
  ·exact (h5 b hl hh).2 hm
  ·have := (h5 b hl hh).1; omega
end
section
open Go.RowKit
theorem Mg.own_len {base : Nat} {w : World} {u : Value} {Es : List Jn.Y} {L : List Dd.D} (h : Dk.Own 26 2 Rn.e2 base w u Es) (hl : Es.length = L.length) : ∃ a c, u = .slice a L.length c := by
 rcases h.form with ⟨rfl, h0⟩ | ⟨g, c, rfl, _⟩
 ·rw [h0] at hl
  exact ⟨none, 0, by rw [← hl]; rfl⟩
 ·exact ⟨_, c, by rw [hl]⟩
theorem Jn.rl_ds {S P : Nat → Prop} {w : World} {p : Nat} {v : Value} {M : List Sk.E} (h : Jn.RL S P w p v M) : Bk.Ds w v (M.map Sk.E.d) := by
 rcases h.own.form with ⟨rfl, rfl⟩ | ⟨g, c, rfl, h1, h2, _, h4⟩
 ·exact ⟨none, 0, rfl, Nat.le_refl _, by omega, .inl rfl⟩
 ·refine ⟨_, c, by rw [List.length_map], by rw [List.length_map]; exact h1, by unfold maxLen at h2; omega, .inr ⟨g, 0, rfl, h4, fun i x hx => ?_⟩⟩
  rw [List.getElem?_map] at hx
  cases hy : M[i]? with
  | none => rw [hy] at hx; cases hx
  | some y =>
    rw [hy] at hx
    obtain rfl : y.d = x := by simpa using hx
    have c0 := h.own.cell Sk.enc_len rfl hy (j := 0) (by decide)
    have c1 := h.own.cell Sk.enc_len rfl hy (j := 1) (by decide)
    rw [Nat.add_zero] at c0
    rw [Nat.zero_add]
    exact ⟨y.rv, c0, c1, (h.rows y (List.mem_of_getElem? hy)).1.vals⟩
def Jn.GotP (w : World) (r : Nat × List Dd.D) (e : Ending) (w' : World) : Prop :=
 ∃ u, e = .returned (.tuple #[u, .int .i64 ((r.1 : Nat) : Int)]) ∧ Bk.Ds w' u r.2 ∧ Below w.heap.size w w'
theorem Jn.GotP.bad {w w' : World} {r : Nat × List Dd.D} {q : Nat} (hr : r = (q, [])) (g : Below w.heap.size w w') : Jn.GotP w r (.returned (.tuple #[.slice none 0 0, .int .i64 (q : Int)])) w' :=
 ⟨_, by rw [hr], by rw [hr]; exact ⟨none, 0, rfl, Nat.le_refl _, by decide, .inl rfl⟩, g⟩
theorem Jn.GotP.good {w w' : World} {r : Nat × List Dd.D} {u : Value} {L : List Dd.D} (hr : r = (0, L)) (h : Bk.Ds w' u L) (g : Below w.heap.size w w') : Jn.GotP w r (.returned (.tuple #[u, .int .i64 0])) w' :=
 ⟨_, by rw [hr]; rfl, by rw [hr]; exact h, g⟩
def Jn.tot (ts : List Fr.Str) : Nat := (ts.map List.length).sum
theorem Jn.tot_next {ts : List Fr.Str} {i : Nat} {t : Fr.Str} (h : ts[i]? = some t) : Jn.tot (ts.take (i + 1)) = Jn.tot (ts.take i) + t.length := by
 obtain ⟨hi, rfl⟩ := List.getElem?_eq_some_iff.1 h
 rw [List.take_succ_eq_append_getElem hi]
 unfold Jn.tot
 rw [List.map_append, List.sum_append]
 simp
theorem Jn.tot_le (ts : List Fr.Str) (i : Nat) : Jn.tot (ts.take i) ≤ Jn.tot ts := by
 have : Jn.tot ts = Jn.tot (ts.take i) + Jn.tot (ts.drop i) := by
  unfold Jn.tot
  rw [← List.sum_append, ← List.map_append, List.take_append_drop]
 omega
theorem Jn.len_tot {ts : List Fr.Str} {t : Fr.Str} (h : t ∈ ts) : t.length ≤ Jn.tot ts := by
 obtain ⟨i, hi, e⟩ := List.getElem_of_mem h
 have h1 := Jn.tot_next (ts := ts) (i := i) (t := t) (by rw [List.getElem?_eq_getElem hi, e])
 have h2 := Jn.tot_le ts (i + 1)
 omega
theorem Jn.rd_len (s : List Kn.C) (l : List UInt8) : 8 * (Jn.rd s l).2.length ≤ l.length := by
 have h := Jn.scan_n l
 unfold Jn.rd
 split
 ·exact Nat.zero_le _
 ·split
  ·exact Nat.zero_le _
  ·cases hr : Jn.rds s (Fr.scan l).2.1 with
   | none => exact Nat.zero_le _
   | some L =>
     simp only
     rw [Jn.rds_len hr]
     exact h
theorem Jn.puts_len : ∀ (l M : List Dd.D), (Mg.puts M l).length ≤ M.length + l.length
 | [], M => Nat.le_refl _
 | x :: l, M => by
   have h1 := Jn.puts_len l (Sk.put Bk.key M x)
   have h2 := Sk.put_len (key := Bk.key) M x
   show (Mg.puts (Sk.put Bk.key M x) l).length ≤ _
   rw [List.length_cons]
   omega
theorem Jn.puts_next {M L : List Dd.D} {k : Nat} {d : Dd.D} (h : L[k]? = some d) : Mg.puts M (L.take (k + 1)) = Sk.put Bk.key (Mg.puts M (L.take k)) d := by
 obtain ⟨hk, rfl⟩ := List.getElem?_eq_some_iff.1 h
 rw [List.take_succ_eq_append_getElem hk]
 unfold Mg.puts
 rw [List.foldl_append]
 rfl
theorem Jn.rpA_next {s : List Kn.C} {X : List Dd.D} {ts : List Fr.Str} {i : Nat} {t : Fr.Str} (h : ts[i]? = some t) :
 ((Jn.rd s t).1 = 0 → Jn.rpA s X (ts.drop i) = Jn.rpA s (Mg.puts X (Jn.rd s t).2) (ts.drop (i + 1))) ∧ ((Jn.rd s t).1 ≠ 0 → Jn.rpA s X (ts.drop i) = ((Jn.rd s t).1, [])) := by
 obtain ⟨hi, rfl⟩ := List.getElem?_eq_some_iff.1 h
 rw [List.drop_eq_getElem_cons hi]
 exact ⟨fun h0 => by rw [Jn.rpA, if_pos h0], fun h0 => by rw [Jn.rpA, if_neg h0]⟩
theorem Jn.fit_s {s : List Kn.C} (hr : Kn.right s = true) {d : Dd.D} (h : Dd.fitE s d = 0) : (∀ v ∈ d.row, Kn.Z v) ∧ d.row.length ≤ 6 ∧ d.row ≠ [] := by
 obtain ⟨_, h2, h3⟩ := Dd.fitE_0 h
 have h6 := Kn.right_len hr
 have hlen := h2
 rw [Bk.cols_len] at hlen
 refine ⟨fun v hv => ?_, by split at hlen <;> omega, fun e => by rw [e] at hlen; simp only [List.length_nil] at hlen; split at hlen <;> omega⟩
 obtain ⟨j, hj, rfl⟩ := List.mem_iff_getElem.1 hv
 have hc := List.getElem?_eq_getElem (l := Dd.cols s d.gone) (i := j) (by rw [← h2]; exact hj)
 have hg := Bk.good_of hr (Bk.cols_at.1 hc).1
 have hf := Bk.fitsAll_at _ _ h3 j _ _ hc (List.getElem?_eq_getElem hj)
 rw [Bk.fits_is hg] at hf
 unfold Kn.Z
 cases hv : d.row[j].null
 ·by_cases hk : (Dd.cols s d.gone)[j].k = 1
  ·rw [Cl.is_num hk hf hv]
   exact Nat.zero_le _
  ·have := (Cl.is_str hk hf hv).2
   rw [Bt.length_data] at this
   omega
 ·rw [(Cl.is_null hf hv).1]
  exact Nat.zero_le _
set_option maxHeartbeats 16000000 in
set_option maxRecDepth 100000 in
theorem Jn.rreplay_c (v vt : Value) (s : List Kn.C) (TS : List Fr.Str) (w : World) (hs : Kn.Cols w v s) (ht : Tx.At w.heap.size w vt TS) (hb : Jn.tot TS ≤ 4194304) (hn : TS.length ≤ 1048576) :
 Calls Tryz.prog 15 #[v, vt] w (Jn.GotP w (Jn.rp s TS)) := by
 have HS := Lib.hid hs
 have HN := Lib.hid hn
 have HBD := Lib.hid hb
 have HFT := Lib.hid fun (t : Fr.Str) (d : Dd.D) (h : d ∈ (Jn.rd s t).2) => (⟨Jn.fit_s (Dd.fitE_0 (Jn.rd_fit d h)).1 (Jn.rd_fit d h), Jn.rd_fit d h⟩ : _ ∧ _)
 obtain ⟨ta, tc, rfl, -, -, ht⟩ := ht
 have H9 := Lib.hid ht
 obtain ⟨q, hq⟩ : ∃ q, q = w.heap.size := ⟨_, rfl⟩
 have hst : Jn.Lst w q [] 0 0 (w.alloc (.cells #[.slice none 0 0] 68)) := by
  refine ⟨fun b => b = q, .slice none 0 0, [], ⟨?_, Dk.Own.nil _ _, fun b hb => by simp [Value.ownBlock] at hb, rfl, fun b hb => by rw [World.size_alloc, hb, hq]; omega, fun b hb hp => hp.2 hb, fun x hx => by cases hx⟩, rfl, fun b hb => by rw [hb, hq]; exact Nat.le_refl _, (Below.refl _ _).alloc (Nat.le_refl _) _, fun b _ hb => by omega⟩
  rw [hq]; exact heap_alloc_new w _
 have HST := Lib.hid hst
 have CR := Lib.hid fun (W : World) (t : Fr.Str) (g : Below w.heap.size w W) (h : t.length ≤ 4194304) => Jn.rread_c v s (Ty.S t) W (hs.later g) (by rw [Ty.size_S]; exact h)
 have HGD := Lib.hid fun (X : List Dd.D) (W : World) (u : Value) (h : Jn.rp s TS = (0, X)) (hd : Bk.Ds W u X) (g : Below w.heap.size w W) => Jn.GotP.good h hd g
 have HBA := Lib.hid fun (e : Nat) (W : World) (h : Jn.rp s TS = (e, [])) (g : Below w.heap.size w W) => Jn.GotP.bad h g
 obtain ⟨RES, hRES⟩ : ∃ RES, RES = Jn.rp s TS := ⟨_, rfl⟩
 rw [← hRES] at HGD HBA ⊢
 have HRES := Lib.hid hRES
 obtain ⟨a, c, rfl, -⟩ := id hs
 clear hs ht hb hst hRES
 go_enter Tryz.func15, Tryz.ntmps15
 go_wp2_with fail
 rw [← hq]
 generalize w.alloc _ = w1 at HST ⊢
 clear hq
 have hn := HN.out
 go_loopw [7] (fun iv wr => ∃ (i : Nat) (X : List Dd.D), i ≤ TS.length ∧ iv = .int .i64 i ∧ Hid (RES = Jn.rpA s X (TS.drop i)) ∧ Hid (8 * X.length ≤ Jn.tot (TS.take i)) ∧ Jn.Lst w q X 0 0 wr) (fun iv _ => TS.length - (intOf iv).toNat)
 case atStart => exact ⟨0, [], Nat.zero_le _, rfl, Lib.hid HRES.out, Lib.hid (Nat.zero_le _), HST.out⟩
 case round =>
  obtain ⟨i, X, hi, rfl, HR, HX, hL⟩ := hrel
  have HL := Lib.hid hL
  have hi0 : (0 : Int) ≤ (i : Int) := by omega
  have hbw := hL.below
  by_cases hil : i < TS.length
  ·rcases H9.out with ⟨h9, -⟩ | ⟨b, o, rfl, hlt, hc⟩
   ·rw [h9] at hil; simp at hil
   have c0 := (hbw.cell (p := ⟨b, o + i, none⟩) hlt).trans (hc i hil)
   have hx := List.getElem?_eq_getElem hil
   rw [Tx.sv, List.getD_eq_getElem?_getD, hx, Option.getD_some] at c0
   generalize TS[i] = t1 at hx c0
   have htl := Jn.len_tot (List.mem_of_getElem? hx)
   have CRR := Lib.hid (CR.out wr t1 hbw (by have := HBD.out; omega))
   rw [Ty.data_S] at CRR
   have HNX := Lib.hid (Jn.rpA_next (s := s) (X := X) hx)
   have HTT := Lib.hid (Jn.tot_next hx)
   have HTL := Lib.hid (Jn.tot_le TS (i + 1))
   have HRL := Lib.hid (Jn.rd_len s t1)
   have HFD := Lib.hid (HFT.out t1)
   generalize Jn.rd s t1 = D9 at CRR HNX HRL HFD
   have hii : (i : Int) < (TS.length : Int) := by omega
   have hi2 : (i : Int) ≤ 1048576 := by omega
   have HIL := Lib.hid hil
   clear hx hc hlt hil hi hL hbw htl hn
   go_wp2_with fail
   refine (CRR.out).mono ?_
   rintro e w5 ⟨u, Es, rfl, ho, g5⟩
   obtain ⟨er, L⟩ := D9
   simp only at HRL ho HFD ⊢
   have HO := Lib.hid ho
   have HL5 := Lib.hid (HL.out.later g5)
   have HG5 := Lib.hid g5
   obtain ⟨ua, uc, e9⟩ := Mg.own_len ho.ow ho.len
   subst e9
   clear ho g5 c0
   by_cases h0 : er = 0
   ·subst h0
    have HNY := Lib.hid (HNX.out.1 rfl)
    clear HNX
    have hll : (L.length : Int) ≤ 524288 := by have := HRL.out; have := HTT.out; have := HTL.out; have := HBD.out; omega
    obtain ⟨lo, hlo⟩ : ∃ lo, lo = wr.heap.size := ⟨_, rfl⟩
    have HLO := Lib.hid hlo
    rw [← hlo] at HL5
    obtain ⟨hi9, hhi⟩ : ∃ hi9, hi9 = w5.heap.size := ⟨_, rfl⟩
    rw [← hhi] at HL5
    have HHI := Lib.hid hhi
    clear hlo hhi
    go_wp2_with fail
    go_loopw [10] (fun kv wk => ∃ k : Nat, k ≤ L.length ∧ kv = .int .i64 k ∧ Jn.Lst w q (Mg.puts X (L.take k)) lo hi9 wk ∧ Hid (∀ b, lo ≤ b → b < hi9 → wk.heap[b]? = w5.heap[b]?) ∧ Hid (w5.heap.size ≤ wk.heap.size)) (fun kv _ => L.length - (intOf kv).toNat)
    case atStart => exact ⟨0, Nat.zero_le _, rfl, HL5.out, Lib.hid (fun b _ _ => rfl), Lib.hid (Nat.le_refl _)⟩
    case round =>
     obtain ⟨k, hk, rfl, hL, HEQ, HSZ⟩ := hrel
     have HL2 := Lib.hid hL
     have hk0 : (0 : Int) ≤ (k : Int) := by omega
     by_cases hkl : k < L.length
     ·have hy := List.getElem?_eq_getElem hkl
      generalize L[k] = d at hy
      obtain ⟨hne, y, e1, e2, e3, e4⟩ := HO.out.rd k d hy
      obtain ⟨hzd, hfd⟩ := HFD.out d (List.mem_of_getElem? hy)
      rcases HO.out.ow.form with ⟨e5, _⟩ | ⟨g, cg, e5, -, -, hgl, hgh⟩
      ·simp only [Value.slice.injEq] at e5
       omega
      simp only [Value.slice.injEq] at e5
      obtain ⟨rfl, -, rfl⟩ := e5
      have hgr := HEQ.out g (by rw [HLO.out]; exact hgl) (by rw [HHI.out]; exact hgh)
      obtain ⟨yg, ya, yn, yc⟩ := y
      have d0 : wr.cell? ⟨g, k * 2, none⟩ = some (.bool yg) := (World.cell?_of_block hgr).trans (HO.out.ow.cell Rn.e2_len rfl e1 (j := 0) (by decide))
      have d1 : wr.cell? ⟨g, k * 2 + 1, none⟩ = some (.slice ya yn yc) := (World.cell?_of_block hgr).trans (HO.out.ow.cell Rn.e2_len rfl e1 (j := 1) (by decide))
      simp only at e2 e3 e4
      have hrange : ∀ kk, (Bk.sv (ya, yn, yc)).ownBlock = some kk → lo ≤ kk ∧ kk < hi9 := fun kk hkk => ⟨by rw [HLO.out]; exact (e4 kk hkk).1, by rw [HHI.out]; exact Jn.vals_alive e3 hne hkk⟩
      have CP := Lib.hid (Jn.put_c hL (by
       have h1 := Jn.puts_len (L.take k) X
       rw [List.length_take] at h1
       have := HX.out
       have := HTT.out
       have := HTL.out
       have := HRL.out
       have := HBD.out
       omega) (Jn.vals_same e3 hne HSZ.out fun kk hkk => HEQ.out kk (hrange kk hkk).1 (hrange kk hkk).2) hzd.1 hne hrange)
      rw [← e2] at CP
      simp only [Bk.sv] at CP
      have HNK := Lib.hid (Jn.puts_next (M := X) hy)
      have hki : (k : Int) < (L.length : Int) := by omega
      have hkm : (k : Int) ≤ 524288 := by omega
      have HKL := Lib.hid hkl
      clear hL hy hne e1 e2 e3 e4 hzd hfd hgl hgh hgr hrange hkl hk
      go_wp2_with fail
      refine (CP.out).mono ?_
      rintro e w7 ⟨rfl, h7, h8, h9⟩
      have H7 := Lib.hid h7
      have HEQ7 : Hid (∀ b, lo ≤ b → b < hi9 → w7.heap[b]? = w5.heap[b]?) := Lib.hid fun b hl hh => (h8 b hl hh).trans (HEQ.out b hl hh)
      have HSZ7 : Hid (w5.heap.size ≤ w7.heap.size) := Lib.hid (Nat.le_trans HSZ.out h9)
      clear h7 h8 h9 d0 d1
      go_wp2
      go_roundw
      case rel => exact ⟨k + 1, HKL.out, by simp, by rw [HNK.out]; exact H7.out, HEQ7, HSZ7⟩
      case measure => (have := HKL.out; simp [intOf]; omega)
     ·obtain rfl : k = L.length := by omega
      have hki : ¬ (L.length : Int) < (L.length : Int) := by omega
      rw [List.take_length] at HL2
      have HNN := Lib.hid HL2.out.none
      have HXN : Hid (8 * (Mg.puts X L).length ≤ Jn.tot (TS.take (i + 1))) := Lib.hid (by
       have h1 := Jn.puts_len L X
       have h2 := HX.out
       have h3 := HRL.out
       have h4 := HTT.out
       omega)
      have HRN : Hid (RES = Jn.rpA s (Mg.puts X L) (TS.drop (i + 1))) := Lib.hid (HR.out.trans HNY.out)
      clear hk hkl hL
      go_wp2
      go_roundw
      case rel => exact ⟨i + 1, _, HIL.out, by simp, HRN, HXN, HNN.out⟩
      case measure => (have := HIL.out; simp [intOf]; omega)
   ·have HFN := Lib.hid (HBA.out er w5 (HR.out.trans (HNX.out.2 h0)) (HL5.out.below))
    have hne : ((er : Int) != 0) = true := by rw [bne_iff_ne]; omega
    clear h0
    go_wp2
    go_ret2
    exact HFN.out
  ·obtain rfl : i = TS.length := by omega
   have hii : ¬ (TS.length : Int) < (TS.length : Int) := by omega
   have HE : Hid (RES = (0, X)) := Lib.hid (by rw [HR.out, List.drop_length]; rfl)
   obtain ⟨S, vl, M, h1, h2, -, -, -⟩ := hL
   have c0 : wr.cell? ⟨q, 0, none⟩ = some vl := by rw [cell_of_row wr q _ _ _ _ h1.blk]; rfl
   have HFN := Lib.hid (HGD.out X wr vl HE.out (by rw [← h2]; exact Jn.rl_ds h1) hbw)
   clear h1 h2 hi hil hn hbw
   go_wp2
   go_ret2
   exact HFN.out
end
section
open Go
theorem Jn.dec_from : ∀ (l : List UInt8) (a : Nat), l.all Jn.dig = true → Lib.decFrom a l = some (l.foldl (fun a c => 10 * a + (c.toNat - 48)) a)
 | [], _, _ => rfl
 | c :: l, a, h => by
   rw [List.all_cons, Bool.and_eq_true] at h
   have h1 : 48 ≤ c.toNat ∧ c.toNat ≤ 57 := by
    have := h.1
    unfold Jn.dig at this
    exact of_decide_eq_true this
   unfold Lib.decFrom Lib.digitVal
   rw [if_pos h1, List.foldl_cons]
   simp only
   rw [Jn.dec_from l _ h.2, Nat.mul_comm a 10]
theorem Jn.atoi_dig (l : List UInt8) (h : l.all Jn.dig = true) (hne : l ≠ []) : Lib.atoi l = some ((Jn.val l : Nat) : Int) := by
 cases l with
 | nil => exact absurd rfl hne
 | cons c r =>
   have h1 : 48 ≤ c.toNat ∧ c.toNat ≤ 57 := by
    have := (Bool.and_eq_true _ _ ▸ (List.all_cons ▸ h)).1
    unfold Jn.dig at this
    exact of_decide_eq_true this
   have n1 : (c == 45) = false := by
    rw [beq_eq_false_iff_ne]
    intro e
    rw [e] at h1
    exact absurd h1.1 (by decide)
   have n2 : (c == 43) = false := by
    rw [beq_eq_false_iff_ne]
    intro e
    rw [e] at h1
    exact absurd h1.1 (by decide)
   simp only [Lib.atoi]
   rw [if_neg (by rw [n1]; decide), if_neg (by rw [n2]; decide)]
   have e : Lib.decNat (c :: r) = some (Jn.val (c :: r)) := by
    unfold Lib.decNat
    rw [if_neg (by simp)]
    exact Jn.dec_from _ 0 h
   rw [e]
   rfl
theorem Jn.ok_atoi {l s : List UInt8} (h : Jn.okN l s = true) : Lib.atoiAll (s.drop l.length) = .ok ((Jn.num l s : Nat) : Int) := by
 have hn : Jn.num l s = Jn.val (s.drop l.length) := by unfold Jn.num; rw [if_pos h]
 unfold Jn.okN at h
 rw [Bool.and_eq_true, Bool.and_eq_true, Bool.and_eq_true] at h
 obtain ⟨h1, h2, h3, h4⟩ := h
 have h2 := of_decide_eq_true h2
 have h4 := of_decide_eq_true h4
 have hne : s.drop l.length ≠ [] := fun e => by
  have := (Jn.dec_len 1 0 (by decide) (by decide)).1
  rw [e] at h4
  have h5 := congrArg List.length h4
  rw [show Jn.val [] = 0 from rfl] at h5
  rw [List.length_nil] at h5
  omega
 rw [Lib.atoiAll_short _ (by omega), Jn.atoi_dig _ h3 hne, hn]
 rfl
theorem Jn.ok_of {l s : List UInt8} {v : Int} (h : Lib.atoiAll (s.drop l.length) = .ok v) :
 (Jn.name l v = s → Jn.okN l s = true ∧ ((Jn.num l s : Nat) : Int) = v) ∧ (Jn.name l v ≠ s → Jn.okN l s = false) := by
 refine ⟨fun e => ?_, fun e => ?_⟩
 ·by_cases hv : v < 0 ∨ 999999999 < v
  ·have e0 := Jn.name_nil (l := l).2 hv
   rw [e0] at e
   rw [← e, List.drop_nil] at h
   simp [Lib.atoiAll] at h
  ·have := Jn.name_ok (l := l) (n := v) (by omega) (by omega)
   rwa [e] at this
 ·cases hO : Jn.okN l s
  ·rfl
  ·have h2 := Jn.ok_atoi hO
   rw [h] at h2
   injection h2 with h2
   exact absurd (by rw [h2]; exact (Jn.ok_name hO).2) e
theorem Jn.ok_not {l s : List UInt8} (h : ∀ v, Lib.atoiAll (s.drop l.length) ≠ .ok v) : Jn.okN l s = false := by
 cases hO : Jn.okN l s
 ·rfl
 ·exact absurd (Jn.ok_atoi hO) (h _)
theorem Jn.ok_pfx {l s : List UInt8} (h : Lib.hasPrefix s l = false) : Jn.okN l s = false := by
 unfold Lib.hasPrefix at h
 unfold Jn.okN
 rw [h]
 rfl
theorem Jn.num_no {l s : List UInt8} (h : Jn.okN l s = false) : Jn.num l s = 0 := by
 unfold Jn.num
 rw [if_neg (by rw [h]; decide)]
end
section
open Go.RowKit
open Ty (I64)
def Dd.Cap (v : Value) : Prop := ∀ a n c, v = .slice a n c → n ≤ c
theorem Dd.Cap.of {a : Option Addr} {n c : Nat} (h : n ≤ c) : Dd.Cap (.slice a n c) := fun a' n' c' e => by
 simp only [Value.slice.injEq] at e
 omega
def Dd.Cols (w : World) (v : Value) (l : List Kn.C) : Prop := Kn.Cols w v l ∧ Dd.Cap v
theorem Dd.Cols.later {w w' : World} {v : Value} {l : List Kn.C} (h : Dd.Cols w v l) (g : Below w.heap.size w w') : Dd.Cols w' v l := ⟨h.1.later g, h.2⟩
theorem Dd.Cols.first {w : World} {a : Option Addr} {n c : Nat} {l : List Kn.C} (h : Dd.Cols w (.slice a n c) l) (hl : 1 ≤ l.length) : Dd.Cols w (.slice a 1 c) (l.take 1) := by
 obtain ⟨⟨a', c', e, h⟩, hc⟩ := h
 simp only [Value.slice.injEq] at e
 obtain ⟨rfl, rfl, rfl⟩ := e
 have hc := hc _ _ _ rfl
 refine ⟨⟨a, c, by rw [List.length_take, Nat.min_eq_left hl], ?_⟩, Dd.Cap.of (by omega)⟩
 rcases h with rfl | ⟨b, o, rfl, hb, hm, h⟩
 ·simp at hl
 ·refine .inr ⟨b, o, rfl, hb, by rw [List.length_take]; omega, fun i x hx => h i x ?_⟩
  rw [List.getElem?_take] at hx
  split at hx
  ·exact hx
  ·cases hx
theorem Dd.cols_right {s : List Kn.C} (h : Kn.right s = true) (g : Bool) : Kn.right (Dd.cols s g) = true := by
 unfold Dd.cols
 cases g
 ·exact h
 ·rw [if_pos rfl]
  obtain ⟨x, t, rfl, hx, hg⟩ := Kn.right_head h
  simp [Kn.right, Kn.headOk, hx, hg]
theorem Dd.cols_good {s : List Kn.C} (h : Kn.right s = true) {g : Bool} {k : Nat} {c : Kn.C} (hc : (Dd.cols s g)[k]? = some c) : c.good = true := by
 have ha := Kn.right_all (Dd.cols_right h g)
 exact (List.all_eq_true.1 ha) c (List.mem_of_getElem? hc)
theorem Dd.cols_len {s : List Kn.C} (h : Kn.right s = true) (g : Bool) : 1 ≤ (Dd.cols s g).length ∧ (Dd.cols s g).length ≤ 6 := Kn.right_len (Dd.cols_right h g)
theorem Dd.fitE_cols {s : List Kn.C} (h : Kn.right s = true) (d : Dd.D) : Kn.fitsE (Dd.cols s d.gone) d.row = Dd.fitE s d := by
 have hr := Dd.cols_right h d.gone
 obtain ⟨g, row⟩ := d
 unfold Dd.fitE
 cases g
 ·rfl
 ·simp only [if_true] at hr ⊢
  rw [if_pos h]
  obtain ⟨x, t, rfl, hx, hg⟩ := Kn.right_head h
  have e : Dd.cols (x :: t) true = [x] := rfl
  simp only [e] at hr ⊢
  match row with
  | [] => exact Kn.fitsE_len hr (by simp)
  | [k] =>
    simp only
    unfold Kn.fitsE Kn.keyE
    rw [if_pos hr, if_pos h, if_pos (by simp)]
    simp only [Kn.fitsAll, Bool.and_true]
  | _ :: _ :: _ => exact Kn.fitsE_len hr (by simp)
theorem Dd.fitE_not {s : List Kn.C} (h : Kn.right s = false) (d : Dd.D) : Dd.fitE s d = 4 := by
 unfold Dd.fitE
 split
 ·rw [h, if_neg (by decide)]
 ·exact Kn.fitsE_bad h
set_option maxRecDepth 100000 in
set_option maxHeartbeats 400000 in
theorem Dd.columnsOf_c (v : Value) (s : List Kn.C) (g : Bool) (w : World) (hs : Dd.Cols w v s) (hl : 1 ≤ s.length) :
 Calls Tryz.prog 49 #[v, .bool g] w fun e w' => (∃ u, e = .returned u ∧ ∀ W, Dd.Cols W v s → Dd.Cols W u (Dd.cols s g)) ∧ w' = w := by
 obtain ⟨a, c, rfl, _⟩ := hs.1.is
 have hc := hs.2 _ _ _ rfl
 have hc1 : (1 : Int) ≤ (c : Int) := by omega
 cases g
 ·go_enter Tryz.func49, Tryz.ntmps49
  go_wp2
  go_ret
  exact ⟨⟨_, rfl, fun W h => h⟩, rfl⟩
 ·have hl2 := Lib.hid hl
  go_enter Tryz.func49, Tryz.ntmps49
  go_wp2
  go_ret
  exact ⟨⟨_, rfl, fun W h => h.first hl2.out⟩, rfl⟩
set_option maxRecDepth 100000 in
set_option maxHeartbeats 400000 in
theorem Dd.appendFlag_c (base : Nat) (v : Value) (bs : List UInt8) (b : Bool) (w : World) (hown : Ty.Buf base w v bs) (hb : base ≤ w.heap.size) (hl : bs.length + 1 ≤ 140737488355328) :
 Calls Tryz.prog 51 #[v, .bool b] w (Ty.Written base w v (bs ++ [Dd.flag b])) := by
 cases b
 ·go_enter Tryz.func51, Tryz.ntmps51
  go_wp2_with (at_builtin; refine Ty.wpList_append_byte hown hb hl (.tmp 9) (.tmp 10) _ rfl rfl rfl rfl ?_; intro v1 w1 h1 g1)
  go_ret
  exact ⟨v1, rfl, h1 _ rfl, g1⟩
 ·go_enter Tryz.func51, Tryz.ntmps51
  go_wp2_with (at_builtin; refine Ty.wpList_append_byte hown hb hl (.tmp 6) (.tmp 7) _ rfl rfl rfl rfl ?_; intro v1 w1 h1 g1)
  go_ret
  exact ⟨v1, rfl, h1 _ rfl, g1⟩
end
section
open Go.RowKit
def Dd.T (w : World) : Prop := Ty.Tabs w
theorem Dd.T.below {w w' : World} (h : Dd.T w) (g : Below w.heap.size w w') : Dd.T w' := Ty.Tabs.below h g (Ty.Tabs.two h)
end
section
open Go.RowKit
def Jn.Err (w : World) : Prop := ∃ (tp : TypeId) (p : Value) (tq : TypeId) (q : Value), w.var? Tryz.prog "strconv.ErrSyntax" = some #[.iface tp p] ∧ w.var? Tryz.prog "strconv.ErrRange" = some #[.iface tq q]
theorem Jn.var_below {P : Program} {n : String} {cs : Array Value} {w w' : World} (h : w.var? P n = some cs) (g : Below w.heap.size w w') : w'.var? P n = some cs := by
 unfold World.var? at h ⊢
 cases hg : P.globalNamed n with
 | none => rw [hg] at h; cases h
 | some b =>
   rw [hg] at h
   simp only [Option.bind_some] at h ⊢
   cases ho : w.heap[b]? with
   | none => rw [ho] at h; cases h
   | some o =>
     rw [(g.block b (Array.getElem?_eq_some_iff.1 ho).1).trans ho]
     rw [ho] at h
     exact h
theorem Jn.Err.below {w w' : World} (h : Jn.Err w) (g : Below w.heap.size w w') : Jn.Err w' := by
 obtain ⟨tp, p, tq, q, h1, h2⟩ := h
 exact ⟨tp, p, tq, q, Jn.var_below h1 g, Jn.var_below h2 g⟩
theorem Jn.Pow.below {w w' : World} (h : Jn.Pow w) (g : Below w.heap.size w w') : Jn.Pow w' := Jn.var_below h g
def Jn.T (w : World) : Prop := Jn.Pow w ∧ Ty.Tabs w ∧ Jn.Err w
theorem Jn.T.pow {w : World} (h : Jn.T w) : Jn.Pow w := h.1
theorem Jn.T.below {w w' : World} (h : Jn.T w) (g : Below w.heap.size w w') : Jn.T w' := ⟨h.1.below g, Ty.Tabs.below h.2.1 g (Ty.Tabs.two h.2.1), h.2.2.below g⟩
set_option maxHeartbeats 2000000 in
set_option maxRecDepth 100000 in
theorem Jn.name_c (lt : ByteArray) (n : Int) (w : World) (hT : Jn.T w) (h0 : -9223372036854775808 ≤ n) (h1 : n ≤ 9223372036854775807) (hl : lt.size ≤ 140737488355328) :
 Calls Tryz.prog 18 #[.string lt, .int .i64 n] w fun e w' => e = .returned (.string (Ty.S (Jn.name lt.data.toList n))) ∧ Below w.heap.size w w' := by
 have CI := Lib.hid (Any.strconv_Itoa Tryz.itoaL n h0 h1 w hT.pow)
 by_cases hn : n < 0
 ·have e : Jn.name lt.data.toList n = [] := Jn.name_nil.2 (.inl hn)
  rw [e]
  clear CI
  go_enter Tryz.func18, Tryz.ntmps18
  go_wp2
  go_ret
  exact ⟨rfl, Below.refl _ _⟩
 ·by_cases hm : (999999999 : Int) < n
  ·have e : Jn.name lt.data.toList n = [] := Jn.name_nil.2 (.inr hm)
   rw [e]
   clear CI
   go_enter Tryz.func18, Tryz.ntmps18
   go_wp2
   go_ret
   exact ⟨rfl, Below.refl _ _⟩
  ·obtain ⟨u, rfl⟩ : ∃ u : Nat, n = (u : Int) := ⟨n.toNat, by omega⟩
   have e : Jn.name lt.data.toList (u : Int) = lt.data.toList ++ Lib.decDigits u := by unfold Jn.name; rw [if_neg (by omega), Int.toNat_natCast]
   rw [e, ← Jn.S_add]
   rw [Lib.itoa_nonneg] at CI
   have hln := (Jn.dec_len 9 u (by decide) (by omega)).2
   have hsz : ¬ 9223372036854775807 < lt.size + (⟨(Lib.decDigits u).toArray⟩ : ByteArray).size := by
    show ¬ 9223372036854775807 < lt.size + (Lib.decDigits u).toArray.size
    rw [List.size_toArray]
    omega
   generalize (⟨(Lib.decDigits u).toArray⟩ : ByteArray) = ds at CI hsz ⊢
   clear e hT hln
   go_enter Tryz.func18, Tryz.ntmps18
   go_wp2_with fail
   refine (CI.out).mono ?_
   rintro e w1 ⟨rfl, k, os, rfl⟩
   go_wp2
   go_ret
   exact ⟨rfl, Jn.grow_below _ _ _⟩
set_option maxHeartbeats 4000000 in
set_option maxRecDepth 100000 in
theorem Jn.number_c (lt nm : ByteArray) (w : World) (hT : Jn.T w) (hl : lt.size ≤ 140737488355328) (hn : nm.size ≤ 281474976710656) :
 Calls Tryz.prog 17 #[.string lt, .string nm] w fun e w' => e = .returned (.tuple #[.int .i64 (Jn.num lt.data.toList nm.data.toList : Nat), .bool (Jn.okN lt.data.toList nm.data.toList)]) ∧ Below w.heap.size w w' := by
 have CP := Lib.hid (Any.strings_CutPrefix Tryz.cutpL nm lt w)
 obtain ⟨l, hll⟩ : ∃ l, l = lt.data.toList := ⟨_, rfl⟩
 obtain ⟨s, hss⟩ : ∃ s, s = nm.data.toList := ⟨_, rfl⟩
 rw [← hll, ← hss] at CP ⊢
 have hnm : nm = Ty.S s := by rw [hss]; rfl
 have hsl : s.length = nm.size := by rw [hss]; exact Array.length_toList
 cases hp : Lib.hasPrefix s l
 ·have ho := Jn.ok_pfx hp
  rw [ho, Jn.num_no ho]
  rw [hp] at CP
  generalize (⟨(Lib.trimPrefix s l).toArray⟩ : ByteArray) = ds at CP
  clear hT ho hp hsl hnm hll hss
  go_enter Tryz.func17, Tryz.ntmps17
  go_wp2_with fail
  refine (CP.out).mono ?_
  rintro e w1 ⟨rfl, h9⟩
  subst h9
  go_wp2
  go_ret2
  exact ⟨rfl, Below.refl _ _⟩
 ·have ht : Lib.trimPrefix s l = s.drop l.length := by unfold Lib.trimPrefix; rw [if_pos hp]
  rw [hp, ht] at CP
  obtain ⟨D, hD⟩ : ∃ D : ByteArray, D = ⟨(s.drop l.length).toArray⟩ := ⟨_, rfl⟩
  have hDl : D.data.toList = s.drop l.length := by rw [hD]
  have hDs : D.size ≤ 281474976710656 := by
   rw [hD]
   show (s.drop l.length).toArray.size ≤ _
   rw [List.size_toArray, List.length_drop]
   omega
  rw [← hD] at CP
  cases ha : Lib.atoiAll (s.drop l.length) with
  | ok v =>
    obtain ⟨hv0, hv1⟩ := Lib.atoiAll_bounds ha
    have CA := Lib.hid (Any.strconv_Atoi_ok Tryz.atoiL D (by omega) v (by rw [hDl]; exact ha) w)
    have CN := Lib.hid fun (W : World) (g : Below w.heap.size w W) => Jn.name_c lt v W (hT.below g) hv0 hv1 hl
    rw [← hll] at CN
    obtain ⟨hy, hno⟩ := Jn.ok_of ha
    have HB : Hid (((Ty.S (Jn.name l v)).toList == nm.toList) = true → Jn.okN l s = true ∧ ((Jn.num l s : Nat) : Int) = v) := Lib.hid fun h => hy (by
     rw [hnm, Ty.S_beq] at h
     exact eq_of_beq h)
    have HN : Hid (((Ty.S (Jn.name l v)).toList == nm.toList) = false → Jn.okN l s = false ∧ Jn.num l s = 0) := Lib.hid fun h => by
     rw [hnm, Ty.S_beq] at h
     have := hno (by simpa using h)
     exact ⟨this, Jn.num_no this⟩
    generalize Ty.S (Jn.name l v) = nv at CN HB HN
    generalize Jn.okN l s = O at HB HN ⊢
    generalize Jn.num l s = M at HB HN ⊢
    clear hT hp ht hD hDl hDs hy hno hsl hnm hll hss
    clear ha
    go_enter Tryz.func17, Tryz.ntmps17
    go_wp2_with fail
    refine (CP.out).mono ?_
    rintro e w1 ⟨rfl, h9⟩
    subst h9
    go_wp2_with fail
    refine (CA.out).mono ?_
    rintro e w2 ⟨rfl, hw2⟩
    have HG2 : Hid (Below w1.heap.size w1 w2) := Lib.hid (by
     rcases hw2 with rfl | ⟨t, rfl⟩
     ·exact Below.refl _ _
     ·exact Lib.bytesWorld_below _ _ _)
    clear hw2
    go_wp2_with fail
    refine (CN.out w2 HG2.out).mono ?_
    rintro e w3 ⟨rfl, g3⟩
    have HG3 := Lib.hid (HG2.out.trans (g3.mono HG2.out.size))
    clear g3
    cases hb : (nv.toList == nm.toList)
    ·obtain ⟨rfl, rfl⟩ := HN.out hb
     clear HB HN
     go_wp2
     go_ret2
     exact ⟨rfl, HG3.out⟩
    ·obtain ⟨rfl, rfl⟩ := HB.out hb
     clear HB HN
     go_wp2
     go_ret2
     exact ⟨rfl, HG3.out⟩
  | «syntax» =>
    have ho := Jn.ok_not (l := l) (s := s) (fun v h => by rw [ha] at h; cases h)
    rw [ho, Jn.num_no ho]
    obtain ⟨tp, p, tq, q, e1, e2⟩ := hT.2.2
    have CA := Lib.hid (Any.strconv_Atoi_syntax_var Tryz.atoiL D hDs (by rw [hDl]; exact ha) tp p w e1)
    clear hT hp ht hD hDl hDs ha ho hsl hnm hll hss e1 e2
    go_enter Tryz.func17, Tryz.ntmps17
    go_wp2_with fail
    refine (CP.out).mono ?_
    rintro e w1 ⟨rfl, h9⟩
    subst h9
    go_wp2_with fail
    refine (CA.out).mono ?_
    rintro e w2 ⟨N9, rfl, -, -, g2⟩
    have HG2 := Lib.hid g2
    clear g2
    go_wp2
    go_ret2
    exact ⟨rfl, HG2.out⟩
  | range =>
    have ho := Jn.ok_not (l := l) (s := s) (fun v h => by rw [ha] at h; cases h)
    rw [ho, Jn.num_no ho]
    obtain ⟨tp, p, tq, q, e1, e2⟩ := hT.2.2
    have CA := Lib.hid (Any.strconv_Atoi_range_var Tryz.atoiL D hDs (by rw [hDl]; exact ha) tq q w e2)
    clear hT hp ht hD hDl hDs ha ho hsl hnm hll hss e1 e2
    generalize Lib.atoiSat D.data.toList = sat at CA
    go_enter Tryz.func17, Tryz.ntmps17
    go_wp2_with fail
    refine (CP.out).mono ?_
    rintro e w1 ⟨rfl, h9⟩
    subst h9
    go_wp2_with fail
    refine (CA.out).mono ?_
    rintro e w2 ⟨N9, rfl, -, -, g2⟩
    have HG2 := Lib.hid g2
    clear g2
    go_wp2
    go_ret2
    exact ⟨rfl, HG2.out⟩
end
section
open Go.RowKit
theorem Jn.wV_bad {s : List Kn.C} {d : Dd.D} (h : Dd.fitE s d ≠ 0) : Jn.wV s d = .tuple #[.string (Ty.S []), .int .i64 (Dd.fitE s d)] := by
 unfold Jn.wV Jn.wS
 rw [if_neg h]
theorem Jn.wV_good {s : List Kn.C} {d : Dd.D} (h : Dd.fitE s d = 0) : Jn.wV s d = .tuple #[.string (Ty.S (Fr.frm (Dd.enc s d))), .int .i64 0] := by
 unfold Jn.wV Jn.wS
 rw [if_pos h, h]
theorem Jn.dwV_good {s : List Kn.C} {d : Dd.D} (h : Dd.fitE s d = 0) : Dd.wV s d = .tuple #[.string (Ty.S (Dd.enc s d)), .int .i64 0] := by
 unfold Dd.wV Dd.wS
 rw [if_pos h, h]
set_option maxHeartbeats 4000000 in
set_option maxRecDepth 100000 in
theorem Jn.rwrite_c (v u : Value) (s : List Kn.C) (d : Dd.D) (w : World) (hs : Kn.Cols w v s) (hu : Kn.Vals w u d.row) (hi : ∀ x ∈ d.row, Ty.I64 x.n) (hl : Dd.fitE s d = 0 → (Dd.enc s d).length ≤ 500) :
 Calls Tryz.prog 11 #[v, .agg #[.bool d.gone, u]] w fun e w' => e = .returned (Jn.wV s d) ∧ Below w.heap.size w w' := by
 obtain ⟨wb, hwb⟩ : ∃ wb, wb = w.alloc (.cells #[.bool d.gone, u] 26) := ⟨_, rfl⟩
 have hb : Below w.heap.size w wb := by rw [hwb]; exact (Below.refl _ w).alloc (Nat.le_refl _) _
 have d0 : wb.cell? ⟨w.heap.size, 0, none⟩ = some (.bool d.gone) := by rw [hwb]; exact Kn.cell_new w _ _ 0 _ rfl
 have d1 : wb.cell? ⟨w.heap.size, 1, none⟩ = some u := by rw [hwb]; exact Kn.cell_new w _ _ 1 _ rfl
 have CW := Lib.hid (Dd.rwrite_c v u s d wb (hs.later hb) (hu.later hb) hi)
 have HB := Lib.hid hb
 obtain ⟨a, c, rfl, -⟩ := id hs
 obtain ⟨ua, uc, rfl, -⟩ := id hu
 by_cases h0 : Dd.fitE s d = 0
 ·have hlen := hl h0
  rw [Jn.dwV_good h0] at CW
  rw [Jn.wV_good h0]
  have CF := Lib.hid fun (W : World) => Fr.rwrite_c (Ty.S (Dd.enc s d)) (by rw [Ty.size_S]; omega) W
  rw [Ty.data_S] at CF
  generalize Dd.enc s d = en at CW CF
  generalize Fr.frm en = fr at CF ⊢
  generalize d.gone = gd at CW d0 hwb
  generalize d.row.length = rl at CW d1 hwb
  clear h0 hs hu hi hl hb hlen
  go_enter Tryz.func11, Tryz.ntmps11
  go_wp2_with fail
  rw [← hwb]
  refine (CW.out).mono ?_
  rintro e w1 ⟨rfl, g1⟩
  have HG1 := Lib.hid (HB.out.trans (g1.mono HB.out.size))
  clear g1 d0 d1
  go_wp2_with fail
  refine (CF.out w1).mono ?_
  rintro e w2 ⟨rfl, g2⟩
  have HG2 := Lib.hid (HG1.out.trans (g2.mono HG1.out.size))
  clear g2
  go_wp2
  go_ret2
  exact ⟨rfl, HG2.out⟩
 ·rw [Dd.wV_bad h0] at CW
  rw [Jn.wV_bad h0]
  have hne : (Dd.fitE s d != 0) = true := by rw [bne_iff_ne]; exact h0
  generalize Dd.fitE s d = E at CW hne ⊢
  generalize d.gone = gd at CW d0 hwb
  generalize d.row.length = rl at CW d1 hwb
  clear h0 hs hu hi hl hb
  go_enter Tryz.func11, Tryz.ntmps11
  go_wp2_with fail
  rw [← hwb]
  refine (CW.out).mono ?_
  rintro e w1 ⟨rfl, g1⟩
  have HG1 := Lib.hid (HB.out.trans (g1.mono HB.out.size))
  clear g1 d0 d1
  go_wp2
  go_ret2
  exact ⟨rfl, HG1.out⟩
end
section
open Go
def Jn.tx (s : List Kn.C) (L : List Dd.D) : List UInt8 := (L.map (Dd.enc s)).flatMap Fr.frm
def Jn.Ok (s : List Kn.C) (L : List Dd.D) : Prop := ∀ d ∈ L, Dd.fitE s d = 0 ∧ ∀ v ∈ d.row, Ty.I64 v.n
theorem Jn.enc_len {s : List Kn.C} {d : Dd.D} (h : Dd.fitE s d = 0) : (Dd.enc s d).length ≤ 500 := by
 rw [← Dd.pre_all h]
 exact Dd.pre_len h (Nat.le_refl _)
theorem Jn.tx_nil (s : List Kn.C) : Jn.tx s [] = [] := rfl
theorem Jn.tx_append (s : List Kn.C) (A B : List Dd.D) : Jn.tx s (A ++ B) = Jn.tx s A ++ Jn.tx s B := by
 unfold Jn.tx
 rw [List.map_append, List.flatMap_append]
theorem Jn.tx_one (s : List Kn.C) (d : Dd.D) : Jn.tx s [d] = Fr.frm (Dd.enc s d) := by
 unfold Jn.tx
 simp
theorem Jn.tx_next {s : List Kn.C} {L : List Dd.D} {k : Nat} {d : Dd.D} (h : L[k]? = some d) (hd : Dd.fitE s d = 0) : Jn.tx s (L.take (k + 1)) = Jn.tx s (L.take k) ++ Jn.wS s d := by
 obtain ⟨hk, rfl⟩ := List.getElem?_eq_some_iff.1 h
 rw [List.take_succ_eq_append_getElem hk, Jn.tx_append, Jn.tx_one]
 unfold Jn.wS
 rw [if_pos hd]
theorem Jn.wS_le (s : List Kn.C) (d : Dd.D) : (Jn.wS s d).length ≤ 508 := by
 unfold Jn.wS
 split
 ·next h => rw [Fr.frm_len]; have := Jn.enc_len h; omega
 ·exact Nat.zero_le _
theorem Jn.tx_le {s : List Kn.C} : ∀ {L : List Dd.D}, (∀ d ∈ L, Dd.fitE s d = 0) → (Jn.tx s L).length ≤ 508 * L.length
 | [], _ => Nat.le_refl _
 | d :: L, h => by
   have ih := Jn.tx_le (s := s) (L := L) fun x hx => h x (List.mem_cons_of_mem _ hx)
   have e : Jn.tx s (d :: L) = Fr.frm (Dd.enc s d) ++ Jn.tx s L := rfl
   have := Jn.enc_len (h d List.mem_cons_self)
   rw [e, List.length_append, Fr.frm_len, List.length_cons]
   omega
theorem Jn.ok_take {s : List Kn.C} {L : List Dd.D} (h : Jn.Ok s L) (n : Nat) : Jn.Ok s (L.take n) := fun d hd => h d (List.mem_of_mem_take hd)
theorem Jn.ok_drop {s : List Kn.C} {L : List Dd.D} (h : Jn.Ok s L) (n : Nat) : Jn.Ok s (L.drop n) := fun d hd => h d (List.mem_of_mem_drop hd)
theorem Jn.ok_right {s : List Kn.C} {L : List Dd.D} (h : Jn.Ok s L) (hne : L ≠ []) : Kn.right s = true := by
 obtain ⟨d, r, rfl⟩ := List.exists_cons_of_ne_nil hne
 exact (Dd.fitE_0 (h d List.mem_cons_self).1).1
theorem Jn.txt_le {s : List Kn.C} {L : List Dd.D} (h : Jn.Ok s L) : ∀ t ∈ L.map (Dd.enc s), t.length ≤ 1048576 := fun t ht => by
 obtain ⟨d, hd, rfl⟩ := List.mem_map.1 ht
 have := Jn.enc_len (h d hd).1
 omega
theorem Jn.rds_ok {s : List Kn.C} {L : List Dd.D} (h : Jn.Ok s L) : Jn.rds s (L.map (Dd.enc s)) = some L := Jn.rds_enc L (fun d hd => (h d hd).1) fun d hd => (h d hd).2
theorem Jn.rd_all {s : List Kn.C} {L : List Dd.D} (hr : Kn.right s = true) (h : Jn.Ok s L) : Jn.rd s (Jn.tx s L) = (0, L) := by
 unfold Jn.rd Jn.tx
 rw [if_neg (by rw [hr]; decide), Fr.scan_all _ (Jn.txt_le h), if_neg (fun h => h rfl)]
 simp only
 rw [Jn.rds_ok h]
theorem Jn.rd_nil (s : List Kn.C) : (Jn.rd s []).2 = [] := by
 unfold Jn.rd
 rw [Fr.scan_nil]
 split
 ·rfl
 ·rw [if_neg (by decide)]
  rfl
theorem Jn.rd_no {s : List Kn.C} (h : Kn.right s = false) (t : List UInt8) : Jn.rd s t = (4, []) := by
 unfold Jn.rd
 rw [if_pos h]
theorem Jn.puts_app (X A B : List Dd.D) : Mg.puts X (A ++ B) = Mg.puts (Mg.puts X A) B := by
 unfold Mg.puts
 rw [List.foldl_append]
theorem Jn.rp_one {s : List Kn.C} {L : List Dd.D} (hr : Kn.right s = true) (h : Jn.Ok s L) : Jn.rp s [Jn.tx s L] = (0, Mg.puts [] L) := by
 unfold Jn.rp Jn.rpA
 rw [Jn.rd_all hr h, if_pos rfl]
 rfl
theorem Jn.rp_two {s : List Kn.C} {A B : List Dd.D} (hr : Kn.right s = true) (ha : Jn.Ok s A) (hb : Jn.Ok s B) : Jn.rp s [Jn.tx s A, Jn.tx s B] = (0, Mg.puts [] (A ++ B)) := by
 unfold Jn.rp
 rw [Jn.rpA, Jn.rd_all hr ha, if_pos rfl, Jn.rpA, Jn.rd_all hr hb, if_pos rfl, Jn.puts_app]
 rfl
theorem Jn.rp_cut {s : List Kn.C} {L : List Dd.D} (h : Jn.Ok s L) (k : Nat) : Jn.rp s [Jn.tx s (L.take k) ++ Jn.tx s (L.drop k)] = Jn.rp s [Jn.tx s (L.take k), Jn.tx s (L.drop k)] := by
 cases hr : Kn.right s
 ·unfold Jn.rp
  rw [Jn.rpA, Jn.rd_no hr]
  have e : ∀ (t : List UInt8) (r : List (List UInt8)), Jn.rpA s [] (t :: r) = (4, []) := fun t r => by rw [Jn.rpA, Jn.rd_no hr]; rfl
  rw [e]
  rfl
 ·rw [← Jn.tx_append, List.take_append_drop, Jn.rp_one hr h, Jn.rp_two hr (Jn.ok_take h k) (Jn.ok_drop h k), List.take_append_drop]
theorem Jn.rp_nil (s : List Kn.C) : (Jn.rp s [[]]).2 = [] := by
 unfold Jn.rp
 rw [Jn.rpA, Jn.rd_nil]
 split <;> rfl
theorem Jn.key_of {s : List Kn.C} {d : Dd.D} (h : Dd.fitE s d = 0) : ∃ c, s[0]? = some c ∧ Cl.is c (Bk.key d) = true ∧ ∃ v r, d.row = v :: r ∧ Bk.key d = v := by
 have hne := Jn.fit_ne h
 obtain ⟨h1, h2, h3⟩ := Dd.fitE_0 h
 obtain ⟨v, r, hv⟩ := List.exists_cons_of_ne_nil hne
 have hk : Bk.key d = v := by unfold Bk.key; rw [hv]; rfl
 have hl : 0 < (Dd.cols s d.gone).length := by rw [← h2, hv]; simp
 have hc := List.getElem?_eq_getElem hl
 have hc2 := (Bk.cols_at.1 hc).1
 have hf := Bk.fitsAll_at _ _ h3 0 _ v hc (by rw [hv]; rfl)
 rw [Bk.fits_is (Bk.good_of h1 hc2)] at hf
 exact ⟨_, hc2, by rw [hk]; exact hf, v, r, hv, hk⟩
theorem Jn.key_eq {s : List Kn.C} {d e : Dd.D} (hd : Dd.fitE s d = 0) (he : Dd.fitE s e = 0) (h : Kn.cmp (Bk.key d) (Bk.key e) = 0) : Bk.key d = Bk.key e := by
 obtain ⟨c, hc, i1, _⟩ := Jn.key_of hd
 obtain ⟨c', hc', i2, _⟩ := Jn.key_of he
 rw [hc] at hc'
 obtain rfl : c = c' := by simpa using hc'
 have hs : Kn.same (Bk.key d) (Bk.key e) = true := by rw [← Kn.cmp_zero, beq_iff_eq]; exact h
 generalize Bk.key d = a at i1 hs
 generalize Bk.key e = b at i2 hs
 unfold Kn.same at hs
 simp only [Bool.or_eq_true, Bool.and_eq_true, beq_iff_eq, Bool.not_eq_true'] at hs
 rcases hs with ⟨ha, hb⟩ | ⟨⟨⟨ha, hb⟩, hn⟩, hs⟩
 ·rw [(Cl.is_null i1 ha).1, (Cl.is_null i2 hb).1]
 ·by_cases hk : c.k = 1
  ·rw [Cl.is_num hk i1 ha, Cl.is_num hk i2 hb, hn]
  ·rw [ByteArray.toList_eq, ByteArray.toList_eq] at hs
   rw [(Cl.is_str hk i1 ha).1, (Cl.is_str hk i2 hb).1, hs]
def Jn.last (L : List Dd.D) (x : Dd.D) (i : Nat) : Nat → Dd.D
 | 0 => x
 | j + 1 => match L[i + j]? with
   | some y => if Kn.cmp (Bk.key y) (Bk.key x) = 0 then y else Jn.last L x i j
   | none => Jn.last L x i j
theorem Jn.last_step {L : List Dd.D} {x y : Dd.D} {i j : Nat} (h : L[i + j]? = some y) : Jn.last L x i (j + 1) = if Kn.cmp (Bk.key y) (Bk.key x) = 0 then y else Jn.last L x i j := by
 rw [Jn.last, h]
theorem Jn.get_last {L : List Dd.D} {x : Dd.D} {i : Nat} (hx : L[i]? = some x) : ∀ j, i + 1 + j ≤ L.length → Sk.get Bk.key (Mg.puts [] (L.take (i + 1 + j))) (Bk.key x) = some (Jn.last L x i (j + 1))
 | 0, _ => by
   have hasc : Sk.Asc Bk.key (Mg.puts [] (L.take i)) := Mg.puts_asc _ List.Pairwise.nil
   rw [Nat.add_zero, Jn.puts_next hx, Sk.get_put hasc, if_pos (Sk.cmp_self _), Jn.last_step (j := 0) hx, if_pos (Sk.cmp_self _)]
 | j + 1, h => by
   have hasc : Sk.Asc Bk.key (Mg.puts [] (L.take (i + 1 + j))) := Mg.puts_asc _ List.Pairwise.nil
   have hy : L[i + 1 + j]? = some L[i + 1 + j] := List.getElem?_eq_getElem (by omega)
   rw [show i + 1 + (j + 1) = (i + 1 + j) + 1 by omega, Jn.puts_next hy, Sk.get_put hasc, Jn.get_last hx j (by omega)]
   rw [Jn.last_step (L := L) (x := x) (i := i) (j := j + 1) (y := L[i + 1 + j]) (by rw [show i + (j + 1) = i + 1 + j by omega]; exact hy)]
   split <;> rfl
theorem Jn.get_newest {L : List Dd.D} {x : Dd.D} {i : Nat} (hx : L[i]? = some x) : Sk.get Bk.key (Mg.puts [] L) (Bk.key x) = some (Jn.last L x i (L.length - i)) := by
 have hi := (List.getElem?_eq_some_iff.1 hx).1
 have := Jn.get_last hx (L.length - i - 1) (by omega)
 rwa [show i + 1 + (L.length - i - 1) = L.length by omega, List.take_length, show L.length - i - 1 + 1 = L.length - i by omega] at this
theorem Jn.place {M : List Dd.D} {k : Kn.V} {y : Dd.D} (ha : Sk.Asc Bk.key M) (h : Sk.get Bk.key M k = some y) : ∃ p : Nat, M[p]? = some y ∧ Kn.cmp (Bk.key y) k = 0 ∧ ∀ (q : Nat) (z : Dd.D), M[q]? = some z → q ≠ p → Kn.cmp (Bk.key z) (Bk.key y) ≠ 0 := by
 obtain ⟨hm, hc⟩ := (Sk.get_mem ha).1 h
 obtain ⟨p, hp, e⟩ := List.getElem_of_mem hm
 refine ⟨p, by rw [List.getElem?_eq_getElem hp, e], hc, fun q z hz hne h0 => ?_⟩
 obtain ⟨hq, rfl⟩ := List.getElem?_eq_some_iff.1 hz
 unfold Sk.Asc at ha
 rw [List.pairwise_iff_getElem] at ha
 rcases Nat.lt_or_ge q p with h1 | h1
 ·have := ha q p hq hp h1
  rw [e] at this
  omega
 ·have := ha p q hp hq (by omega)
  rw [e, Sk.cmp_anti] at this
  omega
theorem Jn.puts_mem {L : List Dd.D} {y : Dd.D} (h : y ∈ Mg.puts [] L) : y ∈ L := by
 rcases Mg.mem_puts List.Pairwise.nil h with h | h
 ·exact h
 ·cases h
def Jn.en (s : List Kn.C) (L : List Dd.D) (i : Nat) : Nat := (Jn.tx s (L.take (i + 1))).length
end
section
open Go.RowKit
open Ty (I64)
open Ig (encI)
open Tx (encT)
theorem Dd.encV_there {c : Kn.C} {v : Kn.V} (hc : c.null = false) (hv : v.null = false) : Dd.encV c v = Dd.encP c v := by
 unfold Dd.encV
 rw [hc, hv, if_neg (by decide), if_neg (by decide), List.nil_append]
theorem Dd.encV_flag {c : Kn.C} {v : Kn.V} (hc : c.null = true) (hv : v.null = false) : Dd.encV c v = Dd.flag false :: Dd.encP c v := by
 unfold Dd.encV
 rw [hc, hv, if_pos rfl, if_neg (by decide)]
 rfl
theorem Dd.encV_null {c : Kn.C} {v : Kn.V} (hc : c.null = true) (hv : v.null = true) : Dd.encV c v = [Dd.flag true] := by
 unfold Dd.encV
 rw [hc, hv, if_pos rfl, if_pos rfl]
 rfl
theorem Dd.encP_int {c : Kn.C} {v : Kn.V} (hk : c.k = 1) : Dd.encP c v = Ig.encI v.n := by unfold Dd.encP; rw [if_pos hk]
theorem Dd.encP_txt {c : Kn.C} {v : Kn.V} (hk : c.k = 2) : Dd.encP c v = encT v.s.data.toList := by unfold Dd.encP; rw [if_neg (by omega)]
theorem Dd.fits_live {c : Kn.C} {v : Kn.V} (h : Kn.fits c v = true) (hc : c.null = false) : v.null = false := by
 cases hv : v.null
 ·rfl
 ·have := (Dd.fits_null h hv).2
  rw [hc] at this; cases this
theorem Dd.fits_size {c : Kn.C} {v : Kn.V} (hk : c.k = 2) (h : Kn.fits c v = true) (hv : v.null = false) : v.s.size ≤ 64 := by
 have := (Dd.fits_str (by omega) h hv).2
 rwa [Ty.length_data] at this
theorem Dd.tabs_grew {w w' : World} {v v' : Value} {base : Nat} {bs : List UInt8} (h : Ty.Tabs w) (hg : Ty.Grew w w' v v') (hb : Ty.Buf base w v bs) (hG : Ty.G ≤ base) : Ty.Tabs w' :=
 Ty.Tabs.by h hg.by_ fun k hk => Nat.le_trans hG (World.ownsRow.lt hb k hk).1
set_option maxHeartbeats 2000000 in
set_option maxRecDepth 100000 in
theorem Dd.appendValue_c (base : Nat) (v : Value) (bs : List UInt8) (c : Kn.C) (x : Kn.V) (w : World) (hT : Ty.Tabs w) (hG : Ty.G ≤ base) (hown : Ty.Buf base w v bs) (hb : base ≤ w.heap.size) (hl : bs.length ≤ 1000) (hf : Kn.fits c x = true) (hg : c.good = true) (hi : I64 x.n) :
 Calls Tryz.prog 52 #[v, c.val, x.val] w (Ty.Written base w v (bs ++ Dd.encV c x)) := by
 obtain ⟨ck, cn⟩ := c
 obtain ⟨xn, xi, xs⟩ := x
 have hgr : Below w.heap.size w ((w.alloc (.cells #[.int .i64 ck, .bool cn] 50)).alloc (.cells #[.bool xn, .int .i64 xi, .string xs] 43)) := ((Below.refl _ w).alloc (Nat.le_refl _) _).alloc (by simp) _
 have hown2 : Ty.Buf base ((w.alloc (.cells #[.int .i64 ck, .bool cn] 50)).alloc (.cells #[.bool xn, .int .i64 xi, .string xs] 43)) v bs := World.ownsRow.alloc (World.ownsRow.alloc hown _) _
 have hown3 : Hid (∀ k, v.ownBlock = some k → k < w.heap.size) := Lib.hid fun k hk => (World.ownsRow.lt hown k hk).2
 have hT2 := Lib.hid (Ty.Tabs.below hT hgr (Ty.Tabs.two hT))
 have hBH : Hid (∀ (w' : World) (v' : Value), Ty.Grew ((w.alloc (.cells #[.int .i64 ck, .bool cn] 50)).alloc (.cells #[.bool xn, .int .i64 xi, .string xs] 43)) w' v v' → Ty.Grew w w' v v') := Lib.hid fun w' v' h => (h.behind _).behind _
 have hsz : ((w.alloc (.cells #[.int .i64 ck, .bool cn] 50)).alloc (.cells #[.bool xn, .int .i64 xi, .string xs] 43)).heap.size = w.heap.size + 2 := by simp
 have hb2 := (Below.refl _ (w.alloc (.cells #[.int .i64 ck, .bool cn] 50))).alloc (Nat.le_refl _) (.cells #[.bool xn, .int .i64 xi, .string xs] 43)
 have x0 := (hb2.cell (p := ⟨w.heap.size, 0, none⟩) (by simp)).trans (Kn.cell_new w #[.int .i64 ck, .bool cn] 50 0 _ rfl)
 have x1 := (hb2.cell (p := ⟨w.heap.size, 1, none⟩) (by simp)).trans (Kn.cell_new w #[.int .i64 ck, .bool cn] 50 1 _ rfl)
 have y0 := Kn.cell_new (w.alloc (.cells #[.int .i64 ck, .bool cn] 50)) #[.bool xn, .int .i64 xi, .string xs] 43 0 _ rfl
 have y1 := Kn.cell_new (w.alloc (.cells #[.int .i64 ck, .bool cn] 50)) #[.bool xn, .int .i64 xi, .string xs] 43 1 _ rfl
 have y2 := Kn.cell_new (w.alloc (.cells #[.int .i64 ck, .bool cn] 50)) #[.bool xn, .int .i64 xi, .string xs] 43 2 _ rfl
 rw [World.size_alloc] at y0 y1 y2
 simp only [List.getElem_toArray, List.getElem_cons_zero, List.getElem_cons_succ] at x0 x1 y0 y1 y2
 have HT := hT2
 have HOW := Lib.hid hown2
 have HI := Lib.hid hi
 have HF := Lib.hid hf
 have HGB := Lib.hid hG
 have HBB := Lib.hid hb
 have HL := Lib.hid hl
 clear hgr hown2 hT2 hb2 hi hf hG hT hown
 have HK := Lib.hid ((Dd.good_iff _).1 hg)
 simp only at HI HK
 clear hg
 unfold Kn.C.val Kn.V.val
 cases cn
 ·obtain rfl : xn = false := Dd.fits_live HF.out rfl
  rcases HK.out with rfl | rfl
  ·have HE := Lib.hid ((Dd.encV_there (c := ⟨1, false⟩) (v := ⟨false, xi, xs⟩) rfl rfl).trans (Dd.encP_int rfl))
   go_enter Tryz.func52, Tryz.ntmps52
   go_wp2_with fail
   generalize hwo : World.alloc _ _ = wo at HOW HT hBH hsz x0 x1 y0 y1 y2 ⊢
   clear hwo
   with_reducible refine (Ty.int_c base v _ xi HI.out wo HT.out HOW.out (by have := HBB.out; omega) (by have := HL.out; omega)).mono ?_
   rintro e w4 ⟨v4, rfl, hB4, hG4⟩
   have HB4 := Lib.hid hB4
   have HG4 := Lib.hid hG4
   clear hB4 hG4
   go_wp2
   go_ret
   refine ⟨v4, rfl, ?_, hBH.out _ _ HG4.out⟩
   rw [HE.out]
   have h := HB4.out
   simpa only [Ig.encI, List.append_assoc, List.singleton_append, List.cons_append, List.nil_append] using h
  ·have HE := Lib.hid ((Dd.encV_there (c := ⟨2, false⟩) (v := ⟨false, xi, xs⟩) rfl rfl).trans (Dd.encP_txt rfl))
   have h64 := Dd.fits_size rfl HF.out rfl
   simp only at h64
   go_enter Tryz.func52, Tryz.ntmps52
   go_wp2_with fail
   generalize hwo : World.alloc _ _ = wo at HOW HT hBH hsz x0 x1 y0 y1 y2 ⊢
   clear hwo
   with_reducible refine (Ty.text_c base v _ xs wo HT.out HOW.out (by have := HBB.out; omega) (by have := HL.out; omega)).mono ?_
   rintro e w4 ⟨v4, rfl, hB4, hG4⟩
   have HB4 := Lib.hid hB4
   have HG4 := Lib.hid hG4
   clear hB4 hG4
   go_wp2
   go_ret
   refine ⟨v4, rfl, ?_, hBH.out _ _ HG4.out⟩
   rw [HE.out]
   have h := HB4.out
   simpa only [encT, Ty.length_data, List.append_assoc, List.singleton_append, List.cons_append, List.nil_append] using h
 ·cases xn
  ·rcases HK.out with rfl | rfl
   ·have HE := Lib.hid ((Dd.encV_flag (c := ⟨1, true⟩) (v := ⟨false, xi, xs⟩) rfl rfl).trans (congrArg _ (Dd.encP_int rfl)))
    go_enter Tryz.func52, Tryz.ntmps52
    go_wp2_with fail
    generalize hwo : World.alloc _ _ = wo at HOW HT hBH hsz x0 x1 y0 y1 y2 ⊢
    clear hwo
    with_reducible refine (Dd.appendFlag_c base v bs false wo HOW.out (by have := HBB.out; omega) (by have := HL.out; omega)).mono ?_
    rintro e w3 ⟨v3, rfl, hB3, hG3⟩
    have hs3 := hG3.by_.size
    have hn0 : some w.heap.size ≠ v.ownBlock := fun e => by have := hown3.out _ e.symm; omega
    have hn1 : some (w.heap.size + 1) ≠ v.ownBlock := fun e => by have := hown3.out _ e.symm; omega
    replace x0 := hG3.by_.cell x0 hn0
    replace y0 := hG3.by_.cell y0 hn1
    replace y1 := hG3.by_.cell y1 hn1
    replace y2 := hG3.by_.cell y2 hn1
    have HB3 := Lib.hid hB3
    have HG3 := Lib.hid hG3
    have HT3 := Lib.hid (Dd.tabs_grew HT.out hG3 HOW.out HGB.out)
    clear x1 hn0 hn1 hB3 hG3
    go_wp2_with fail
    with_reducible refine (Ty.int_c base v3 _ xi HI.out w3 HT3.out HB3.out (by have := HBB.out; omega) (by rw [List.length_append]; have := HL.out; simp only [List.length_singleton]; omega)).mono ?_
    rintro e w4 ⟨v4, rfl, hB4, hG4⟩
    have HB4 := Lib.hid hB4
    have HG4 := Lib.hid hG4
    clear hB4 hG4
    go_wp2
    go_ret
    refine ⟨v4, rfl, ?_, hBH.out _ _ (HG3.out.trans HG4.out)⟩
    rw [HE.out]
    have h := HB4.out
    simpa only [Ig.encI, List.append_assoc, List.singleton_append, List.cons_append, List.nil_append] using h
   ·have HE := Lib.hid ((Dd.encV_flag (c := ⟨2, true⟩) (v := ⟨false, xi, xs⟩) rfl rfl).trans (congrArg _ (Dd.encP_txt rfl)))
    have h64 := Dd.fits_size rfl HF.out rfl
    simp only at h64
    go_enter Tryz.func52, Tryz.ntmps52
    go_wp2_with fail
    generalize hwo : World.alloc _ _ = wo at HOW HT hBH hsz x0 x1 y0 y1 y2 ⊢
    clear hwo
    with_reducible refine (Dd.appendFlag_c base v bs false wo HOW.out (by have := HBB.out; omega) (by have := HL.out; omega)).mono ?_
    rintro e w3 ⟨v3, rfl, hB3, hG3⟩
    have hs3 := hG3.by_.size
    have hn0 : some w.heap.size ≠ v.ownBlock := fun e => by have := hown3.out _ e.symm; omega
    have hn1 : some (w.heap.size + 1) ≠ v.ownBlock := fun e => by have := hown3.out _ e.symm; omega
    replace x0 := hG3.by_.cell x0 hn0
    replace y0 := hG3.by_.cell y0 hn1
    replace y1 := hG3.by_.cell y1 hn1
    replace y2 := hG3.by_.cell y2 hn1
    have HB3 := Lib.hid hB3
    have HG3 := Lib.hid hG3
    have HT3 := Lib.hid (Dd.tabs_grew HT.out hG3 HOW.out HGB.out)
    clear x1 hn0 hn1 hB3 hG3
    go_wp2_with fail
    with_reducible refine (Ty.text_c base v3 _ xs w3 HT3.out HB3.out (by have := HBB.out; omega) (by rw [List.length_append]; have := HL.out; simp only [List.length_singleton]; omega)).mono ?_
    rintro e w4 ⟨v4, rfl, hB4, hG4⟩
    have HB4 := Lib.hid hB4
    have HG4 := Lib.hid hG4
    clear hB4 hG4
    go_wp2
    go_ret
    refine ⟨v4, rfl, ?_, hBH.out _ _ (HG3.out.trans HG4.out)⟩
    rw [HE.out]
    have h := HB4.out
    simpa only [encT, Ty.length_data, List.append_assoc, List.singleton_append, List.cons_append, List.nil_append] using h
  ·have HE := Lib.hid (Dd.encV_null (c := ⟨ck, true⟩) (v := ⟨true, xi, xs⟩) rfl rfl)
   go_enter Tryz.func52, Tryz.ntmps52
   go_wp2_with fail
   generalize hwo : World.alloc _ _ = wo at HOW HT hBH hsz x0 x1 y0 y1 y2 ⊢
   clear hwo
   with_reducible refine (Dd.appendFlag_c base v bs true wo HOW.out (by have := HBB.out; omega) (by have := HL.out; omega)).mono ?_
   rintro e w3 ⟨v3, rfl, hB3, hG3⟩
   have hs3 := hG3.by_.size
   have hn0 : some w.heap.size ≠ v.ownBlock := fun e => by have := hown3.out _ e.symm; omega
   have hn1 : some (w.heap.size + 1) ≠ v.ownBlock := fun e => by have := hown3.out _ e.symm; omega
   replace x0 := hG3.by_.cell x0 hn0
   replace y0 := hG3.by_.cell y0 hn1
   replace y1 := hG3.by_.cell y1 hn1
   replace y2 := hG3.by_.cell y2 hn1
   have HB3 := Lib.hid hB3
   have HG3 := Lib.hid hG3
   have HT3 := Lib.hid (Dd.tabs_grew HT.out hG3 HOW.out HGB.out)
   clear x1 hn0 hn1 hB3 hG3
   go_wp2
   go_ret
   exact ⟨v3, rfl, by rw [HE.out]; exact HB3.out, hBH.out _ _ HG3.out⟩
end
end Go.Proofs.YtkhiemkekmdhgaaGreatDoor
