import Derived.Test.YtkhiemkekmdhgaaGreatDoorZZAS
import Derived.Test.YtkhiemkekmdhgaaGreatDoorZZAY
import Derived.Test.YtkhiemkekmdhgaaGreatDoorZZAF
import Derived.Deep.Slices
import Derived.Deep.Grids
import Derived.Deep.Fields
import Derived.ChangeSame
import Derived.ProofKit
import Derived.OpenShut
import Derived.SizedLaws
import Derived.Test.YtkhiemkekmdhgaaGreatDoorZZAG
import Derived.Test.YtkhiemkekmdhgaaGreatDoorZZAQ
namespace Go.Proofs.YtkhiemkekmdhgaaGreatDoor
section
open Go Go.RowKit
set_option maxHeartbeats 1000000 in
set_option maxRecDepth 100000 in
theorem Jn.early_c {B : Nat} {w : World} {v : Value} {L : List Fr.Str} (h : Tx.At B w v L) (hl : L.length ≤ 1048576) :
 Calls Tryz.prog 13 #[v] w fun e w' => ∃ u, e = .returned u ∧ Tx.At B w u (L.take 8) ∧ w' = w := by
 obtain ⟨a, c, rfl, hc, hB, h⟩ := h.is
 have HR : Hid (∀ m, m = (L.take 8).length → Tx.At B w (.slice a m c) (L.take 8)) := Lib.hid fun m hm => by
  have hlt : (L.take 8).length ≤ c := by rw [List.length_take]; omega
  refine ⟨a, c, by rw [hm], hlt, hB, ?_⟩
  rcases h with h | ⟨b, o, ha, hb, h⟩
  ·exact .inl ⟨by rw [h.1]; rfl, h.2⟩
  ·refine .inr ⟨b, o, ha, hb, fun i hi => ?_⟩
   have h8 : i < L.length := by rw [List.length_take] at hi; omega
   rw [h i h8]
   unfold Tx.sv
   rw [List.getD_eq_getElem?_getD, List.getD_eq_getElem?_getD, List.getElem?_take_of_lt (by rw [List.length_take] at hi; omega)]
 have hlen : (L.take 8).length = min 8 L.length := List.length_take
 have hnone : a = none → L.length = 0 ∧ c = 0 := fun e => by
  rcases h with h | ⟨b, o, ha, _⟩
  ·exact ⟨by rw [h.1]; rfl, h.2 e⟩
  ·rw [e] at ha; cases ha
 generalize hn : L.length = n at hlen hc hl hnone ⊢
 clear h hn
 have hc1 : (n : Int) ≤ (c : Int) := by omega
 have hn0 : (0 : Int) ≤ (n : Int) := by omega
 have hn1 : (n : Int) ≤ 1048576 := by omega
 cases a with
 | none =>
   obtain ⟨rfl, rfl⟩ := hnone rfl
   have HX := Lib.hid (HR.out 0 (by omega))
   clear hlen hc hl hnone hc1 hn0 hn1
   go_enter Tryz.func13, Tryz.ntmps13
   go_wp2
   go_ret
   exact ⟨_, rfl, HX.out, rfl⟩
 | some ad =>
   clear hnone
   have h8 : (min (n : Int) 8).toNat = min 8 n := by omega
   have h80 : (0 : Int) ≤ min (n : Int) 8 := by omega
   have h8c : min (n : Int) 8 ≤ (c : Int) := by omega
   have HX := Lib.hid (HR.out (min (n : Int) 8).toNat (by omega))
   clear hlen h8
   go_enter Tryz.func13, Tryz.ntmps13
   go_wp2
   go_ret
   exact ⟨_, rfl, HX.out, rfl⟩
set_option maxHeartbeats 4000000 in
set_option maxRecDepth 100000 in
theorem Jn.replays_w (v vt : Value) (s : List Kn.C) (TS : List Fr.Str) (w : World) (hT : Jn.TS w) (hs : Dd.Cols w v s) (ht : Tx.At w.heap.size w vt TS) (hn : TS.length ≤ 1048576) (hb : Jn.tot (TS.take 8) ≤ 4194304) :
 Calls Tryz.prog 4 #[v, vt] w fun e w' => e = .returned (.bool true) ∧ Below w.heap.size w w' := by
 have HS := Lib.hid hs
 have HV := Lib.hid ht
 have HT := Lib.hid fun (W : World) (g : Below w.heap.size w W) => hT.below g
 have hn8 : (TS.take 8).length ≤ 1048576 := by rw [List.length_take]; omega
 have CE := Lib.hid fun (W : World) (g : Below w.heap.size w W) => Jn.early_c (HV.out.below g) hn
 have CR := Lib.hid fun (W : World) (g : Below w.heap.size w W) (u : Value) (h : Tx.At w.heap.size W u (TS.take 8)) => Jn.replay_c v u s (TS.take 8) W (HT.out W g) (HS.out.later g) (h.mono g.size (Nat.le_refl _)) hb hn8
 have CD := Lib.hid fun (W : World) (g : Below w.heap.size w W) (u : Value) (h : Tx.At w.heap.size W u (TS.take 8)) => Jn.rreplay_c v u s (TS.take 8) W (HS.out.later g).1 (h.mono g.size (Nat.le_refl _)) hb hn8
 generalize TS.take 8 = T8 at CE CR CD hb hn8
 obtain ⟨r, hr⟩ : ∃ r, r = Jn.rp s T8 := ⟨_, rfl⟩
 rw [← hr] at CR CD
 obtain ⟨a, c, rfl, -⟩ := id hs.1
 obtain ⟨a2, c2, rfl, -⟩ := id ht
 clear hr hs ht hn hb hn8 HV
 go_enter Tryz.func4, Tryz.ntmps4
 go_wp2_with fail
 refine (Jn.lives_c w hT.1).mono ?_
 rintro e w1 ⟨rfl, g1⟩
 have HG1 := Lib.hid g1
 clear g1 hT
 go_wp2_with fail
 refine (CE.out w1 HG1.out).mono ?_
 rintro e w5 ⟨p0, rfl, hp0, rfl⟩
 have HP0 := Lib.hid hp0
 obtain ⟨_, _, rfl, -⟩ := hp0
 go_wp2_with fail
 refine (CR.out w5 HG1.out _ HP0.out).mono ?_
 rintro e w2 ⟨p, rfl, hp, g2⟩
 have HP := Lib.hid hp
 have HG2 := Lib.hid (HG1.out.trans (g2.mono HG1.out.size))
 have HP2 := Lib.hid (HP0.out.below (g2.mono HG1.out.size))
 clear g2 hp HP0
 go_wp2_with fail
 refine (CD.out w2 HG2.out _ HP2.out).mono ?_
 rintro e w3 ⟨q, rfl, hq, g3⟩
 have HP3 := Lib.hid (HP.out.later g3)
 have HG3 := Lib.hid (HG2.out.trans (g3.mono HG2.out.size))
 have CS := Lib.hid (Bk.rsame_c p q r.2 w3 HP3.out hq)
 obtain ⟨_, _, rfl, -⟩ := HP3.out
 obtain ⟨_, _, rfl, -⟩ := hq
 clear g3 HP
 go_wp2_with fail
 refine CS.out.mono ?_
 rintro e w6 ⟨rfl, g6⟩
 have HG6 := Lib.hid (HG3.out.trans (g6.mono HG3.out.size))
 clear g6
 go_wp2
 go_ret
 exact ⟨rfl, HG6.out⟩
end
section
open Go.RowKit Go.ChangeShapes Go.WideShapes Go.ChangeAt Go.Deep
section
variable {H : Type} {enc : TypeId × Value → H} {W : World}
def Bt.Long (d : DataW H) (n : Nat) : Prop := d = .nil ∧ n = 0 ∨ ∃ es sp, d = .slice es sp ∧ n ≤ es.length
theorem Bt.sl_of {a : Addr} {len cap : Nat} {f : Nat → Value} (hf : ∀ i, i < len → W.cell? (a.add i) = some (f i)) : Bt.Sl W (.slice (some a) len cap) len f := by
 by_cases hz : len = 0
 ·exact ⟨_, cap, rfl, .inl hz⟩
 ·obtain ⟨b, off, spot⟩ := a
  have h0 := hf 0 (by omega)
  have hspot : spot = none := by simpa [Addr.add] using World.cell?_spot h0
  subst hspot
  have hlt : b < W.heap.size := by
   have := World.block_lt_of_cell? W _ h0
   simpa [Addr.add] using this
  refine ⟨_, cap, rfl, .inr ⟨b, off, rfl, hlt, fun i hi => ?_⟩⟩
  have := hf i hi
  rwa [add_plain] at this
end
end
section
open Go.RowKit Go.ChangeShapes Go.WideShapes Go.ChangeAt Go.Deep
section
variable {H : Type} {enc : TypeId × Value → H} {W : World}
end
end
section
open Go.RowKit Go.ChangeShapes Go.WideShapes Go.ChangeAt Go.Deep
section
variable {H : Type} {enc : TypeId × Value → H} {W : World}
def Jn.letters : DataW H → Fr.Str
 | .lit (.string b) => b
 | _ => []
theorem Jn.letters_le (d : DataW H) : (Jn.letters d).length + 1 ≤ Rows.uptoBulk d := by
 unfold Jn.letters
 split
 ·simp only [Rows.uptoBulk]; omega
 ·have : 1 ≤ Rows.uptoBulk d := by
   unfold Rows.uptoBulk
   split <;> omega
  simp only [List.length_nil]
  omega
theorem Jn.letters_all : ∀ ds : List (DataW H), Jn.tot (ds.map Jn.letters) + ds.length ≤ Rows.uptoBulkAll ds
 | [] => by simp [Jn.tot]
 | d :: ds => by
   have h1 := Jn.letters_le d
   have h2 := Jn.letters_all ds
   simp only [Jn.tot, List.map_cons, List.sum_cons, Rows.uptoBulkAll, List.length_cons] at h2 ⊢
   omega
theorem Jn.opened {a0 : Option Addr} {len cap : Nat} {d : DataW H} {ps : List MemPlace} (h : DataW.Trod enc Tryz.prog W 0 (fun _ => true) true 36 (.slice a0 len cap) d ps) :
 ∃ L : List Fr.Str, L.length = len ∧ Tx.At W.heap.size W (.slice a0 len cap) L ∧ Jn.tot L + L.length ≤ Rows.uptoBulk d := by
 obtain ⟨fuel, hf⟩ := h
 have hC : Tryz.prog.cellsOf 9 = 1 := by kernel_rfl
 rcases open_slice Tryz.underlying36 hf with ⟨hcs, hx⟩ | ⟨a, len', cap', m, n, D, Pl, hcs, _, hl, hm, hmm, hx, hi⟩
 ·have hv : Value.slice a0 len cap = .slice none 0 0 := by simpa [Value.cells] using hcs
  simp only [Value.slice.injEq] at hv
  obtain ⟨rfl, rfl, rfl⟩ := hv
  exact ⟨[], rfl, Tx.At.nil W, by simp [Jn.tot]⟩
 ·have hv : Value.slice a0 len cap = .slice (some a) len' cap' := by simpa [Value.cells] using hcs
  simp only [Value.slice.injEq] at hv
  obtain ⟨rfl, rfl, rfl⟩ := hv
  simp only [if_true] at hmm
  rw [hC] at hi
  simp only [Prod.mk.injEq] at hx
  have hL : ∀ i, i < len → W.cell? (a.add i) = some (Tx.sv ((List.range len).map fun i => Jn.letters (D i)) i) := fun i hil => by
   obtain ⟨cs', hc, ht⟩ := hi i (by omega)
   obtain ⟨hcl, _, hat⟩ := World.cells?_some hc
   match cs', hcl with
   | [c0], _ =>
     obtain ⟨s, e2, e3, _⟩ := DataW.trod_string Tryz.underlying9 ht
     simp only [List.cons.injEq, and_true] at e2
     subst e2
     have a0 := hat 0 (by omega)
     rw [add_add] at a0
     simp only [Nat.mul_one, Nat.add_zero] at a0
     unfold Tx.sv
     rw [List.getD_eq_getElem?_getD, List.getElem?_map, List.getElem?_range hil]
     simp only [Prod.mk.injEq] at e3
     simp only [Option.map_some, Option.getD_some, e3.1, Jn.letters]
     exact a0
  have hsl := Bt.sl_of (W := W) (a := a) (len := len) (cap := cap) (f := Tx.sv _) hL
  refine ⟨(List.range len).map fun i => Jn.letters (D i), by simp, ?_, ?_⟩
  ·obtain ⟨a2, c2, e, h2⟩ := hsl
   simp only [Value.slice.injEq] at e
   obtain ⟨rfl, _, rfl⟩ := e
   refine ⟨some a, cap, by simp, by simpa using hl, Nat.le_refl _, ?_⟩
   rcases h2 with h2 | ⟨b, o, e2, hlt, h2⟩
   ·exact .inl ⟨List.eq_nil_of_length_eq_zero (by simpa using h2), fun e => by cases e⟩
   ·exact .inr ⟨b, o, e2, hlt, fun i hi => h2 i (by simpa using hi)⟩
  ·rw [hx.1]
   have := Jn.letters_all ((List.range len).map D)
   rw [List.map_map] at this
   simp only [Rows.uptoBulk]
   have e : (List.range len).map (fun i => Jn.letters (D i)) = (List.range len).map (Jn.letters ∘ D) := rfl
   rw [e]
   simp only [List.length_map, List.length_range] at this ⊢
   omega
end
end
end Go.Proofs.YtkhiemkekmdhgaaGreatDoor
