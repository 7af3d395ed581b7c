import Derived.Test.YtkhiemkekmdhgaaGreatDoorZZAH
import Derived.Test.YtkhiemkekmdhgaaGreatDoorZZAI
import Derived.Test.YtkhiemkekmdhgaaGreatDoorZZAJ
import Derived.Test.YtkhiemkekmdhgaaGreatDoorZZAL
import Derived.Test.YtkhiemkekmdhgaaGreatDoorZZAE
import Derived.BigQuiet
import Derived.Deep.RegionHeld3
import Derived.Deep.RegionLaw
import Derived.Deep.RegionLawGrows
import Derived.OrdersHeld
namespace Go.Proofs.YtkhiemkekmdhgaaGreatDoor
section
open Go.RowKit
abbrev Jn.Y := Bool × (Option Addr × Nat × Nat)
theorem Jn.vals_same {w w' : World} {u : Value} {l : List Kn.V} (h : Kn.Vals w u l) (hne : l ≠ []) (hs : w.heap.size ≤ w'.heap.size) (g : ∀ k, u.ownBlock = some k → w'.heap[k]? = w.heap[k]?) : Kn.Vals w' u l := by
 obtain ⟨a, c, hv, h⟩ := h
 rcases h with h | ⟨b, o, ha, hb, hm, h⟩
 ·exact absurd h hne
 ·have e := g b (by rw [hv, ha]; rfl)
  exact ⟨a, c, hv, .inr ⟨b, o, ha, Nat.lt_of_lt_of_le hb hs, hm, fun i x hx => ⟨(World.cell?_of_block e).trans (h i x hx).c0, (World.cell?_of_block e).trans (h i x hx).c1, (World.cell?_of_block e).trans (h i x hx).c2⟩⟩⟩
theorem Jn.vals_alive {w : World} {u : Value} {l : List Kn.V} (h : Kn.Vals w u l) (hne : l ≠ []) {k : Nat} (hk : u.ownBlock = some k) : k < w.heap.size := by
 obtain ⟨a, c, rfl, h⟩ := h
 rcases h with h | ⟨b, o, rfl, hb, _, _⟩
 ·exact absurd h hne
 ·obtain rfl : b = k := by simpa [Value.ownBlock] using hk
  exact hb
structure Jn.Ow (B : Nat) (w : World) (u : Value) (Es : List Jn.Y) (L : List Dd.D) : Prop where
 ow : Dk.Own 26 2 Rn.e2 B w u Es
 len : Es.length = L.length
 rd : ∀ (i : Nat) (x : Dd.D), L[i]? = some x → x.row ≠ [] ∧ ∃ y, Es[i]? = some y ∧ y.1 = x.gone ∧ Kn.Vals w (Bk.sv y.2) x.row ∧ ∀ k, (Bk.sv y.2).ownBlock = some k → B ≤ k ∧ u.ownBlock ≠ some k
theorem Jn.Ow.nil (B : Nat) (w : World) : Jn.Ow B w (.slice none 0 0) [] [] := ⟨Dk.Own.nil _ _, rfl, fun i x hx => by simp at hx⟩
theorem Jn.Ow.kept {B : Nat} {w w' : World} {u : Value} {Es : List Jn.Y} {L : List Dd.D} (h : Jn.Ow B w u Es L) (g : Below w.heap.size w w') : Jn.Ow B w' u Es L :=
 ⟨h.ow.kept g, h.len, fun i x hx => by
  obtain ⟨hne, y, e1, e2, e3, e4⟩ := h.rd i x hx
  exact ⟨hne, y, e1, e2, e3.later g, e4⟩⟩
theorem Jn.Ow.snoc {B : Nat} {w w6 w7 : World} {u u' : Value} {Es : List Jn.Y} {L : List Dd.D} (h : Jn.Ow B w u Es L) (hB : B ≤ w.heap.size) (g6 : Below w.heap.size w w6) {y : Jn.Y} {d : Dd.D} (h1 : y.1 = d.gone) (hne : d.row ≠ [])
 (h2 : Kn.Vals w6 (Bk.sv y.2) d.row) (hf : ∀ k, (Bk.sv y.2).ownBlock = some k → w.heap.size ≤ k) (ho : Dk.Own 26 2 Rn.e2 B w7 u' (Es ++ [y])) (g : Ty.Grew w6 w7 u u') : Jn.Ow B w7 u' (Es ++ [y]) (L ++ [d]) := by
 have hu : ∀ k, u.ownBlock = some k → k < w.heap.size := h.ow.lt
 have hkeep : ∀ k, k < w6.heap.size → u.ownBlock ≠ some k → u'.ownBlock ≠ some k := fun k hk hn e => by
  rcases g.own with e2 | ⟨j, e2, hj⟩
  ·exact hn (e2 ▸ e)
  ·rw [e2] at e
   obtain rfl : j = k := by simpa using e
   omega
 have hnew : ∀ k, (Bk.sv y.2).ownBlock = some k → u.ownBlock ≠ some k := fun k hk e => by
  have := hf k hk
  have := hu k e
  omega
 refine ⟨ho, by rw [List.length_append, List.length_append, h.len]; rfl, fun i x hx => ?_⟩
 rcases Nat.lt_or_ge i L.length with hi | hi
 ·rw [List.getElem?_append_left hi] at hx
  obtain ⟨hn, z, e1, e2, e3, e4⟩ := h.rd i x hx
  have e3' := e3.later g6
  refine ⟨hn, z, by rw [List.getElem?_append_left (by rw [h.len]; exact hi)]; exact e1, e2, Jn.vals_same e3' hn g.by_.size fun k hk => g.by_.block k (Jn.vals_alive e3' hn hk) fun e => (e4 k hk).2 e.symm, fun k hk => ⟨(e4 k hk).1, hkeep k (Jn.vals_alive e3' hn hk) (e4 k hk).2⟩⟩
 ·rw [List.getElem?_append_right hi] at hx
  cases hq : i - L.length with
  | zero =>
    rw [hq] at hx
    obtain rfl : d = x := by simpa using hx
    refine ⟨hne, y, by rw [List.getElem?_append_right (by rw [h.len]; exact hi), h.len, hq]; rfl, h1, Jn.vals_same h2 hne g.by_.size fun k hk => g.by_.block k (Jn.vals_alive h2 hne hk) fun e => hnew k hk e.symm, fun k hk => ⟨Nat.le_trans hB (hf k hk), hkeep k (Jn.vals_alive h2 hne hk) (hnew k hk)⟩⟩
  | succ q => rw [hq] at hx; simp at hx
theorem Jn.Ow.ds {B : Nat} {w : World} {u : Value} {Es : List Jn.Y} {L : List Dd.D} (h : Jn.Ow B w u Es L) : Bk.Ds w u L := by
 rcases h.ow.form with ⟨rfl, h0⟩ | ⟨b, c, rfl, h1, h2, _, h4⟩
 ·have hl := h.len
  rw [h0] at hl
  have : L = [] := List.eq_nil_of_length_eq_zero hl.symm
  rw [this]
  exact ⟨none, 0, rfl, Nat.le_refl _, by omega, .inl rfl⟩
 ·refine ⟨_, c, by rw [h.len], by rw [← h.len]; exact h1, by unfold maxLen at h2; omega, .inr ⟨b, 0, rfl, h4, fun i x hx => ?_⟩⟩
  obtain ⟨_, y, hy, e1, e2, _⟩ := h.rd i x hx
  have c0 := h.ow.cell Rn.e2_len rfl hy (j := 0) (by decide)
  have c1 := h.ow.cell Rn.e2_len rfl hy (j := 1) (by decide)
  rw [Nat.zero_add]
  rw [Nat.add_zero] at c0
  exact ⟨Bk.sv y.2, by rw [← e1]; exact c0, c1, e2⟩
def Jn.GotR (w : World) (r : Nat × List Dd.D) (e : Ending) (w' : World) : Prop :=
 ∃ u Es, e = .returned (.tuple #[u, .int .i64 ((r.1 : Nat) : Int)]) ∧ Jn.Ow w.heap.size w' u Es r.2 ∧ Below w.heap.size w w'
theorem Jn.GotR.bad {w w' : World} {r : Nat × List Dd.D} {z : Int} {q : Nat} (hr : r = (q, [])) (hz : z = (q : Int)) (g : Below w.heap.size w w') : Jn.GotR w r (.returned (.tuple #[.slice none 0 0, .int .i64 z])) w' :=
 ⟨_, [], by rw [hr, hz], by rw [hr]; exact Jn.Ow.nil _ _, g⟩
theorem Jn.GotR.good {w w' : World} {r : Nat × List Dd.D} {u : Value} {Es : List Jn.Y} {L : List Dd.D} (hr : r = (0, L)) (h : Jn.Ow w.heap.size w' u Es L) (g : Below w.heap.size w w') : Jn.GotR w r (.returned (.tuple #[u, .int .i64 0])) w' :=
 ⟨_, Es, by rw [hr]; rfl, by rw [hr]; exact h, g⟩
set_option maxHeartbeats 8000000 in
set_option maxRecDepth 100000 in
theorem Jn.rread_c (v : Value) (s : List Kn.C) (t : ByteArray) (w : World) (hs : Kn.Cols w v s) (ht : t.size ≤ 4194304) :
 Calls Tryz.prog 9 #[v, .string t] w (Jn.GotR w (Jn.rd s t.data.toList)) := by
 have HS := Lib.hid hs
 obtain ⟨l, hl⟩ : ∃ l, l = t.data.toList := ⟨_, rfl⟩
 have hll : l.length = t.size := by rw [hl, Ty.length_data]
 have CSC := Lib.hid (Fr.rscan_c t (by omega) w)
 rw [← hl] at CSC ⊢
 have CR := Lib.hid fun (W : World) (g : Below w.heap.size w W) => Kn.rRight_c v s W (hs.later g)
 have HTB : Hid (∀ (i : Nat) (x : Fr.Str), (Fr.scan l).2.1[i]? = some x → x.length ≤ 1048576) := Lib.hid fun i x hx => Jn.scan_txt l x (List.mem_of_getElem? hx)
 have HLN : Hid ((Fr.scan l).2.1.length ≤ 524288) := Lib.hid (by have := Jn.scan_n l; omega)
 have CD := Lib.hid fun (W : World) (x : Fr.Str) (g : Below w.heap.size w W) (hx : x.length ≤ 1048576) => Dd.rread_c v s (Ty.S x) W (hs.later g) (by rw [Ty.size_S]; omega)
 have HB4 : Hid (Kn.right s = false → ∀ W, Below w.heap.size w W → Jn.GotR w (Jn.rd s l) (.returned (.tuple #[.slice none 0 0, .int .i64 4])) W) := Lib.hid fun h W g => Jn.GotR.bad (by unfold Jn.rd; rw [if_pos h]) rfl g
 have HBS : Hid (Kn.right s = true → (Fr.scan l).1 ≠ 0 → ∀ W, Below w.heap.size w W → Jn.GotR w (Jn.rd s l) (.returned (.tuple #[.slice none 0 0, .int .i64 (((Fr.scan l).1 : Nat) : Int)])) W) := Lib.hid fun h h2 W g => Jn.GotR.bad (by unfold Jn.rd; rw [if_neg (by rw [h]; decide), if_pos h2]) rfl g
 have HB8 : Hid (Kn.right s = true → (Fr.scan l).1 = 0 → Jn.rds s (Fr.scan l).2.1 = none → ∀ W, Below w.heap.size w W → Jn.GotR w (Jn.rd s l) (.returned (.tuple #[.slice none 0 0, .int .i64 8])) W) := Lib.hid fun h h2 h3 W g => Jn.GotR.bad (by unfold Jn.rd; rw [if_neg (by rw [h]; decide), if_neg (by rw [h2]; decide), h3]) rfl g
 have HGD : Hid (Kn.right s = true → (Fr.scan l).1 = 0 → ∀ L, Jn.rds s (Fr.scan l).2.1 = some L → ∀ W u Es, Jn.Ow w.heap.size W u Es L → Below w.heap.size w W → Jn.GotR w (Jn.rd s l) (.returned (.tuple #[u, .int .i64 0])) W) := Lib.hid fun h h2 L h3 W u Es ho g => Jn.GotR.good (by unfold Jn.rd; rw [if_neg (by rw [h]; decide), if_neg (by rw [h2]; decide), h3]) ho g
 generalize Jn.rd s l = RES at HB4 HBS HB8 HGD ⊢
 obtain ⟨a, c, rfl, -⟩ := id hs
 clear hs ht hl hll
 go_enter Tryz.func9, Tryz.ntmps9
 go_wp2_with fail
 refine (CR.out w (Below.refl _ _)).mono ?_
 rintro e w1 ⟨rfl, hw1⟩
 subst hw1
 generalize hrt : Kn.right s = rt at *
 cases rt
 ·have HF := Lib.hid (HB4.out rfl w1 (Below.refl _ _))
  go_wp2
  go_ret2
  exact HF.out
 ·have HFL := Lib.hid (HBS.out rfl)
  have HF8 := Lib.hid (HB8.out rfl)
  have HFG := Lib.hid (HGD.out rfl)
  clear HB4 HBS HB8 HGD
  go_wp2_with fail
  refine (CSC.out).mono ?_
  rintro e w2 ⟨x, rfl, hx, g2⟩
  have HX := Lib.hid hx
  have HG2 := Lib.hid g2
  obtain ⟨xa, xc, rfl, -, -, hx9⟩ := hx
  have H9 := Lib.hid hx9
  clear g2 CSC hx9
  generalize (Fr.scan l).2.2 = ct
  generalize (Fr.scan l).1 = er at HFL HF8 HFG ⊢
  generalize (Fr.scan l).2.1 = TS at HTB HLN HX HF8 HFG H9 ⊢
  by_cases h0 : er = 0
  ·subst h0
   have HFX := Lib.hid (HF8.out rfl)
   have HFY := Lib.hid (HFG.out rfl)
   clear HF8 HFG
   have hln := HLN.out
   have hl0 : (TS.length : Int) ≤ 524288 := by omega
   simp only [Int.cast_ofNat_Int]
   go_wp2_with fail
   go_loopw [9, 10] (fun out i wr => ∃ (k : Nat) (Es : List Jn.Y) (L : List Dd.D), k ≤ TS.length ∧ i = .int .i64 k ∧ Jn.rds s (TS.take k) = some L ∧ Jn.Ow w1.heap.size wr out Es L ∧ Hid (∀ k, out.ownBlock = some k → w2.heap.size ≤ k) ∧ Below w2.heap.size w2 wr ∧ Below w1.heap.size w1 wr) (fun _ i _ => TS.length - (intOf i).toNat)
   case atStart => exact ⟨0, [], [], Nat.zero_le _, rfl, rfl, Jn.Ow.nil _ _, Lib.hid (fun k hk => by simp [Value.ownBlock] at hk), Below.refl _ _, HG2.out⟩
   case round =>
    obtain ⟨k, Es, L, hk, rfl, hr, hO, HOB, hB2, hB⟩ := hrel
    have HB := Lib.hid hB
    have HB2 := Lib.hid hB2
    have HO := Lib.hid hO
    have HR := Lib.hid hr
    have hk0 : (0 : Int) ≤ (k : Int) := by omega
    by_cases hkl : k < TS.length
    ·rcases H9.out with ⟨h9, -⟩ | ⟨b, o, rfl, hlt, hc⟩
     ·rw [h9] at hkl; simp at hkl
     have c0 := (hB2.cell (p := ⟨b, o + k, none⟩) hlt).trans (hc k hkl)
     have hx := List.getElem?_eq_getElem hkl
     rw [Tx.sv, List.getD_eq_getElem?_getD, hx, Option.getD_some] at c0
     generalize TS[k] = t1 at hx c0
     have CDD := Lib.hid (CD.out wr t1 hB (HTB.out k t1 hx))
     rw [Ty.data_S] at CDD
     have HNX := Lib.hid (Jn.rds_take hx hr)
     have HNE := Lib.hid (Jn.rd_ne (s := s) (t := t1))
     have HLE : Hid (Es.length ≤ 524288) := Lib.hid (by rw [hO.len, Jn.rds_len hr, List.length_take]; have := HLN.out; omega)
     have hki : (k : Int) < (TS.length : Int) := by omega
     have HKL := Lib.hid hkl
     generalize Dd.rd s t1 = D9 at CDD HNX HNE
     clear hx hc hlt hkl hk hr hO hB2 hB
     go_wp2_with fail
     refine (CDD.out).mono ?_
     rintro e w5 ⟨u, rfl, hu, hf, g5⟩
     obtain ⟨er9, gn9, row9⟩ := D9
     have HU := Lib.hid hu
     have HF5 := Lib.hid hf
     have HG5 := Lib.hid g5
     obtain ⟨ua, uc, rfl, -⟩ := hu
     clear hf g5 c0
     simp only at HNX HNE HU ⊢
     have HBW5 := Lib.hid ((HB2.out.trans (HG5.out.mono HB2.out.size)))
     have HBV5 := Lib.hid ((HB.out.trans (HG5.out.mono HB.out.size)))
     by_cases h9 : er9 = 0
     ·subst h9
      have HN2 := Lib.hid (HNX.out.1 rfl)
      have HNE2 := Lib.hid (HNE.out rfl)
      have hO5 := (HO.out.kept HG5.out).ow
      have hbs : w1.heap.size ≤ (w5.alloc (.cells #[.bool gn9, .slice ua row9.length uc] 26)).heap.size := by have := HBV5.out.size; rw [World.size_alloc]; omega
      have hle := HLE.out
      clear HNX HNE
      go_wp2_with (at_builtin; refine Dk.wpList_append1 28 _ 32 Tryz.underlying28 Rn.infoD rfl (by decide) Rn.e2_len Rn.e2_one (gn9, (ua, row9.length, uc)) (World.ownsRow.alloc hO5 _) hbs (by omega) (by omega) (w5.heap.size + 1) (by rw [World.size_alloc]) _ rfl (.tmp 42) (.tmp 44) (by rfl) (by rfl) (by rfl) (by rfl) ?_; intro v6 w6 h6 g6)
      have H6 := Lib.hid (And.intro h6 g6)
      have HA : Hid (Below wr.heap.size wr (w5.alloc (.cells #[.bool gn9, .slice ua row9.length uc] 26))) := Lib.hid (HG5.out.alloc HG5.out.size _)
      have HV : Hid (Kn.Vals (w5.alloc (.cells #[.bool gn9, .slice ua row9.length uc] 26)) (Bk.sv (ua, row9.length, uc)) row9) := Lib.hid (HU.out.later ((Below.refl _ w5).alloc (Nat.le_refl _) _))
      have HS6 := Lib.hid (HO.out.snoc (y := (gn9, (ua, row9.length, uc))) (d := ⟨gn9, row9⟩) HB.out.size HA.out rfl HNE2.out HV.out HF5.out H6.out.1 H6.out.2)
      have HW6 : Hid (Below w2.heap.size w2 w6 ∧ Below w1.heap.size w1 w6) := Lib.hid (by
       have hob := HO.out.ow.lt
       have hba := HO.out.ow.base_le
       refine ⟨(HBW5.out.alloc HBW5.out.size _).trans (H6.out.2.below (HBW5.out.alloc HBW5.out.size _).size fun k hk => ?_), (HBV5.out.alloc HBV5.out.size _).trans (H6.out.2.below hbs hba)⟩
       exact HOB.out k hk)
      have HOB6 : Hid (∀ k, v6.ownBlock = some k → w2.heap.size ≤ k) := Lib.hid fun k hk => by
       rcases H6.out.2.own with e | ⟨j, e, hj⟩
       ·exact HOB.out k (e ▸ hk)
       ·rw [e] at hk
        obtain rfl : j = k := by simpa using hk
        have := HBW5.out.size
        rw [World.size_alloc] at hj
        omega
      clear h6 g6 hO5 hbs hle
      go_roundw
      case rel => exact ⟨k + 1, _, _, HKL.out, by simp, HN2.out, HS6.out, HOB6, HW6.out.1, HW6.out.2⟩
      case measure => (have := HKL.out; simp [intOf]; omega)
     ·have HN8 := Lib.hid fun x => HFX.out (HNX.out.2 h9) (w5.alloc x) (HBV5.out.alloc HBV5.out.size x)
      have hne : ((er9 : Int) != 0) = true := by rw [bne_iff_ne]; omega
      clear HNX HNE h9
      go_wp2
      go_ret2
      exact HN8.out _
    ·obtain rfl : k = TS.length := by omega
     have hki : ¬ (TS.length : Int) < (TS.length : Int) := by omega
     rw [List.take_length] at hr
     have HFN := Lib.hid (HFY.out L hr wr _ Es hO hB)
     clear hk hkl hr hO hB2 hB
     go_wp2
     go_ret2
     exact HFN.out
  ·have hne : ((er : Int) != 0) = true := by rw [bne_iff_ne]; omega
   have HN8 := Lib.hid (HFL.out h0 w2 HG2.out)
   clear h0
   go_wp2
   go_ret2
   exact HN8.out
end
section
open Go.RowKit
structure Sk.Off (S : Nat → Prop) (w w' : World) : Prop where
 os : w'.os = w.os
 tape : w'.tape = w.tape
 output : w'.output = w.output
 size : w.heap.size ≤ w'.heap.size
 block : ∀ k, k < w.heap.size → ¬ S k → w'.heap[k]? = w.heap[k]?
def Sk.More (S : Nat → Prop) (w w' : World) (b : Nat) : Prop := S b ∨ (w.heap.size ≤ b ∧ b < w'.heap.size)
theorem Sk.Off.refl (S : Nat → Prop) (w : World) : Sk.Off S w w := ⟨rfl, rfl, rfl, Nat.le_refl _, fun _ _ _ => rfl⟩
theorem Sk.Off.of_below {S : Nat → Prop} {w w' : World} (h : Below w.heap.size w w') : Sk.Off S w w' := ⟨h.os, h.tape, h.output, h.size, fun k hk _ => h.block k hk⟩
theorem Sk.Off.below {S : Nat → Prop} {w w' : World} (h : Sk.Off S w w') {B : Nat} (hB : B ≤ w.heap.size) (hS : ∀ b, S b → B ≤ b) : Below B w w' :=
 ⟨h.os, h.tape, h.output, h.size, fun k hk => h.block k (by omega) (fun hs => by have := hS k hs; omega)⟩
theorem Sk.Off.same {S : Nat → Prop} {w w1 w2 : World} (h : Sk.Off S w w1) (g : Sk.Off S w1 w2) : Sk.Off S w w2 :=
 ⟨g.os.trans h.os, g.tape.trans h.tape, g.output.trans h.output, Nat.le_trans h.size g.size, fun k hk hn => (g.block k (Nat.lt_of_lt_of_le hk h.size) hn).trans (h.block k hk hn)⟩
def Sk.Row (B : Nat) (w : World) (v : Value) (l : List Kn.V) : Prop := ∃ a c, v = .slice a l.length c ∧ l.length ≤ 9223372036854775807 ∧ (∀ x ∈ l, Kn.Z x) ∧ (l = [] ∨ ∃ b o, a = some ⟨b, o, none⟩ ∧ b < B ∧ b < w.heap.size ∧ ∀ i x, l[i]? = some x → Kn.At w b (o + i * 3) x)
theorem Sk.At_below {B : Nat} {w w' : World} {b o : Nat} {v : Kn.V} (h : Kn.At w b o v) (hb : b < B) (g : Below B w w') : Kn.At w' b o v :=
 ⟨(g.cell (p := ⟨b, o, none⟩) hb).trans h.c0, (g.cell (p := ⟨b, o + 1, none⟩) hb).trans h.c1, (g.cell (p := ⟨b, o + 2, none⟩) hb).trans h.c2⟩
theorem Sk.Row.below {B : Nat} {w w' : World} {v : Value} {l : List Kn.V} (h : Sk.Row B w v l) (g : Below B w w') : Sk.Row B w' v l := by
 obtain ⟨a, c, hv, hm, hz, h⟩ := h
 refine ⟨a, c, hv, hm, hz, ?_⟩
 rcases h with h | ⟨b, o, ha, hb, hl, h⟩
 ·exact .inl h
 ·exact .inr ⟨b, o, ha, hb, Nat.lt_of_lt_of_le hl g.size, fun i x hx => Sk.At_below (h i x hx) hb g⟩
theorem Sk.Row.vals {B : Nat} {w : World} {v : Value} {l : List Kn.V} (h : Sk.Row B w v l) : Kn.Vals w v l := by
 obtain ⟨a, c, hv, hm, _, h⟩ := h
 refine ⟨a, c, hv, ?_⟩
 rcases h with h | ⟨b, o, ha, _, hl, h⟩
 ·exact .inl h
 ·exact .inr ⟨b, o, ha, hl, hm, h⟩
structure Sk.E where
 gone : Bool
 rv : Value
 row : List Kn.V
def Sk.E.enc (x : Sk.E) : List Value := [.bool x.gone, x.rv]
def Sk.E.d (x : Sk.E) : Dd.D := ⟨x.gone, x.row⟩
def Sk.kd (d : Dd.D) : Kn.V := d.row.headD ⟨true, 0, ⟨#[]⟩⟩
def Sk.ke (x : Sk.E) : Kn.V := Sk.kd x.d
theorem Sk.enc_len (x : Sk.E) : x.enc.length = 2 := rfl
structure Sk.RL (S : Nat → Prop) (B : Nat) (w : World) (p : Nat) (v : Value) (L : List Sk.E) : Prop where
 blk : w.heap[p]? = some (.cells #[v] 68 (0, 0))
 own : Dk.Own 26 2 Sk.E.enc 0 w v L
 ownS : ∀ b, v.ownBlock = some b → S b
 mine : S p
 alive : ∀ b, S b → b < w.heap.size
 from_ : ∀ b, S b → B ≤ b
 rows : ∀ x ∈ L, Sk.Row B w x.rv x.row ∧ x.row ≠ []
theorem Sk.RL.same {S : Nat → Prop} {B : Nat} {w w' : World} {p : Nat} {v : Value} {L : List Sk.E} (h : Sk.RL S B w p v L) (hs : w.heap.size ≤ w'.heap.size) (g : ∀ b, S b → w'.heap[b]? = w.heap[b]?) (gb : Below B w w') : Sk.RL S B w' p v L :=
 ⟨(g p h.mine).trans h.blk, h.own.same fun b hb => g b (h.ownS b hb), h.ownS, h.mine, fun b hb => Nat.lt_of_lt_of_le (h.alive b hb) hs, h.from_, fun x hx => ⟨(h.rows x hx).1.below gb, (h.rows x hx).2⟩⟩
theorem Sk.RL.le {S : Nat → Prop} {B : Nat} {w : World} {p : Nat} {v : Value} {L : List Sk.E} (h : Sk.RL S B w p v L) : B ≤ w.heap.size := by
 have := h.from_ p h.mine
 have := h.alive p h.mine
 omega
theorem Sk.RL.kept {S : Nat → Prop} {B : Nat} {w w' : World} {p : Nat} {v : Value} {L : List Sk.E} (h : Sk.RL S B w p v L) (g : Below w.heap.size w w') : Sk.RL S B w' p v L :=
 h.same g.size (fun b hb => g.block b (h.alive b hb)) (g.mono h.le)
structure Sk.Cell (w : World) (g i : Nat) (x : Sk.E) (rb ro rn rc : Nat) : Prop where
 c : w.cell? ⟨g, i * 2 + 1, none⟩ = some (.slice (some ⟨rb, ro, none⟩) rn rc)
 c0 : w.cell? ⟨g, i * 2, none⟩ = some (.bool x.gone)
 k : Kn.At w rb ro (Sk.ke x)
 pos : 0 < rn
 rv : x.rv = .slice (some ⟨rb, ro, none⟩) rn rc
theorem Sk.RL.cell {S : Nat → Prop} {B : Nat} {w : World} {p : Nat} {v : Value} {L : List Sk.E} (h : Sk.RL S B w p v L) {i : Nat} {x : Sk.E} (hx : L[i]? = some x) :
 ∃ g c rb ro rn rc, v = .slice (some ⟨g, 0, none⟩) L.length c ∧ Sk.Cell w g i x rb ro rn rc ∧ Kn.Z (Sk.ke x) := by
 obtain ⟨⟨ra, rc, hrv, hrm, hrz, hr⟩, hne⟩ := h.rows x (List.mem_of_getElem? hx)
 rcases hr with hr | ⟨rb, ro, rfl, _, _, hr⟩
 ·exact absurd hr hne
 ·rcases h.own.form with ⟨_, rfl⟩ | ⟨g, c, rfl, _⟩
  ·cases hx
  ·have h0 := h.own.cell Sk.enc_len (g := g) rfl hx (j := 0) (by decide)
   have h1 := h.own.cell Sk.enc_len (g := g) rfl hx (j := 1) (by decide)
   obtain ⟨k, r, hk⟩ : ∃ k r, x.row = k :: r := List.exists_cons_of_ne_nil hne
   have hke : Sk.ke x = k := by unfold Sk.ke Sk.kd Sk.E.d; rw [hk]; rfl
   refine ⟨g, c, rb, ro, x.row.length, rc, rfl, ⟨?_, ?_, ?_, List.length_pos_iff.2 hne, hrv⟩, ?_⟩
   ·rw [← hrv]; exact h1
   ·exact h0
   ·rw [hke]
    have := hr 0 k (by rw [hk]; rfl)
    simpa using this
   ·rw [hke]
    exact hrz k (by rw [hk]; exact List.mem_cons_self)
theorem Sk.RL.slice {S : Nat → Prop} {B : Nat} {w : World} {p : Nat} {v : Value} {L : List Sk.E} (h : Sk.RL S B w p v L) : ∃ a c, v = .slice a L.length c := by
 rcases h.own.form with ⟨rfl, rfl⟩ | ⟨g, c, rfl, _⟩
 ·exact ⟨none, 0, rfl⟩
 ·exact ⟨_, c, rfl⟩
set_option maxHeartbeats 4000000 in
set_option maxRecDepth 100000 in
theorem Sk.place_c {S : Nat → Prop} {B : Nat} {w : World} {p : Nat} {v : Value} {L : List Sk.E} (h : Sk.RL S B w p v L) (k : Kn.V) (hk : Kn.Z k) (hl : L.length ≤ 1000000) :
 Calls Tryz.prog 68 #[.pointer (some ⟨p, 0, none⟩), k.val] w fun e w' => e = .returned (.tuple #[.int .i64 ((Sk.at_ Sk.ke L k : Nat) : Int), .bool (Sk.there Sk.ke L k)]) ∧ Below w.heap.size w w' := by
 obtain ⟨wb, hwb⟩ : ∃ wb, wb = w.alloc (.cells #[.bool k.null, .int .i64 k.n, .string k.s] 43) := ⟨_, rfl⟩
 have hb0 : Below w.heap.size w wb := by rw [hwb]; exact (Below.refl _ w).alloc (Nat.le_refl _) _
 have hkk : Kn.At wb w.heap.size 0 k := by rw [hwb]; exact Kn.At.new w k _
 have hsb : w.heap.size < wb.heap.size := by rw [hwb, World.size_alloc]; omega
 have hR := h.kept hb0
 obtain ⟨a, c, hv⟩ := h.slice
 have HK : Hid (∀ W, Below wb.heap.size wb W → W.cell? ⟨p, 0, none⟩ = some (.slice a L.length c) ∧ Kn.At W w.heap.size 0 k) := Lib.hid fun W g => by
  have h2 := hR.kept g
  refine ⟨?_, hkk.later g⟩
  rw [cell_of_row W p _ _ _ _ h2.blk, hv]
  rfl
 have HX : Hid (∀ W i x, Below wb.heap.size wb W → L[i]? = some x → ∃ g rb ro rn rc, a = some ⟨g, 0, none⟩ ∧ Sk.Cell W g i x rb ro rn rc ∧ Kn.Z (Sk.ke x)) := Lib.hid fun W i x g hx => by
  obtain ⟨g', c', rb, ro, rn, rc, e, hc, hz⟩ := (hR.kept g).cell hx
  rw [hv] at e
  simp only [Value.slice.injEq, true_and] at e
  exact ⟨g', rb, ro, rn, rc, e.1, hc, hz⟩
 have HLT : Hid (∀ i x, i ≤ Sk.at_ Sk.ke L k → L[i]? = some x → Kn.cmp (Sk.ke x) k < 0 → i + 1 ≤ Sk.at_ Sk.ke L k) := Lib.hid fun i x hi hx hc => by
  rcases Nat.lt_or_ge i (Sk.at_ Sk.ke L k) with h1 | h1
  ·exact h1
  ·obtain rfl : i = Sk.at_ Sk.ke L k := by omega
   exact absurd hc (Sk.at_ge hx)
 have HGE : Hid (∀ i x, i ≤ Sk.at_ Sk.ke L k → L[i]? = some x → 0 ≤ Kn.cmp (Sk.ke x) k → Sk.at_ Sk.ke L k = i ∧ Sk.there Sk.ke L k = !decide (Kn.cmp k (Sk.ke x) < 0)) := Lib.hid fun i x hi hx hc => by
  have e : Sk.at_ Sk.ke L k = i := by
   rcases Nat.lt_or_ge i (Sk.at_ Sk.ke L k) with h1 | h1
   ·exact absurd (Sk.at_lt h1 hx) (by omega)
   ·omega
  refine ⟨e, ?_⟩
  unfold Sk.there
  rw [e, hx]
 have HEND : Hid (∀ i, i ≤ Sk.at_ Sk.ke L k → i = L.length → Sk.at_ Sk.ke L k = i ∧ Sk.there Sk.ke L k = false) := Lib.hid fun i hi hil => by
  have := Sk.at_le (key := Sk.ke) L k
  have e : Sk.at_ Sk.ke L k = i := by omega
  refine ⟨e, ?_⟩
  unfold Sk.there
  rw [e, List.getElem?_eq_none (by omega)]
 have HB0 := Lib.hid hb0
 have HKZ := Lib.hid hk
 have HSB := Lib.hid hsb
 have hli : (L.length : Int) ≤ 1000000 := by omega
 generalize Sk.at_ Sk.ke L k = A at HLT HGE HEND ⊢
 generalize Sk.there Sk.ke L k = TH at HGE HEND ⊢
 obtain ⟨bk, hbk⟩ : ∃ bk, bk = w.heap.size := ⟨_, rfl⟩
 clear h hR hv hb0 hkk hsb hk hl
 go_enter Tryz.func68, Tryz.ntmps68
 go_wp2_with fail
 rw [← hwb]
 clear hwb
 go_loopw [6] (fun iv wr => ∃ i : Nat, i ≤ A ∧ i ≤ L.length ∧ iv = .int .i64 i ∧ Below wb.heap.size wb wr) (fun iv _ => L.length - (intOf iv).toNat)
 case atStart => exact ⟨0, Nat.zero_le _, Nat.zero_le _, rfl, Below.refl _ _⟩
 case round =>
  obtain ⟨i, hi, hil, rfl, hB⟩ := hrel
  have HB := Lib.hid hB
  have hi0 : (0 : Int) ≤ (i : Int) := by omega
  obtain ⟨c0, ⟨k0, k1, k2⟩⟩ := HK.out wr hB
  by_cases hlt : i < L.length
  ·obtain ⟨x, hx⟩ : ∃ x, L[i]? = some x := ⟨_, List.getElem?_eq_getElem hlt⟩
   obtain ⟨g, rb, ro, rn, rc, rfl, ⟨hc, _, ⟨x0, x1, x2⟩, hpos, _⟩, hz⟩ := HX.out wr i x hB hx
   have hii : (i : Int) < (L.length : Int) := by omega
   have hrp : (0 : Int) < (rn : Int) := by omega
   have ca := Kn.rAhead_c (Sk.ke x) k hz HKZ.out
   have cb := Kn.rAhead_c k (Sk.ke x) HKZ.out hz
   have HLT' : Hid (Kn.cmp (Sk.ke x) k < 0 → i + 1 ≤ A) := Lib.hid fun hc => HLT.out i x hi hx hc
   have HGE' : Hid (0 ≤ Kn.cmp (Sk.ke x) k → A = i ∧ TH = !decide (Kn.cmp k (Sk.ke x) < 0)) := Lib.hid fun hc => HGE.out i x hi hx hc
   have HX' : Hid (∀ W, Below wb.heap.size wb W → ∃ rb ro rn rc, Sk.Cell W g i x rb ro rn rc) := Lib.hid fun W gW => by
    obtain ⟨g', rb', ro', rn', rc', e, hc', _⟩ := HX.out W i x gW hx
    simp only [Option.some.injEq, Addr.mk.injEq, and_true] at e
    subst e
    exact ⟨rb', ro', rn', rc', hc'⟩
   unfold Kn.V.val at ca cb
   by_cases hcmp : Kn.cmp (Sk.ke x) k < 0
   ·rw [decide_eq_true hcmp] at ca
    have hnext := HLT'.out hcmp
    have E1 := fun d os => cell_regrown c0 d os
    have E2 := fun d os => cell_regrown hc d os
    have E3 := fun d os => cell_regrown x0 d os
    have E4 := fun d os => cell_regrown x1 d os
    have E5 := fun d os => cell_regrown x2 d os
    have E6 := fun d os => cell_regrown k0 d os
    have E7 := fun d os => cell_regrown k1 d os
    have E8 := fun d os => cell_regrown k2 d os
    have CA : Hid (∀ p : Regrown, _) := Lib.hid fun p : Regrown => Calls.regrown_of (d := p.d) (os := p.os) (w := wr) (ca _)
    clear ca cb hcmp hB HLT' HGE' HLT HGE HEND hz hx HX
    go_wp2_with fail
    refine wp_region_quiet_below (by kernel_rfl) (by kernel_rfl) ?_
    repeat (go_big_quiet_step (exact CA.out _))
    refine wpQuiet_nil ?_
    intro wq hw'
    have hbq : Below wr.heap.size wr wq := by
     obtain ⟨q, rfl⟩ := hw'
     exact below_regrown wr q.d q.os
    have HBQ := Lib.hid (HB.out.trans (hbq.mono HB.out.size))
    clear hw' hbq E1 E2 E3 E4 E5 E6 E7 E8 CA
    go_wp2
    go_roundw
    case rel => exact ⟨i + 1, hnext, by omega, by simp, HBQ.out⟩
    case measure => simp [intOf]; omega
   ·rw [decide_eq_false hcmp] at ca
    obtain ⟨hA, hTH⟩ := HGE'.out (by omega)
    have E1 := fun d os => cell_regrown c0 d os
    have E2 := fun d os => cell_regrown hc d os
    have E3 := fun d os => cell_regrown x0 d os
    have E4 := fun d os => cell_regrown x1 d os
    have E5 := fun d os => cell_regrown x2 d os
    have E6 := fun d os => cell_regrown k0 d os
    have E7 := fun d os => cell_regrown k1 d os
    have E8 := fun d os => cell_regrown k2 d os
    have CA : Hid (∀ p : Regrown, _) := Lib.hid fun p : Regrown => Calls.regrown_of (d := p.d) (os := p.os) (w := wr) (ca _)
    have CB := Lib.hid cb
    have HAT := Lib.hid (And.intro hA hTH)
    clear ca cb hcmp hB HLT' HGE' HLT HGE HEND hz hx HX hA hTH
    go_wp2_with fail
    refine wp_region_quiet_below (by kernel_rfl) (by kernel_rfl) ?_
    repeat (go_big_quiet_step (exact CA.out _))
    refine wpQuiet_nil ?_
    intro wq hw'
    have hbq : Below wr.heap.size wr wq := by
     obtain ⟨q, rfl⟩ := hw'
     exact below_regrown wr q.d q.os
    have HBQ := Lib.hid (HB.out.trans (hbq.mono HB.out.size))
    clear hw' hbq E1 E2 E3 E4 E5 E6 E7 E8 CA c0 hc x0 x1 x2 k0 k1 k2
    obtain ⟨c0, ⟨k0, k1, k2⟩⟩ := HK.out wq HBQ.out
    obtain ⟨rb, ro, rn, rc, ⟨hc, _, ⟨x0, x1, x2⟩, hpos, _⟩⟩ := HX'.out wq HBQ.out
    have hrp : (0 : Int) < (rn : Int) := by omega
    have E1 := fun d os => cell_regrown c0 d os
    have E2 := fun d os => cell_regrown hc d os
    have E3 := fun d os => cell_regrown x0 d os
    have E4 := fun d os => cell_regrown x1 d os
    have E5 := fun d os => cell_regrown x2 d os
    have E6 := fun d os => cell_regrown k0 d os
    have E7 := fun d os => cell_regrown k1 d os
    have E8 := fun d os => cell_regrown k2 d os
    have CA : Hid (∀ p : Regrown, _) := Lib.hid fun p : Regrown => Calls.regrown_of (d := p.d) (os := p.os) (w := wq) (CB.out _)
    clear HX' CB
    go_wp2_with fail
    refine wp_region_quiet_below (by kernel_rfl) (by kernel_rfl) ?_
    repeat (go_big_quiet_step (exact CA.out _))
    refine wpQuiet_nil ?_
    intro wz hw'
    have hbq : Below wq.heap.size wq wz := by
     obtain ⟨q, rfl⟩ := hw'
     exact below_regrown wq q.d q.os
    have HBZ := Lib.hid (HBQ.out.trans (hbq.mono HBQ.out.size))
    clear hw' hbq E1 E2 E3 E4 E5 E6 E7 E8 CA c0 hc x0 x1 x2 k0 k1 k2
    go_wp2
    go_ret2
    exact ⟨by rw [HAT.out.1, HAT.out.2]; rfl, HB0.out.trans (HBZ.out.mono (Nat.le_of_lt HSB.out))⟩
  ·obtain rfl : i = L.length := by omega
   have hii : ¬ (L.length : Int) < (L.length : Int) := by omega
   obtain ⟨hA, hTH⟩ := HEND.out _ hi rfl
   have HAT := Lib.hid (And.intro hA hTH)
   have E1 := fun d os => cell_regrown c0 d os
   clear hA hTH HLT HGE HEND HX hlt hB
   go_wp2_with fail
   refine wp_region_quiet_below (by kernel_rfl) (by kernel_rfl) ?_
   repeat (go_big_quiet_step (fail))
   refine wpQuiet_nil ?_
   intro wq hw'
   have hbq : Below wr.heap.size wr wq := by
    obtain ⟨q, rfl⟩ := hw'
    exact below_regrown wr q.d q.os
   have HBQ := Lib.hid (HB.out.trans (hbq.mono HB.out.size))
   clear hw' hbq E1 c0 k0 k1 k2
   obtain ⟨c0, _⟩ := HK.out wq HBQ.out
   have E1 := fun d os => cell_regrown c0 d os
   go_wp2_with fail
   refine wp_region_quiet_below (by kernel_rfl) (by kernel_rfl) ?_
   repeat (go_big_quiet_step (fail))
   refine wpQuiet_nil ?_
   intro wz hw'
   have hbq : Below wq.heap.size wq wz := by
    obtain ⟨q, rfl⟩ := hw'
    exact below_regrown wq q.d q.os
   have HBZ := Lib.hid (HBQ.out.trans (hbq.mono HBQ.out.size))
   clear hw' hbq E1 c0
   go_wp2
   go_ret2
   exact ⟨by rw [HAT.out.1, HAT.out.2]; rfl, HB0.out.trans (HBZ.out.mono (Nat.le_of_lt HSB.out))⟩
end
section
open Go.RowKit
def Sk.getV : Option Sk.E → Value
 | none => .tuple #[.agg #[.bool false, .slice none 0 0], .bool false]
 | some x => .tuple #[.agg #[.bool x.gone, x.rv], .bool true]
end
section
open Go.RowKit
theorem Sk.infoD : (Tryz.prog.info? 26).map (fun i => (i.zero, i.size, i.bytes)) = some (some (.agg #[.bool false, .slice none 0 0]), 2, 32) := by kernel_rfl
theorem Sk.enc_one (x : Sk.E) (h : ∃ a n c, x.rv = .slice a n c) : ∀ u ∈ x.enc, u.oneCell' = true := fun u hu => by
 obtain ⟨a, n, c, h⟩ := h
 simp only [Sk.E.enc, List.mem_cons, List.not_mem_nil, or_false] at hu
 rcases hu with rfl | rfl
 ·rfl
 ·rw [h]; rfl
theorem Sk.step_deed {base : Nat} {w0 : World} {v : Value} {M : List Sk.E} (K : List Sk.E) (hone : ∀ x ∈ K, ∃ a n c, x.rv = .slice a n c) (hb : base ≤ w0.heap.size) (hown : Dk.Own 26 2 Sk.E.enc base w0 v M) (hl : M.length + K.length ≤ 4194304) {u : Value} (hu : Dk.Src Sk.E.enc w0 u K) (ty : TypeId) :
 ∃ v' w', (Builtin.append_ #[28, 28] ty #[v, u]).run Tryz.prog w0 = .ok v' w' ∧ Dk.Own 26 2 Sk.E.enc base w' v' (M ++ K) ∧ Ty.Grew w0 w' v v' := by
 obtain ⟨i0, hi, hz0, hz1, hz2⟩ := info_parts Sk.infoD
 rcases hu with ⟨rfl, rfl⟩ | ⟨ad, c, rfl, hK⟩
 ·exact ⟨v, w0, run_append_owned_none (P := Tryz.prog) w0 base 28 ty 26 i0 2 Tryz.underlying28 hi v _ _ hown, by rw [List.append_nil]; exact hown, Ty.Grew.refl _ _⟩
 ·obtain ⟨v', w', hr, h1, h2⟩ := Ty.append_tight (P := Tryz.prog) w0 base 28 ty 26 i0 _ 2 32 Tryz.underlying28 hi hz0 hz1 hz2 rfl (by decide) v M.length (M.flatMap Sk.E.enc) hown ad K.length c (K.flatMap Sk.E.enc) (Dk.flat_len Sk.enc_len K) hK (fun y hy => by
   obtain ⟨x, hxm, hx⟩ := List.mem_flatMap.1 hy
   exact Sk.enc_one x (hone x hxm) y hx) (by unfold maxLen; omega) (by omega) hb
  refine ⟨v', w', hr, ?_, h2⟩
  unfold Dk.Own
  rw [List.length_append, List.flatMap_append]
  exact h1
theorem Sk.step_app {wo w0 : World} {v : Value} {M : List Sk.E} (K : List Sk.E) (hone : ∀ x ∈ K, ∃ a n c, x.rv = .slice a n c) (hbW : Below wo.heap.size wo w0) (hown : Dk.Own 26 2 Sk.E.enc wo.heap.size w0 v M) (hl : M.length + K.length ≤ 4194304)
 {ops : Array Oper} {o : Oper} {a : Act} {Kx : Act → World → Prop} {Q : Exit → Act → World → Prop} {E : Prop} (s x : Operand) (u : Value) (hgd : o.guard = none)
 (ho : o.op = .call { callee := .builtin .append, args := #[s, x], argTypes := #[28, 28] })
 (hs : a.eval s = v) (hx : a.eval x = u) (hu : Dk.Src Sk.E.enc w0 u K)
 (h : ∀ v' w', Dk.Own 26 2 Sk.E.enc wo.heap.size w' v' (M ++ K) → Below wo.heap.size wo w' → Ty.Grew w0 w' v v' → Kx (a.put o.dst v') w') :
 if Region.wanted o (yielded ops a.tmps) = true then Oper.wp Tryz.prog o a w0 Kx Q else E := by
 have hw : Region.wanted o (yielded ops a.tmps) = true := by simp [Region.wanted, hgd]
 rw [if_pos hw]
 obtain ⟨v', w', hr, h2, h3⟩ := Sk.step_deed K hone hbW.size hown hl hu o.type
 unfold Oper.wp execOp
 simp only [ho, resolve, invoke, builtin, Sem.run_bind, Sem.run_pure, Result.andThen_ok, List.map_toArray, List.map_cons, List.map_nil, hs, hx, hr]
 exact h v' w' h2 (Dk.own_below hbW hown h3) h3
end
section
open Go Go.RowKit
section
variable {P : Program} {ops : Array Oper} {Q : Exit → Act → World → Prop} {md : Region.Mode} {S : World → Prop} {z : Nat}
def Sk.anyT (P : Program) (md : Region.Mode) (ops : Array Oper) (Q : Exit → Act → World → Prop) (S : World → Prop) (z : Nat) : Nat → Array Bool → Act → World → Prop
 | 0, listed, a, w => Region.ready md ops listed = [] ∧ Q .normal a w
 | fuel + 1, listed, a, w =>
   (Region.ready md ops listed = [] → Q .normal a w) ∧
   ∀ i ∈ Region.ready md ops listed, wpOp P ops Q i (fun a' w' => (i ≠ z → S w') ∧ Sk.anyT P md ops Q S z fuel (listed.setIfInBounds i true) a' w') a w
theorem Sk.anyT_any : ∀ (fuel : Nat) (listed : Array Bool) (a : Act) (w : World), Sk.anyT P md ops Q S z fuel listed a w → wpAny P md ops Q fuel listed a w
 | 0, _, _, _, h => h
 | fuel + 1, _, _, _, h => ⟨h.1, fun i hi => wpOp_mono (fun a' w' h' => Sk.anyT_any fuel _ a' w' h'.2) (h.2 i hi)⟩
theorem Sk.anyT_first {i : Nat} {oi : Oper} {v : Value} (hi : ops[i]? = some oi) (hsel : ∀ (j : Nat) (o : Oper) cs b, ops[j]? = some o → o.op ≠ .select cs b)
 (hQ : ∀ c a w, Q (.panic c) (a.put oi.dst v) w → Q (.panic c) a w) (hz : ∀ oz, ops[z]? = some oz → ∃ e ∈ oz.after, Region.binds md e = true ∧ e.on = i) :
 ∀ (fuel : Nat) (listed : Array Bool) (a : Act) (w : World),
   (∀ j oj, ops[j]? = some oj → j ≠ i → listed.getD j true = false → (∀ e ∈ oj.after, Region.binds md e = true → e.on ≠ i) → oi.apart ops oj = true) →
   i ∈ Region.ready md ops listed → YieldsIf P ops S oi v a → S w →
   Sk.anyT P md ops Q S z fuel (listed.setIfInBounds i true) (a.put oi.dst v) w → Sk.anyT P md ops Q S z (fuel + 1) listed a w := by
 intro fuel
 induction fuel with
 | zero =>
   intro listed a w _ hr hy hS H
   refine ⟨fun h => (by rw [h] at hr; cases hr), fun j hj => ?_⟩
   by_cases hji : j = i
   ·subst hji; exact hy.wpOp hi hS ⟨fun _ => hS, H⟩
   ·have := ready_mono hj hji
    rw [H.1] at this
    cases this
 | succ fuel ih =>
   intro listed a w hfree hr hy hS H
   refine ⟨fun h => (by rw [h] at hr; cases hr), fun j hj => ?_⟩
   by_cases hji : j = i
   ·subst hji; exact hy.wpOp hi hS ⟨fun _ => hS, H⟩
   ·have h1 := H.2 j (ready_mono hj hji)
    obtain ⟨hjun, oj, hoj, hall⟩ := mem_ready.1 hj
    have hnot : ∀ e ∈ oj.after, Region.binds md e = true → e.on ≠ i := fun e he hb heq => by
     have h1 := hall e he hb
     have h0 := (mem_ready.1 hr).1
     rw [heq] at h1
     rcases Nat.lt_or_ge i listed.size with h' | h'
     ·simp [h'] at h0 h1; rw [h0] at h1; cases h1
     ·simp [Array.getElem?_eq_none h'] at h1
    have hjz : j ≠ z := fun e => by
     subst e
     obtain ⟨e, he, hb, hon⟩ := hz oj hoj
     exact hnot e he hb hon
    have h2 := wpOp_putIf hoj (hfree j oj hoj hji hjun hnot) (fun cs b => hsel i oi cs b hi) (fun cs b => hsel j oj cs b hoj) hQ hy h1
    have hfree' : ∀ k ok, ops[k]? = some ok → k ≠ i → (listed.setIfInBounds j true).getD k true = false →
     (∀ e ∈ ok.after, Region.binds md e = true → e.on ≠ i) → oi.apart ops ok = true := fun k ok hk hki hun hno => by
     refine hfree k ok hk hki ?_ hno
     by_cases hjk : j = k
     ·subst hjk; exact hjun
     ·rw [getD_set_ne true hjk] at hun; exact hun
    refine wpOp_mono (fun a' w' h3 => ⟨h3.2.1, ih (listed.setIfInBounds j true) a' w' hfree' (ready_mono hr (Ne.symm hji)) h3.1 (h3.2.1 hjz) ?_⟩) h2
    rw [Array.setIfInBounds_comm _ _ hji]
    exact h3.2.2
theorem Sk.anyT_take {i : Nat} {oi : Oper} {v : Value} {fuel : Nat} {listed : Array Bool} {a : Act} {w : World} (hi : ops[i]? = some oi)
 (hs : Region.noSelect ops = true) (hf : Region.free md ops listed i = true) (hr : (Region.ready md ops listed).contains i = true)
 (hz : (match ops[z]? with | some oz => oz.after.any fun e => Region.binds md e && e.on == i | none => true) = true)
 (hQ : ∀ c a w, Q (.panic c) (a.put oi.dst v) w → Q (.panic c) a w) (hy : YieldsIf P ops S oi v a) (hS : S w)
 (h : Sk.anyT P md ops Q S z fuel (listed.setIfInBounds i true) (a.put oi.dst v) w) : Sk.anyT P md ops Q S z (fuel + 1) listed a w :=
 Sk.anyT_first hi (Region.noSelect_spec hs) hQ (fun oz ho => by
  rw [ho] at hz
  simp only [Array.any_eq_true] at hz
  obtain ⟨k, hk, he⟩ := hz
  simp only [Bool.and_eq_true, beq_iff_eq] at he
  exact ⟨oz.after[k], Array.getElem_mem hk, he.1, he.2⟩) fuel listed a w (Region.free_spec hi hf) (by simpa using hr) hy hS h
theorem Sk.anyT_region {id : Nat} {a : Act} {w : World} (z : Nat) (hm : P.follows .mixedOrders = true) (hS : S w.drew)
 (h : S w.drew → Sk.anyT P .any ops Q S z ops.size (Array.replicate ops.size false) a w.drew) : (Code.region id ops true).wp P Q a w :=
 wp_region_any hm (Sk.anyT_any _ _ _ _ (h hS))
theorem Sk.anyT_done {listed : Array Bool} {a : Act} {w : World} (hr : Region.ready md ops listed = []) (h : Q .normal a w) : ∀ fuel, Sk.anyT P md ops Q S z fuel listed a w
 | 0 => ⟨hr, h⟩
 | _ + 1 => ⟨fun _ => h, by rw [hr]; simp⟩
theorem Sk.anyT_one {i : Nat} {o : Oper} {fuel : Nat} {listed : Array Bool} {a : Act} {w : World} (hr : Region.ready md ops listed = [i]) (ho : ops[i]? = some o) (hiz : i ≠ z)
 (h : ∀ K' : Act → World → Prop, Shut (∀ a w, S w → (S w → Sk.anyT P md ops Q S z fuel (listed.setIfInBounds i true) a w) → K' a w) → if Region.wanted o (yielded ops a.tmps) = true then Oper.wp P o a w K' Q else K' (a.put o.dst undef) w) : Sk.anyT P md ops Q S z (fuel + 1) listed a w := by
 refine ⟨fun e => (by rw [hr] at e; cases e), fun j hj => ?_⟩
 rw [hr, List.mem_singleton] at hj
 subst hj
 exact wpOp_step ho (fun K' hK => h K' (fun a w hS hW => hK a w ⟨fun _ => hS, hW hS⟩))
theorem Sk.anyT_two {i k : Nat} {o u : Oper} {fuel : Nat} {listed : Array Bool} {a : Act} {w : World} (hr : Region.ready md ops listed = [i, k]) (ho : ops[i]? = some o) (hu : ops[k]? = some u) (hiz : i ≠ z) (hkz : k ≠ z)
 (h : ∀ K' : Act → World → Prop, Shut (∀ a w, S w → (S w → Sk.anyT P md ops Q S z fuel (listed.setIfInBounds i true) a w) → K' a w) → if Region.wanted o (yielded ops a.tmps) = true then Oper.wp P o a w K' Q else K' (a.put o.dst undef) w)
 (g : ∀ K' : Act → World → Prop, Shut (∀ a w, S w → (S w → Sk.anyT P md ops Q S z fuel (listed.setIfInBounds k true) a w) → K' a w) → if Region.wanted u (yielded ops a.tmps) = true then Oper.wp P u a w K' Q else K' (a.put u.dst undef) w) : Sk.anyT P md ops Q S z (fuel + 1) listed a w := by
 refine ⟨fun e => (by rw [hr] at e; cases e), fun j hj => ?_⟩
 rw [hr] at hj
 rcases List.mem_cons.1 hj with rfl | hj
 ·exact wpOp_step ho (fun K' hK => h K' (fun a w hS hW => hK a w ⟨fun _ => hS, hW hS⟩))
 ·rw [List.mem_singleton] at hj
  subst hj
  exact wpOp_step hu (fun K' hK => g K' (fun a w hS hW => hK a w ⟨fun _ => hS, hW hS⟩))
theorem Sk.anyT_last {o : Oper} {fuel : Nat} {listed : Array Bool} {a : Act} {w : World} (hr : Region.ready md ops listed = [z]) (ho : ops[z]? = some o)
 (h : ∀ K' : Act → World → Prop, Shut (∀ a w, Sk.anyT P md ops Q S z fuel (listed.setIfInBounds z true) a w → K' a w) → if Region.wanted o (yielded ops a.tmps) = true then Oper.wp P o a w K' Q else K' (a.put o.dst undef) w) : Sk.anyT P md ops Q S z (fuel + 1) listed a w := by
 refine ⟨fun e => (by rw [hr] at e; cases e), fun j hj => ?_⟩
 rw [hr, List.mem_singleton] at hj
 subst hj
 exact wpOp_step ho (fun K' hK => h K' (fun a w hW => hK a w ⟨fun e => absurd rfl e, hW⟩))
end
end
end Go.Proofs.YtkhiemkekmdhgaaGreatDoor
