import Derived.Test.YtbelkhkllneifaaGreatDoorWEAE
import Derived.Test.YtbelkhkllneifaaGreatDoorWEAD
import Derived.BigQuiet
import Derived.Deep.QuietTactic
import Derived.Deep.RegionHeld3
namespace Go.Proofs.YtbelkhkllneifaaGreatDoor
section
open Go.RowKit
def Bt.flat (X : Nat → Nat) (q x : Nat) : Bool := (X (x / q)).testBit (x % q)
end
section
open Go.RowKit
open Ig (nth encI encR grp diffs prv low)
structure Ig.At (B : Nat) (w : World) (v : Value) (L : List Int) : Prop where
 is : ∃ a c, v = .slice a L.length c ∧ L.length ≤ c ∧ B ≤ w.heap.size ∧ (L = [] ∨ ∃ b o, a = some ⟨b, o, none⟩ ∧ b < B ∧ ∀ i, i < L.length → w.cell? ⟨b, o + i, none⟩ = some (.int .i64 (nth L i)))
theorem Ig.At.below {B : Nat} {w w' : World} {v : Value} {L : List Int} (h : Ig.At B w v L) (g : Below B w w') : Ig.At B w' v L := by
 obtain ⟨a, c, rfl, hc, hB, h⟩ := h
 refine ⟨a, c, rfl, hc, Nat.le_trans hB g.size, ?_⟩
 rcases h with h | ⟨b, o, rfl, hlt, h⟩
 ·exact .inl h
 ·exact .inr ⟨b, o, rfl, hlt, fun i hi => (g.cell (p := ⟨b, o + i, none⟩) hlt).trans (h i hi)⟩
theorem Ig.At.mono {B B' : Nat} {w : World} {v : Value} {L : List Int} (h : Ig.At B w v L) (h1 : B ≤ B') (h2 : B' ≤ w.heap.size) : Ig.At B' w v L := by
 obtain ⟨a, c, rfl, hc, hB, h⟩ := h
 refine ⟨a, c, rfl, hc, h2, ?_⟩
 rcases h with h | ⟨b, o, rfl, hlt, h⟩
 ·exact .inl h
 ·exact .inr ⟨b, o, rfl, by omega, h⟩
def Ig.fn (k : Nat) : Value := .func (.func k) #[] #[]
def Ig.csA : Array Value := #[.func (.func 178) #[] #[], .func (.func 179) #[] #[], .func (.func 180) #[] #[], .func (.func 181) #[] #[],
 .func (.func 182) #[] #[], .func (.func 183) #[] #[], .func (.func 184) #[] #[], .func (.func 185) #[] #[]]
def Ig.cs : Obj := .cells Ig.csA 235
set_option maxHeartbeats 1000000 in
theorem Ig.coders_c (w : World) :
 Calls Tryz.prog 156 #[] w fun e w' => e = .returned (.slice (some ⟨w.heap.size, 0, none⟩) 4 4) ∧ w' = w.alloc Ig.cs := by
 go_enter Tryz.func156, Tryz.ntmps156
 go_wp2
 go_ret
 exact ⟨rfl, rfl⟩
theorem Ig.cs_cell (w : World) (i : Nat) (v : Value) (h : Ig.csA[i]? = some v) : (w.alloc Ig.cs).cell? ⟨w.heap.size, i, none⟩ = some v := by
 have hn : (w.alloc Ig.cs).heap[w.heap.size]? = some Ig.cs := Go.Deep.blk_alloc_new _ _
 unfold World.cell?
 simp only [hn]
 exact h
theorem Ig.cs_at {w : World} {b : Nat} (h : ∀ i v, Ig.csA[i]? = some v → w.cell? ⟨b, i, none⟩ = some v) :
 w.cell? ⟨b, 0, none⟩ = some (.func (.func 178) #[] #[]) ∧ w.cell? ⟨b, 1, none⟩ = some (.func (.func 179) #[] #[]) ∧ w.cell? ⟨b, 2, none⟩ = some (.func (.func 180) #[] #[]) ∧ w.cell? ⟨b, 3, none⟩ = some (.func (.func 181) #[] #[]) ∧ w.cell? ⟨b, 4, none⟩ = some (.func (.func 182) #[] #[]) ∧ w.cell? ⟨b, 5, none⟩ = some (.func (.func 183) #[] #[]) ∧ w.cell? ⟨b, 6, none⟩ = some (.func (.func 184) #[] #[]) ∧ w.cell? ⟨b, 7, none⟩ = some (.func (.func 185) #[] #[]) :=
 ⟨h 0 _ rfl, h 1 _ rfl, h 2 _ rfl, h 3 _ rfl, h 4 _ rfl, h 5 _ rfl, h 6 _ rfl, h 7 _ rfl⟩
theorem Ig.take_full {w w' : World} {base : Nat} {v v' : Value} (g : Ty.Grew w w' v v') (hb : base ≤ w.heap.size) (hv : ∀ k, v.ownBlock = some k → base ≤ k) : Below base w w' := g.below hb hv
set_option maxHeartbeats 1000000 in
theorem Ig.writePlain_c (base : Nat) (v : Value) (bs : List UInt8) (u : Value) (L : List Int) (w : World) (hw : Ty.Tabs w) (hown : Ty.Buf base w v bs) (hb : base ≤ w.heap.size) (hG : Ty.G ≤ base)
 (hL : Ig.At base w u L) (hi : ∀ x ∈ L, Ty.I64 x) (hlen : bs.length ≤ 100) (hl : L.length ≤ 65536) :
 Calls Tryz.prog 178 #[v, u] w (Ty.Written base w v (bs ++ L.flatMap Ig.encI)) := by
 have hL0 := hL
 obtain ⟨a, c, rfl, hc, _, h⟩ := hL
 have HI := Lib.hid hi
 have HL := Lib.hid hL0
 have H0 := Lib.hid hown.base
 clear hi hL0
 go_enter Tryz.func178, Tryz.ntmps178
 go_wp2
 go_loopw [0, 9] (fun x i wr => ∃ k : Nat, k ≤ L.length ∧ i = .int .i64 k ∧ Ty.Buf base wr x (bs ++ (L.take k).flatMap Ig.encI) ∧ Ty.Grew w wr v x) (fun _ i _ => L.length - (intOf i).toNat)
 case atStart => exact ⟨0, by omega, rfl, by simpa using hown, Ty.Grew.refl _ _⟩
 case round =>
  obtain ⟨k, hk, rfl, hB, hg⟩ := hrel
  have hb1 := Ig.take_full hg hb H0.out
  have hT := hw.below hb1 hG
  have hs := hb1.size
  have HB := Lib.hid hB
  have HG := Lib.hid hg
  clear hB hg
  by_cases hl2 : k < L.length
  ·rcases h with h | ⟨b, o, rfl, hlt, h⟩
   ·exact absurd hl2 (by rw [h]; simp)
   ·have hcell : wr.cell? ⟨b, o + k, none⟩ = some (.int .i64 (nth L k)) := (hb1.cell (p := ⟨b, o + k, none⟩) hlt).trans (h k hl2)
    have hx := Ig.nth_i64 HI.out hl2
    have HN := Lib.hid (Ig.flat_next hl2)
    have hln := Ig.len_flat_take L k
    have c1 := Ty.int_c base _ _ (nth L k) hx wr hT HB.out (by omega) (by rw [List.length_append]; omega)
    have hkl : (k : Int) < (L.length : Int) := by omega
    have hk0 : (0 : Int) ≤ (k : Int) := by omega
    clear h hx hln hT hb1
    go_wp2_with fail
    refine c1.mono ?_
    rintro e w1 ⟨v1, rfl, hB1, hG1⟩
    have HB1 := Lib.hid hB1
    have HG1 := Lib.hid hG1
    clear hB1 hG1 c1
    go_wp2
    go_roundw
    case rel => exact ⟨k + 1, by omega, by simp, by rw [HN.out, ← List.append_assoc]; exact HB1.out, HG.out.trans HG1.out⟩
    case measure => simp [intOf]; omega
  ·obtain rfl : k = L.length := by omega
   have hkl : ¬ (L.length : Int) < (L.length : Int) := by omega
   go_wp2
   go_ret
   exact ⟨_, rfl, by have := HB.out; rwa [List.take_length] at this, HG.out⟩
end
section
open Go.RowKit
open Ig (nth encI encR grp diffs prv low)
set_option maxHeartbeats 1000000 in
theorem Ig.writeDelta_c (base : Nat) (v : Value) (bs : List UInt8) (u : Value) (L : List Int) (w : World) (hw : Ty.Tabs w) (hown : Ty.Buf base w v bs) (hb : base ≤ w.heap.size) (hG : Ty.G ≤ base)
 (hL : Ig.At base w u L) (hi : ∀ x ∈ L, Ty.I64 x) (hlen : bs.length ≤ 100) (hl : L.length ≤ 65536) :
 Calls Tryz.prog 180 #[v, u] w (Ty.Written base w v (bs ++ (diffs 0 L).flatMap Ig.encI)) := by
 have hD := Ig.diffs_len L 0
 obtain ⟨D, eD⟩ : ∃ D, D = diffs 0 L := ⟨_, rfl⟩
 rw [← eD] at hD ⊢
 obtain ⟨a, c, rfl, hc, _, h⟩ := hL
 have HI := Lib.hid hi
 have HD := Lib.hid hD
 have ED := Lib.hid eD
 have H0 := Lib.hid hown.base
 clear hi hD eD
 go_enter Tryz.func180, Tryz.ntmps180
 go_wp2
 go_loopw [0, 5, 10] (fun x p i wr => ∃ k : Nat, k ≤ L.length ∧ i = .int .i64 k ∧ p = .int .i64 (prv L k) ∧ Ty.Buf base wr x (bs ++ (D.take k).flatMap Ig.encI) ∧ Ty.Grew w wr v x) (fun _ _ i _ => L.length - (intOf i).toNat)
 case atStart => exact ⟨0, by omega, rfl, rfl, by simpa using hown, Ty.Grew.refl _ _⟩
 case round =>
  obtain ⟨k, hk, rfl, rfl, hB, hg⟩ := hrel
  have hb1 := Ig.take_full hg hb H0.out
  have hT := hw.below hb1 hG
  have hs := hb1.size
  have HB := Lib.hid hB
  have HG := Lib.hid hg
  clear hB hg
  by_cases hl2 : k < L.length
  ·rcases h with h | ⟨b, o, rfl, hlt, h⟩
   ·exact absurd hl2 (by rw [h]; simp)
   ·have hcell : wr.cell? ⟨b, o + k, none⟩ = some (.int .i64 (nth L k)) := (hb1.cell (p := ⟨b, o + k, none⟩) hlt).trans (h k hl2)
    have hx : Ty.I64 (wrap64 (nth L k - prv L k)) := Ig.wrap_i64 _
    have HN : Hid ((D.take (k + 1)).flatMap Ig.encI = (D.take k).flatMap Ig.encI ++ Ig.encI (wrap64 (nth L k - prv L k))) := Lib.hid (by
     have h1 := Ig.flat_next (L := D) (k := k) (by rw [HD.out]; exact hl2)
     rw [h1, ED.out, Ig.diffs_at hl2])
    have hln := Ig.len_flat_take D k
    have c1 := Ty.int_c base _ _ (wrap64 (nth L k - prv L k)) hx wr hT HB.out (by omega) (by rw [List.length_append]; omega)
    have hkl : (k : Int) < (L.length : Int) := by omega
    have hk0 : (0 : Int) ≤ (k : Int) := by omega
    have HP : Hid (prv L (k + 1) = nth L k) := Lib.hid rfl
    generalize nth L k = x at hcell HN c1 HP
    generalize prv L k = p at HN c1 ⊢
    clear h hx hln hT hb1
    go_wp2_with fail
    refine c1.mono ?_
    rintro e w1 ⟨v1, rfl, hB1, hG1⟩
    have HB1 := Lib.hid hB1
    have HG1 := Lib.hid hG1
    clear hB1 hG1 c1
    go_wp2
    go_roundw
    case rel => exact ⟨k + 1, by omega, by simp, by rw [HP.out], by rw [HN.out, ← List.append_assoc]; exact HB1.out, HG.out.trans HG1.out⟩
    case measure => simp [intOf]; omega
  ·obtain rfl : k = L.length := by omega
   have hkl : ¬ (L.length : Int) < (L.length : Int) := by omega
   go_wp2
   go_ret
   exact ⟨_, rfl, by have := HB.out; rwa [← HD.out, List.take_length] at this, HG.out⟩
set_option maxHeartbeats 1000000 in
theorem Ig.runLength_c (u : Value) (L : List Int) (w : World) (hL : Ig.At w.heap.size w u L) (hne : 0 < L.length) (hl : L.length ≤ 65536) :
 Calls Tryz.prog 201 #[u] w fun e w' => ∃ k, e = .returned (.int .i64 (k : Nat)) ∧ Ig.Run L k ∧ Below w.heap.size w w' := by
 obtain ⟨a, c, rfl, hc, _, h⟩ := hL
 go_enter Tryz.func201, Tryz.ntmps201
 go_wp2
 rcases h with h | ⟨b, o, rfl, hlt, h⟩
 ·exact absurd hne (by rw [h]; simp)
 go_loopw [3] (fun i wr => ∃ k : Nat, k ≤ L.length ∧ i = .int .i64 k ∧ (∀ j, j < k → nth L j = nth L 0) ∧ Below w.heap.size w wr) (fun i _ => L.length - (intOf i).toNat)
 case atStart => exact ⟨0, by omega, rfl, fun j hj => by omega, Below.refl _ _⟩
 case round =>
  obtain ⟨k, hk, rfl, hj, hB⟩ := hrel
  have HJ := Lib.hid hj
  have HB := Lib.hid hB
  have hk0 : (0 : Int) ≤ (k : Int) := by omega
  have hn0 : (0 : Int) < (L.length : Int) := by omega
  have hn : (L.length : Int) ≤ 65536 := by omega
  have h0 : wr.cell? ⟨b, o, none⟩ = some (.int .i64 (nth L 0)) := (hB.cell (p := ⟨b, o, none⟩) hlt).trans (by have := h 0 hne; simpa using this)
  clear hj
  by_cases hl2 : k < L.length
  ·have hcell : wr.cell? ⟨b, o + k, none⟩ = some (.int .i64 (nth L k)) := (hB.cell (p := ⟨b, o + k, none⟩) hlt).trans (h k hl2)
   have hkl : (k : Int) < (L.length : Int) := by omega
   have HH := Lib.hid h
   clear h hB
   by_cases he : nth L k = nth L 0
   ·have hq : (nth L k == nth L 0) = true := by rw [he]; exact beq_self_eq_true _
    have HE := Lib.hid he
    obtain ⟨x, ex⟩ : ∃ x, x = nth L k := ⟨_, rfl⟩
    obtain ⟨y, ey⟩ : ∃ y, y = nth L 0 := ⟨_, rfl⟩
    rw [← ex] at hcell hq
    rw [← ey] at h0 hq
    clear he ex ey
    go_wp2_with fail
    go_quiet (fail)
    go_wp2
    go_roundw
    case rel => exact ⟨k + 1, by omega, by simp, fun j hj => by
     rcases Nat.lt_or_ge j k with h | h
     ·exact HJ.out j h
     ·rw [show j = k by omega]; exact HE.out, HB.out.trans ((Bt.drewN_below _ _).mono HB.out.size)⟩
    case measure => simp [intOf]; omega
   ·have hq : (nth L k == nth L 0) = false := by rw [beq_eq_false_iff_ne]; exact he
    have HE := Lib.hid he
    obtain ⟨x, ex⟩ : ∃ x, x = nth L k := ⟨_, rfl⟩
    obtain ⟨y, ey⟩ : ∃ y, y = nth L 0 := ⟨_, rfl⟩
    rw [← ex] at hcell hq
    rw [← ey] at h0 hq
    have hk1 : 0 < k := by
     rcases Nat.eq_zero_or_pos k with e | e
     ·exact absurd (by rw [e]) he
     ·exact e
    clear he ex ey
    go_wp2_with fail
    go_quiet (fail)
    go_wp2
    go_ret
    exact ⟨k, rfl, ⟨hk1, hk, HJ.out, fun _ => HE.out⟩, HB.out.trans ((Bt.drewN_below _ _).mono HB.out.size)⟩
  ·obtain rfl : k = L.length := by omega
   have hd : decide ((L.length : Int) < (L.length : Int)) = false := by simp
   clear h hB
   go_wp2_with fail
   go_quiet (fail)
   go_wp2
   go_ret
   exact ⟨L.length, rfl, ⟨hne, Nat.le_refl _, HJ.out, fun h => absurd h (Nat.lt_irrefl _)⟩, HB.out.trans ((Bt.drewN_below _ _).mono HB.out.size)⟩
set_option maxHeartbeats 1000000 in
theorem Ig.min_c (u : Value) (L : List Int) (w : World) (hL : Ig.At w.heap.size w u L) (hne : 0 < L.length) (hl : L.length ≤ 65536) :
 Calls Tryz.prog 202 #[u] w fun e w' => e = .returned (.int .i64 (low L)) ∧ w' = w := by
 obtain ⟨a, c, rfl, hc, _, h⟩ := hL
 rcases h with h | ⟨b, o, rfl, hlt, h⟩
 ·exact absurd hne (by rw [h]; simp)
 have h0 : w.cell? ⟨b, o, none⟩ = some (.int .i64 (nth L 0)) := by have := h 0 hne; simpa using this
 have hn0 : ¬ (L.length : Int) < 1 := by omega
 have hn1 : (0 : Int) < (L.length : Int) := by omega
 have HL1 : Hid (low (L.take 1) = nth L 0) := Lib.hid (Ig.low_one hne)
 go_enter Tryz.func202, Tryz.ntmps202
 go_wp2
 go_loop [3, 4] (fun m i => ∃ k : Nat, 1 ≤ k ∧ k ≤ L.length ∧ i = .int .i64 k ∧ m = .int .i64 (low (L.take k))) (fun _ i => L.length - (intOf i).toNat)
 case atStart => exact ⟨1, by omega, by omega, rfl, by rw [HL1.out]⟩
 case round =>
  obtain ⟨k, hk1, hk, rfl, rfl⟩ := hrel
  clear h0
  by_cases hl2 : k < L.length
  ·have hcell := h k hl2
   have hkl : (k : Int) < (L.length : Int) := by omega
   have hk0 : (0 : Int) ≤ (k : Int) := by omega
   have HN := Lib.hid (Ig.low_next (by omega) hl2)
   obtain ⟨x, ex⟩ : ∃ x, x = nth L k := ⟨_, rfl⟩
   obtain ⟨y, ey⟩ : ∃ y, y = low (L.take k) := ⟨_, rfl⟩
   rw [← ex] at hcell HN
   rw [← ey] at HN ⊢
   clear h ex ey
   by_cases hxy : y ≤ x
   all_goals
    go_wp2
    all_goals
     go_round
     case rel => exact ⟨k + 1, by omega, by omega, by simp, by rw [HN.out]; congr 1; omega⟩
     case measure => simp [intOf]; omega
  ·obtain rfl : k = L.length := by omega
   have hkl : ¬ (L.length : Int) < (L.length : Int) := by omega
   go_wp2
   go_ret
   exact ⟨rfl, rfl⟩
end
section
open Go.RowKit
open Ig (nth encI encR grp diffs prv low)
open Ty (encU)
theorem Ig.grew_below {w w1 w2 : World} {v x : Value} (h : Ty.Grew w w1 v x) (g : Below w1.heap.size w1 w2) : Ty.Grew w w2 v x :=
 h.trans ⟨⟨g.os, g.tape, g.output, g.size, fun k hk _ => g.block k hk⟩, .inl rfl⟩
theorem Ig.grew_drew {w w1 : World} {v x : Value} (h : Ty.Grew w w1 v x) : Ty.Grew w w1.drew v x := Ig.grew_below h (Bt.drewN_below _ 1)
theorem Ig.buf_drew {base : Nat} {w : World} {v : Value} {bs : List UInt8} (h : Ty.Buf base w v bs) : Ty.Buf base w.drew v bs := h
theorem Ig.At.drop {B : Nat} {w : World} {b o c k : Nat} {M : List Int} (h : Ig.At B w (.slice (some ⟨b, o, none⟩) M.length c) M) (hk : k ≤ M.length) : Ig.At B w (.slice (if c = k then some ⟨b, o, none⟩ else some ⟨b, o + k, none⟩) (M.length - k) (c - k)) (M.drop k) := by
 obtain ⟨a, c', e, hc, hB, h⟩ := h
 simp only [Value.slice.injEq] at e
 obtain ⟨ea, _, rfl⟩ := e
 refine ⟨_, c - k, by rw [List.length_drop], by rw [List.length_drop]; omega, hB, ?_⟩
 rcases h with h | ⟨b', o', rfl, hlt, h⟩
 ·left; rw [h]; simp
 ·simp only [Option.some.injEq, Addr.mk.injEq, and_true] at ea
  obtain ⟨rfl, rfl⟩ := ea
  by_cases he : M.length ≤ k
  ·left; exact List.drop_eq_nil_of_le he
  ·right
   refine ⟨b, o + k, by rw [if_neg (by omega)], hlt, fun i hi => ?_⟩
   rw [List.length_drop] at hi
   rw [Ig.nth_drop, Nat.add_assoc]
   exact h (k + i) (by omega)
set_option maxHeartbeats 2000000 in
theorem Ig.writeRuns_c (base : Nat) (v : Value) (bs : List UInt8) (u : Value) (L : List Int) (w : World) (hw : Ty.Tabs w) (hown : Ty.Buf base w v bs) (hb : base ≤ w.heap.size) (hG : Ty.G ≤ base)
 (hL : Ig.At base w u L) (hi : ∀ x ∈ L, Ty.I64 x) (hlen : bs.length ≤ 100) (hl : L.length ≤ 65536) :
 Calls Tryz.prog 182 #[v, u] w (Ty.Written base w v (bs ++ (grp L).flatMap encR)) := by
 have hL0 := hL
 obtain ⟨a, c, rfl, hc, _, h⟩ := hL
 have H0 := Lib.hid hown.base
 clear h
 go_enter Tryz.func182, Tryz.ntmps182
 go_wp2
 go_loopw [0, 1] (fun x1 lv wr => ∃ M done, Ig.At base wr lv M ∧ (grp L).flatMap encR = done ++ (grp M).flatMap encR ∧ done.length + 18 * M.length ≤ 18 * L.length ∧ (∀ x ∈ M, Ty.I64 x) ∧ Ty.Buf base wr x1 (bs ++ done) ∧ Ty.Grew w wr v x1) (fun _ lv _ => match lv with | .slice _ n _ => n | _ => 0)
 case atStart => exact ⟨L, [], hL0, rfl, by simp, hi, by simpa using hown, Ty.Grew.refl _ _⟩
 case round =>
  obtain ⟨M, done, hM, hg, hd, hMi, hB, hGr⟩ := hrel
  have hb1 := Ig.take_full hGr hb H0.out
  have hT := hw.below hb1 hG
  have hs := hb1.size
  have HM := Lib.hid hM
  have HE := Lib.hid hg
  have HI := Lib.hid hMi
  have HB := Lib.hid hB
  have HG := Lib.hid hGr
  obtain ⟨a2, e, rfl, he, _, h⟩ := hM
  clear hg hB hGr hMi hi hL0 hown
  have hml : M.length ≤ 65536 := by omega
  by_cases h0 : 0 < M.length
  ·rcases h with h | ⟨b2, o2, rfl, hlt2, h⟩
   ·exact absurd h0 (by rw [h]; simp)
   ·have hcell := h 0 h0
    rw [Nat.add_zero] at hcell
    have hkl : (0 : Int) < (M.length : Int) := by omega
    have cR := Ig.runLength_c _ M wr (HM.out.mono (by omega) (Nat.le_refl _)) h0 hml
    have hx := Ig.nth_i64 HI.out h0
    clear h hc
    go_wp2_with fail
    refine cR.mono ?_
    rintro e0 w1 ⟨k, rfl, hR, g1⟩
    have HR := Lib.hid hR
    have hk1 : k ≤ M.length := hR.2.1
    have hk0 : 0 < k := hR.1
    have hu : Ty.U64 ((k : Int)).toNat := by unfold Ty.U64; omega
    have hcell1 : w1.cell? ⟨b2, o2, none⟩ = some (.int .i64 (nth M 0)) := (g1.cell (p := ⟨b2, o2, none⟩) (show b2 < wr.heap.size by omega)).trans hcell
    have hs1 := g1.size
    have hT1 : Ty.Tabs w1 := hT.below g1 (by omega)
    have cU := Ty.uint_c base _ _ (k : Int) (by omega) hu w1.drew hT1.drew (Ig.buf_drew (HB.out.later g1)) (by simp; omega) (by rw [List.length_append]; omega)
    have HG1 := Lib.hid (Ig.grew_below HG.out g1)
    have hbase : ∀ j, (Value.ownBlock u0) = some j → base ≤ j := HB.out.base
    have HX : Hid (∀ wz vz, Ty.Grew w1.drew wz u0 vz → Below base w1 wz) := Lib.hid fun wz vz g => ((Bt.drewN_below w1 1).mono (by omega)).trans (g.below (by simp; omega) hbase)
    have HS : Hid (∀ wz, Below base w1 wz → wz.cell? ⟨b2, o2, none⟩ = some (.int .i64 (nth M 0))) := Lib.hid fun wz g => (g.cell (p := ⟨b2, o2, none⟩) hlt2).trans hcell1
    have HD : Hid (Below base w1 w1.drew) := Lib.hid ((Bt.drewN_below w1 1).mono (by omega))
    have CI : Hid (∀ wz vz, Ty.Buf base wz vz (bs ++ done ++ Ty.encU ((k : Int)).toNat) → Ty.Grew w1.drew wz u0 vz → Calls Tryz.prog 92 #[vz, .int .i64 (nth M 0)] wz (Ty.Written base wz vz (bs ++ done ++ Ty.encU ((k : Int)).toNat ++ Ty.encU (Ty.zig (nth M 0)).toNat))) := Lib.hid fun wz vz hB hG => by
     have hz := HX.out wz vz hG
     have h9 := Ty.encU_len9 ((k : Int)).toNat
     exact Ty.int_c base vz _ (nth M 0) hx wz (hT1.below hz (by omega)) hB (by have := hz.size; omega) (by simp only [List.length_append]; omega)
    have hwk : IntKind.u64.wrap (k : Int) = (k : Int) := by rw [IntKind.wrap_u64]; omega
    have CU : Hid (Calls Tryz.prog 89 #[u0, .int .u64 (IntKind.u64.wrap (k : Int))] w1.drew (Ty.Written base w1.drew u0 (bs ++ done ++ Ty.encU ((k : Int)).toNat))) := Lib.hid (by rw [hwk]; exact cU)
    clear hwk
    have hdr := Ig.At.drop (k := k) (HM.out.below (g1.mono (by omega))) hk1
    have HDR := Lib.hid hdr
    have HRN : Hid ((grp M).flatMap encR = (encU k ++ Ig.encI (nth M 0)) ++ (grp (M.drop k)).flatMap encR) := Lib.hid (Ig.runs_next hR)
    have HDI : Hid (∀ x ∈ M.drop k, Ty.I64 x) := Lib.hid fun x hx => HI.out x (List.mem_of_mem_drop hx)
    generalize nth M 0 = xx at *
    clear cU hR hdr cR hx hu
    go_wp2_with fail
    go_region_held3 (fun wx => wx.cell? ⟨b2, o2, none⟩ = some (.int .i64 xx))
     (first
      | exact HS.out _ HD.out
      | exact HS.out _ (HX.out _ _ (hGz.trans hGy))
      | exact HS.out _ (HX.out _ _ hGz))
     (first
      | (go_at_call 89; (with_reducible refine CU.out.mono ?_); rintro e wz ⟨vz, rfl, hBz, hGz⟩)
      | (go_at_call 92; (with_reducible refine (CI.out _ _ hBz hGz).mono ?_); rintro e wy ⟨vy, rfl, hBy, hGy⟩))
    have hyz : Below base w1 wy := HX.out _ _ (hGz.trans hGy)
    go_wp2
    refine ⟨⟨M.drop k, done ++ (encU k ++ Ig.encI xx), HDR.out.below hyz, ?_, ?_, HDI.out, ?_, ?_⟩, ?_⟩
    ·rw [HE.out, HRN.out]; simp
    ·have h9 := Ty.encU_len9 k
     have h10 := Ig.len_encI xx
     rw [List.length_drop, List.length_append, List.length_append]
     omega
    ·have := hBy
     simpa [Ig.encI] using this
    ·exact (Ig.grew_drew HG1.out).trans (hGz.trans hGy)
    ·show M.length - k < M.length
     omega
  ·have hM0 : M = [] := List.eq_nil_of_length_eq_zero (by omega)
   subst hM0
   clear h
   go_wp2
   go_ret
   exact ⟨_, rfl, by have := HE.out; simp only [grp, Ig.grp, List.flatMap_nil, List.append_nil] at this; rw [this]; exact HB.out, HG.out⟩
end
section
open Go.RowKit
def Pk.enc (n : Nat) (X : Nat → Nat) : List UInt8 := UInt8.ofNat (Bt.wid n X) :: (Bt.bytes (Bt.need (n * Bt.wid n X)) (Bt.pk n X (Bt.wid n X))).data.toList
def Pk.q (l : List UInt8) : Nat := (l.headD 0).toNat
def Pk.str (n : Nat) (l : List UInt8) : ByteArray := Ty.S (l.tail.take (Bt.need (n * Pk.q l)))
def Pk.rest (n : Nat) (l : List UInt8) : List UInt8 := l.tail.drop (Bt.need (n * Pk.q l))
def Pk.X (n : Nat) (l : List UInt8) : Nat → Nat := Bt.nums (Pk.str n l) (Pk.q l)
def Pk.err (n : Nat) (l : List UInt8) : Nat :=
 if l = [] then 2 else if 64 < Pk.q l then 4 else if l.tail.length < Bt.need (n * Pk.q l) then 2
 else if Bt.chk (Pk.str n l) (n * Pk.q l) ≠ 0 then Bt.chk (Pk.str n l) (n * Pk.q l)
 else if Bt.wid n (Pk.X n l) < Pk.q l then 4 else 0
theorem Pk.X_lt (n : Nat) (l : List UInt8) (h : Pk.q l ≤ 64) : ∀ i, Pk.X n l i < 2 ^ 64 := fun _ => Nat.lt_of_lt_of_le (Bt.num_lt _ _) (Nat.pow_le_pow_right (by decide) h)
theorem Pk.wid_le (n : Nat) (l : List UInt8) : Bt.wid n (Pk.X n l) ≤ Pk.q l := (Bt.wid_le n _ _).2 fun _ _ => Bt.num_lt _ _
section
variable {n : Nat} {r : List UInt8} {x : UInt8}
theorem Pk.err1 : Pk.err n [] = 2 := by unfold Pk.err; rw [if_pos rfl]
theorem Pk.err2 (h : 64 < x.toNat) : Pk.err n (x :: r) = 4 := by
 unfold Pk.err
 rw [if_neg (by simp), if_pos (by exact h)]
theorem Pk.err3 (h : ¬ 64 < x.toNat) (h2 : r.length < Bt.need (n * x.toNat)) : Pk.err n (x :: r) = 2 := by
 unfold Pk.err
 rw [if_neg (by simp), if_neg (by exact h), if_pos (by exact h2)]
theorem Pk.err4 (h : ¬ 64 < x.toNat) (h2 : ¬ r.length < Bt.need (n * x.toNat)) (h3 : Bt.chk (Ty.S (r.take (Bt.need (n * x.toNat)))) (n * x.toNat) ≠ 0) : Pk.err n (x :: r) = Bt.chk (Ty.S (r.take (Bt.need (n * x.toNat)))) (n * x.toNat) := by
 unfold Pk.err
 rw [if_neg (by simp), if_neg (by exact h), if_neg (by exact h2), if_pos (by exact h3)]
 rfl
theorem Pk.err5 (h : ¬ 64 < x.toNat) (h2 : ¬ r.length < Bt.need (n * x.toNat)) (h3 : Bt.chk (Ty.S (r.take (Bt.need (n * x.toNat)))) (n * x.toNat) = 0) (h4 : Bt.wid n (Bt.nums (Ty.S (r.take (Bt.need (n * x.toNat)))) x.toNat) < x.toNat) : Pk.err n (x :: r) = 4 := by
 unfold Pk.err
 rw [if_neg (by simp), if_neg (by exact h), if_neg (by exact h2), if_neg (fun e => e h3), if_pos (by exact h4)]
theorem Pk.err6 (h : ¬ 64 < x.toNat) (h2 : ¬ r.length < Bt.need (n * x.toNat)) (h3 : Bt.chk (Ty.S (r.take (Bt.need (n * x.toNat)))) (n * x.toNat) = 0) (h4 : ¬ Bt.wid n (Bt.nums (Ty.S (r.take (Bt.need (n * x.toNat)))) x.toNat) < x.toNat) : Pk.err n (x :: r) = 0 := by
 unfold Pk.err
 rw [if_neg (by simp), if_neg (by exact h), if_neg (by exact h2), if_neg (fun e => e h3), if_neg (by exact h4)]
end
theorem Pk.good {n : Nat} {l : List UInt8} (h : Pk.err n l = 0) : ∃ x r, l = x :: r ∧ x.toNat ≤ 64 ∧ Bt.need (n * x.toNat) ≤ r.length ∧ Bt.chk (Ty.S (r.take (Bt.need (n * x.toNat)))) (n * x.toNat) = 0 ∧ Bt.wid n (Pk.X n l) = x.toNat ∧ Pk.q l = x.toNat ∧ Pk.X n l = Bt.nums (Ty.S (r.take (Bt.need (n * x.toNat)))) x.toNat ∧ Pk.rest n l = r.drop (Bt.need (n * x.toNat)) := by
 cases l with
 | nil => rw [Pk.err1] at h; cases h
 | cons x r =>
   by_cases h1 : 64 < x.toNat
   ·rw [Pk.err2 h1] at h; cases h
   ·by_cases h2 : r.length < Bt.need (n * x.toNat)
    ·rw [Pk.err3 h1 h2] at h; cases h
    ·by_cases h3 : Bt.chk (Ty.S (r.take (Bt.need (n * x.toNat)))) (n * x.toNat) = 0
     ·have hle := Pk.wid_le n (x :: r)
      have hq : Pk.q (x :: r) = x.toNat := rfl
      have hX : Pk.X n (x :: r) = Bt.nums (Ty.S (r.take (Bt.need (n * x.toNat)))) x.toNat := rfl
      by_cases h4 : Bt.wid n (Bt.nums (Ty.S (r.take (Bt.need (n * x.toNat)))) x.toNat) < x.toNat
      ·rw [Pk.err5 h1 h2 h3 h4] at h; cases h
      ·rw [hX, hq] at hle
       exact ⟨x, r, rfl, by omega, by omega, h3, by rw [hX]; omega, rfl, rfl, rfl⟩
     ·rw [Pk.err4 h1 h2 h3] at h; exact absurd h h3
end
section
open Go.RowKit
theorem Pk.len_bytes (n : Nat) (F : Nat → Bool) : (Bt.bytes n F).data.toList.length = n := by
 rw [Bt.length_data, Bt.size_bytes]
theorem Pk.by_some {w w' : World} (h : w.grownBy w' none) (r : Nat) : w.grownBy w' (some r) := ⟨h.os, h.tape, h.output, h.size, fun k hk _ => h.block k hk (by simp)⟩
theorem Pk.grew_below {w w1 w2 : World} {v x : Value} (h : Ty.Grew w w1 v x) (g : Below w1.heap.size w1 w2) : Ty.Grew w w2 v x :=
 h.trans ⟨⟨g.os, g.tape, g.output, g.size, fun k hk _ => g.block k hk⟩, .inl rfl⟩
set_option maxHeartbeats 1000000 in
set_option maxRecDepth 100000 in
theorem Pk.append_c (base : Nat) (v : Value) (bs : List UInt8) (u : Value) (n : Nat) (X : Nat → Nat) (w : World) (hown : Ty.Buf base w v bs) (hb : base ≤ w.heap.size)
 (hl : Bt.Sl w u n (Bt.nv X)) (hX : ∀ i, X i < 2 ^ 64) (hn : n ≤ 65536) (hlen : bs.length ≤ 100000000) :
 Calls Tryz.prog 199 #[v, u] w (Ty.Written base w v (bs ++ Pk.enc n X)) := by
 have hq : Bt.wid n X ≤ 64 := Bt.wid_64 hX
 have cW := Bt.width_c u n X w hl hX (by omega)
 have cP := Bt.pack_ok u n X (Bt.wid n X) w hl hX (by omega) hq (Nat.le_refl _)
 have hE : Pk.enc n X = UInt8.ofNat (Bt.wid n X) :: (Bt.bytes (Bt.need (n * Bt.wid n X)) (Bt.pk n X (Bt.wid n X))).data.toList := rfl
 have hnd : Bt.need (n * Bt.wid n X) ≤ 524288 := by
  have := Bt.mul_le n (Bt.wid n X) hq
  unfold Bt.need; omega
 have hSl : (Bt.bytes (Bt.need (n * Bt.wid n X)) (Bt.pk n X (Bt.wid n X))).data.toList.length ≤ 524288 := by rw [Pk.len_bytes]; exact hnd
 generalize Bt.bytes (Bt.need (n * Bt.wid n X)) (Bt.pk n X (Bt.wid n X)) = S at hE cP hSl
 clear hnd
 generalize Bt.wid n X = q at hE cP cW hq
 rw [hE]
 have HSL : Hid (S.size ≤ 524288) := Lib.hid (by rw [← Bt.length_data]; exact hSl)
 have H0 := Lib.hid hown
 clear hE hSl hown hl hX
 go_enter Tryz.func199, Tryz.ntmps199
 go_wp2_with fail
 refine cW.mono ?_
 rintro e w1 ⟨rfl, rfl⟩
 clear cW
 go_wp2_with fail
 refine cP.mono ?_
 rintro e w2 ⟨rfl, g2⟩
 have hown2 := Ty.Buf.later H0.out g2
 have hs2 := g2.size
 have HG2 := Lib.hid g2
 clear cP g2
 go_wp2_with (first
  | (at_builtin; refine Ty.wpList_append_byte hown2 (by omega) (by omega) (.tmp 16) (.tmp 19) _ rfl rfl rfl rfl ?_; intro v5 w5 h5 g5)
  | (at_builtin; refine Ty.wpList_append_text (h5 (UInt8.ofNat q) (by rw [Ty.toNat_ofNat8 q (by omega)])) (by have := g5.by_.size; omega) (by have := HSL.out; simp only [List.length_append, List.length_singleton]; omega) (.tmp 20) (.tmp 21) rfl rfl rfl rfl ?_; intro v6 w6 h6 g6))
 have H6 := Lib.hid h6
 have HG6 := Lib.hid g6
 have HG5 := Lib.hid g5
 clear h6 g6 h5 g5
 go_ret
 exact ⟨_, rfl, by have := H6.out; simpa using this, (Pk.grew_below (Ty.Grew.refl _ _) HG2.out).trans (HG5.out.trans HG6.out)⟩
def Pk.bv (l : List UInt8) (i : Nat) : Value := .int .u8 (((l.getD i 0).toNat : Nat) : Int)
set_option maxRecDepth 100000 in
theorem Pk.row_string {w : World} {g m c : Nat} {l : List UInt8} (h : w.rowIs g 5 m (Pk.bv l)) (hm : m ≤ l.length) : (convert 118 9 (.slice (some ⟨g, 0, none⟩) m c)).run Tryz.prog w = .ok (.string (Ty.S (l.take m))) w := by
 have hlen : (l.take m).length = m := by rw [List.length_take]; omega
 have := run_convert_bytes_arg (P := Tryz.prog) w 118 _ Tryz.underlying118 Tryz.underlying5 g 0 m c ((l.take m).map fun u => (u.toNat : Int)) (by simp; omega) (fun i hi => by
  have hc := h.cell hi
  have ea : (⟨g, 0 + i, none⟩ : Addr) = ⟨g, i, none⟩ := by rw [Nat.zero_add]
  rw [ea, hc]
  unfold Pk.bv
  have h2 : i < l.length := by omega
  simp [List.getD, hi, h2]) 9 Tryz.underlying9
 rw [this]
 have e : strOfNums ((l.take m).map fun u => (u.toNat : Int)) = Ty.S (l.take m) := by
  unfold strOfNums Ty.S
  congr 1
  rw [List.map_map]
  congr 1
  conv => rhs; rw [← List.map_id (l.take m)]
  apply List.map_congr_left
  intro u _
  simp
 rw [e]
theorem Pk.drop_step {l : List UInt8} {k : Nat} (h : k < l.length) : l.drop k = l.getD k 0 :: l.drop (k + 1) := by
 rw [List.drop_eq_getElem_cons h, List.getD, List.getElem?_eq_getElem h]
 rfl
theorem Pk.cbyte_m (b : Nat) (x : UInt8) (r : List UInt8) (w : World) (h : Ty.Cur b w (x :: r) 0) (hl : (x :: r).length ≤ 9223372036854775807) :
 Calls Tryz.prog 151 #[.pointer (some ⟨b, 0, none⟩)] w (Ty.Left b w (.int .i64 ((x.toNat : Nat) : Int)) r 0) := Ty.cbyte_c b (x :: r) 0 w h hl
theorem Pk.row_by {w w' : World} {g b n : Nat} {t : TypeId} {f : Nat → Value} (h : w.rowIs g t n f) (hg : w.grownBy w' (some b)) (hne : g ≠ b) : w'.rowIs g t n f :=
 h.of_block (hg.block g h.lt (fun e => hne (Option.some.inj e)))
set_option maxHeartbeats 1000000 in
set_option maxRecDepth 100000 in
theorem Pk.take_c (b m : Nat) (l : List UInt8) (w : World) (h : Ty.Cur b w l 0) (hl : l.length ≤ 140737488355328) (hm : m ≤ l.length) :
 Calls Tryz.prog 216 #[.pointer (some ⟨b, 0, none⟩), .int .i64 m] w (Ty.Left b w (.string (Ty.S (l.take m))) (l.drop m) 0) := by
 have hbw := h.lt
 have hmk := run_make_row' (P := Tryz.prog) 118 5 (.int .u8 0) 1 Tryz.underlying118 Bt.info8 rfl .i64 .i64 m (by omega) (by omega)
 have HM : Hid (m ≤ l.length ∧ l.length ≤ 140737488355328) := Lib.hid ⟨hm, hl⟩
 have hmb : m ≤ 140737488355328 := by omega
 have H0 := Lib.hid h
 clear hm hl h
 go_enter Tryz.func216, Tryz.ntmps216
 go_wp2_with fail
 have hR : (w.alloc (.cells (madeCells #[.int .u8 0] m) 5)).rowIs w.heap.size 5 m (Bt.upTo 0 (Pk.bv l) (.int .u8 0)) := (World.rowIs_made w (.int .u8 0) m 5).congr fun i _ => by unfold Bt.upTo; rw [if_neg (by omega)]
 have hB : w.grownBy (w.alloc (.cells (madeCells #[.int .u8 0] m) 5)) none := World.grownBy_alloc _ _ _
 generalize w.alloc (.cells (madeCells #[.int .u8 0] m) 5) = w2 at hR hB ⊢
 have hc2 := H0.out.none_ hB
 have hb2 := Pk.by_some hB b
 have hne : b ≠ w.heap.size := by omega
 clear hmk hB
 generalize hg : w.heap.size = g at hR hne
 have HGE := Lib.hid hg
 clear hg
 go_loopw [11] (fun i wr => ∃ k : Nat, k ≤ m ∧ i = .int .i64 k ∧ wr.rowIs g 5 m (Bt.upTo k (Pk.bv l) (.int .u8 0)) ∧ Ty.Cur b wr (l.drop k) 0 ∧ w.grownBy wr (some b)) (fun i _ => m - (intOf i).toNat)
 case atStart => exact ⟨0, by omega, rfl, hR, hc2, hb2⟩
 case round =>
  obtain ⟨k, hk, rfl, hRk, hck, hgk⟩ := hrel
  have HR := Lib.hid hRk
  have HC := Lib.hid hck
  have HG := Lib.hid hgk
  clear hR hc2 hb2 hRk hck hgk
  by_cases hl2 : k < m
  ·have hkl : (k : Int) < (m : Int) := by omega
   have hk0 : (0 : Int) ≤ (k : Int) := by omega
   have hc0 := HC.out
   rw [Pk.drop_step (by have := HM.out.1; omega)] at hc0
   have cb := Pk.cbyte_m b _ _ wr hc0 (by have := HM.out.2; rw [List.length_cons, List.length_drop]; omega)
   have HX : Hid (Pk.bv l k = .int .u8 (((l.getD k 0).toNat : Nat) : Int)) := Lib.hid rfl
   have hx8 := (l.getD k 0).toNat_lt
   generalize (l.getD k 0).toNat = x at cb HX hx8
   clear hc0
   go_wp2_with fail
   refine cb.mono ?_
   rintro e w3 ⟨rfl, hc3, hg3⟩
   have HR3 := Lib.hid (Pk.row_by HR.out hg3 (fun e => hne e.symm))
   have HC3 := Lib.hid hc3
   have HG3 := Lib.hid (Ty.by_trans HG.out hg3)
   have hf := HR3.out.frozen k
   have hcl := HR3.out.cell hl2
   clear cb hc3 hg3
   go_wp2
   go_roundw
   case rel =>
    refine ⟨k + 1, by omega, by simp, Bt.upTo_next HR3.out (by rw [HX.out]), ?_, ?_⟩
    ·have := HC3.out
     unfold Ty.Cur at this ⊢
     exact (Below.heap_setCell _ _ _ _ (by show b ≠ g; exact hne)).trans this
    ·have hge := HGE.out
     exact ⟨HG3.out.os, HG3.out.tape, HG3.out.output, by have := HG3.out.size; simpa [World.setCell] using this, fun j hj hn => (Below.heap_setCell _ _ _ _ (by show j ≠ g; omega)).trans (HG3.out.block j hj hn)⟩
   case measure => simp [intOf]; omega
  ·obtain rfl : k = m := by omega
   have hkl : ¬ (k : Int) < (k : Int) := by omega
   have hs := Pk.row_string (c := k) (l := l) (HR.out.congr fun i hi => by unfold Bt.upTo; rw [if_pos hi]) (by have := HM.out.1; omega)
   go_wp2
   go_ret
   exact ⟨rfl, HC.out, HG.out⟩
theorem Pk.sl_kept {w w' : World} {g n m c : Nat} {f : Nat → Value} (h : Bt.Sl w (.slice (some ⟨g, 0, none⟩) m c) n f) (hb : w'.heap[g]? = w.heap[g]?) (hs : w.heap.size ≤ w'.heap.size) : Bt.Sl w' (.slice (some ⟨g, 0, none⟩) m c) n f := by
 obtain ⟨a, c', e, h⟩ := h
 refine ⟨a, c', e, ?_⟩
 simp only [Value.slice.injEq] at e
 rcases h with h | ⟨b, o, ea, hlt, h⟩
 ·exact .inl h
 ·have ea2 := e.1.trans ea
  simp only [Option.some.injEq, Addr.mk.injEq, and_true] at ea2
  obtain ⟨rfl, rfl⟩ := ea2
  refine .inr ⟨_, _, ea, by omega, fun i hi => ?_⟩
  rw [← h i hi]
  unfold World.cell?
  simp only [hb]
def Pk.Rd (b n : Nat) (w : World) (l : List UInt8) (e : Ending) (w' : World) : Prop :=
 ∃ v, e = .returned (.tuple #[v, .int .i64 ((Pk.err n l : Nat) : Int)]) ∧ (Pk.err n l = 0 → Bt.Sl w' v n (Bt.nv (Pk.X n l)) ∧ Ty.Cur b w' (Pk.rest n l) 0) ∧ (Pk.err n l ≠ 0 → v = .slice none 0 0) ∧ w.grownBy w' (some b)
theorem Pk.Rd.bad {b n q : Nat} {w w' : World} {l : List UInt8} {z : Int} (hr : Pk.err n l = q) (hz : z = (q : Int)) (h : q ≠ 0) (g : w.grownBy w' (some b)) : Pk.Rd b n w l (.returned (.tuple #[.slice none 0 0, .int .i64 z])) w' :=
 ⟨_, by rw [hz, hr], fun e => absurd (hr.symm.trans e) h, fun _ => rfl, g⟩
theorem Pk.below_by {w w' w0 : World} (h : Below w.heap.size w w') {b : Nat} (g : w0.grownBy w (some b)) : w0.grownBy w' (some b) :=
 ⟨h.os.trans g.os, h.tape.trans g.tape, h.output.trans g.output, Nat.le_trans g.size h.size, fun k hk hn => (h.block k (Nat.lt_of_lt_of_le hk g.size)).trans (g.block k hk hn)⟩
theorem Pk.need_is {n q m : Nat} (h : n * q = m) : ((m : Int) + 7) / 8 = ((Bt.need (n * q) : Nat) : Int) := by
 rw [h]
 unfold Bt.need
 omega
set_option maxHeartbeats 1000000 in
set_option maxRecDepth 100000 in
theorem Pk.read_bad (b n q : Nat) (l : List UInt8) (w : World) (h : Ty.Cur b w l q) (hq : q ≠ 0) (hl : l.length ≤ 9223372036854775807) :
 Calls Tryz.prog 203 #[.pointer (some ⟨b, 0, none⟩), .int .i64 n] w fun e w' => e = .returned (.tuple #[.slice none 0 0, .int .i64 (q : Int)]) ∧ w.grownBy w' (some b) := by
 have cb := Ty.cbyte_c b l q w h hl
 have e1 : Ty.rdB l q = (0, l, q) := by unfold Ty.rdB; rw [if_pos hq]
 rw [e1] at cb
 have hne : ((q : Int) != 0) = true := by rw [bne_iff_ne]; omega
 clear e1 h hq
 go_enter Tryz.func203, Tryz.ntmps203
 go_wp2_with fail
 refine cb.mono ?_
 rintro e w4 ⟨rfl, hc4, hg4⟩
 have HC4 := Lib.hid hc4
 have HG4 := Lib.hid hg4
 clear cb hc4 hg4
 go_wp2_with fail
 refine (Ty.err_c b _ q _ HC4.out).mono ?_
 rintro e w5 ⟨rfl, rfl⟩
 go_wp2_with fail
 refine (Ty.err_c b _ q _ HC4.out).mono ?_
 rintro e w5 ⟨rfl, rfl⟩
 go_wp2
 go_ret2
 exact ⟨rfl, HG4.out⟩
set_option maxHeartbeats 2000000 in
set_option maxRecDepth 100000 in
theorem Pk.read_c (b n : Nat) (l : List UInt8) (w : World) (h : Ty.Cur b w l 0) (hl : l.length ≤ 140737488355328) (hn : n ≤ 65536) :
 Calls Tryz.prog 203 #[.pointer (some ⟨b, 0, none⟩), .int .i64 n] w (Pk.Rd b n w l) := by
 have hbw := h.lt
 cases l with
 | nil =>
   have cb := Ty.cbyte_c b [] 0 w h (by simp)
   have e1 : Ty.rdB [] 0 = (0, [], 2) := rfl
   rw [e1] at cb
   clear e1 h
   go_enter Tryz.func203, Tryz.ntmps203
   go_wp2_with fail
   refine cb.mono ?_
   rintro e w4 ⟨rfl, hc4, hg4⟩
   have HC4 := Lib.hid hc4
   have HG4 := Lib.hid hg4
   clear cb hc4 hg4
   go_wp2_with fail
   refine (Ty.err_c b _ 2 _ HC4.out).mono ?_
   rintro e w5 ⟨rfl, rfl⟩
   go_wp2_with fail
   refine (Ty.err_c b _ 2 _ HC4.out).mono ?_
   rintro e w5 ⟨rfl, rfl⟩
   go_wp2
   go_ret2
   exact Pk.Rd.bad Pk.err1 rfl (by decide) HG4.out
 | cons x r =>
   have cb := Pk.cbyte_m b x r w h (by omega)
   have hrl : r.length ≤ 140737488355328 := by rw [List.length_cons] at hl; omega
   have F2 := Lib.hid (fun h => Pk.err2 (n := n) (r := r) (x := x) h)
   have F3 := Lib.hid (fun h h2 => Pk.err3 (n := n) (r := r) (x := x) h h2)
   have F4 := Lib.hid (fun h h2 h3 => Pk.err4 (n := n) (r := r) (x := x) h h2 h3)
   have F5 := Lib.hid (fun h h2 h3 h4 => Pk.err5 (n := n) (r := r) (x := x) h h2 h3 h4)
   have F6 := Lib.hid (fun h h2 h3 h4 => Pk.err6 (n := n) (r := r) (x := x) h h2 h3 h4)
   have HX : Hid (Pk.X n (x :: r) = Bt.nums (Ty.S (r.take (Bt.need (n * x.toNat)))) x.toNat) := Lib.hid rfl
   have HR : Hid (Pk.rest n (x :: r) = r.drop (Bt.need (n * x.toNat))) := Lib.hid rfl
   have hx8 := x.toNat_lt
   obtain ⟨L0, hL0⟩ : ∃ L0, L0 = x :: r := ⟨_, rfl⟩
   rw [← hL0] at F2 F3 F4 F5 F6 HX HR ⊢
   obtain ⟨q, hq⟩ : ∃ q, q = x.toNat := ⟨_, rfl⟩
   rw [← hq] at F2 F3 F4 F5 F6 HX HR cb hx8
   clear hL0 hq h hl
   by_cases h64 : 64 < q
   ·have h64i : (64 : Int) < (q : Int) := by omega
    have HB := Lib.hid (F2.out h64)
    clear F2 F3 F4 F5 F6 HX HR h64
    go_enter Tryz.func203, Tryz.ntmps203
    go_wp2_with fail
    refine cb.mono ?_
    rintro e w4 ⟨rfl, hc4, hg4⟩
    have HC4 := Lib.hid hc4
    have HG4 := Lib.hid hg4
    clear cb hc4 hg4
    go_wp2_with fail
    refine (Ty.err_c b _ 0 _ HC4.out).mono ?_
    rintro e w5 ⟨rfl, rfl⟩
    go_wp2
    go_ret2
    exact Pk.Rd.bad HB.out rfl (by decide) HG4.out
   ·have hmul := Bt.mul_le n q (by omega)
    obtain ⟨m, hm⟩ : ∃ m, n * q = m := ⟨_, rfl⟩
    have hmi : (n : Int) * (q : Int) = (m : Int) := by rw [← hm]; simp
    have hmm : m ≤ 4194304 := by omega
    have hd := Pk.need_is hm
    obtain ⟨sz, hsz⟩ : ∃ sz, sz = Bt.need (n * q) := ⟨_, rfl⟩
    have hsz2 : sz ≤ 524289 := by rw [hsz, hm]; unfold Bt.need; omega
    have hq64i : ¬ (64 : Int) < (q : Int) := by omega
    rw [← hsz] at hd F3 F4 F5 F6 HX HR
    by_cases hs : r.length < sz
    ·have hsi : (r.length : Int) < (sz : Int) := by omega
     have HB := Lib.hid (F3.out h64 hs)
     clear F2 F3 F4 F5 F6 HX HR h64 hs hsz hm hmul
     go_enter Tryz.func203, Tryz.ntmps203
     go_wp2_with fail
     refine cb.mono ?_
     rintro e w4 ⟨rfl, hc4, hg4⟩
     have HC4 := Lib.hid hc4
     have HG4 := Lib.hid hg4
     clear cb hc4 hg4
     go_wp2_with fail
     refine (Ty.err_c b _ 0 _ HC4.out).mono ?_
     rintro e w5 ⟨rfl, rfl⟩
     go_wp2_with fail
     refine (Ty.left_c b _ 0 _ HC4.out).mono ?_
     rintro e w6 ⟨rfl, rfl⟩
     go_wp2
     go_ret2
     exact Pk.Rd.bad HB.out rfl (by decide) HG4.out
    ·have hsi : ¬ (r.length : Int) < (sz : Int) := by omega
     have ct := fun wz (hc : Ty.Cur b wz r 0) => Pk.take_c b sz r wz hc hrl (by omega)
     have hts : (Ty.S (r.take sz)).size ≤ 140737488355328 := by rw [Ty.size_S, List.length_take]; omega
     have cun := fun wz => Bt.unpack_c (Ty.S (r.take sz)) (n : Int) (q : Int) wz hts
     have e3 : Bt.upE (Ty.S (r.take sz)) (n : Int) (q : Int) = Bt.chk (Ty.S (r.take sz)) (n * q) := by unfold Bt.upE; rw [if_pos ⟨by omega, by omega⟩]; rfl
     have e4 : Bt.upN (Ty.S (r.take sz)) (n : Int) (q : Int) = if Bt.chk (Ty.S (r.take sz)) (n * q) = 0 then n else 0 := by unfold Bt.upN; rw [e3]; rfl
     rw [e3, e4, Int.toNat_natCast] at cun
     have G4 := Lib.hid (F4.out h64 hs)
     have G5 := Lib.hid (F5.out h64 hs)
     have G6 := Lib.hid (F6.out h64 hs)
     have HQ : Hid (q ≤ 64) := Lib.hid (by omega)
     have hX : ∀ i, Bt.nums (Ty.S (r.take sz)) q i < 2 ^ 64 := fun i => Nat.lt_of_lt_of_le (Bt.num_lt q _) (Nat.pow_le_pow_right (by decide) HQ.out)
     clear e3 e4 hts F2 F3 F4 F5 F6 h64 hs hsz hmul
     generalize Ty.S (r.take sz) = s at ct cun G4 G5 G6 HX hX
     generalize r.drop sz = l9 at ct HR
     generalize Bt.nums s q = X at cun G5 G6 HX hX
     generalize Bt.chk s (n * q) = C at cun G4 G5 G6
     have HXL := Lib.hid hX
     clear hm hX
     go_enter Tryz.func203, Tryz.ntmps203
     go_wp2_with fail
     refine cb.mono ?_
     rintro e w4 ⟨rfl, hc4, hg4⟩
     have HC4 := Lib.hid hc4
     have HG4 := Lib.hid hg4
     clear cb hc4 hg4
     go_wp2_with fail
     refine (Ty.err_c b _ 0 _ HC4.out).mono ?_
     rintro e w5 ⟨rfl, rfl⟩
     go_wp2_with fail
     refine (Ty.left_c b _ 0 _ HC4.out).mono ?_
     rintro e w6 ⟨rfl, rfl⟩
     have ct4 := ct _ HC4.out
     clear ct
     go_wp2_with fail
     refine ct4.mono ?_
     rintro e w7 ⟨rfl, hc7, hg7⟩
     have HC7 := Lib.hid hc7
     have HG7 := Lib.hid (Ty.by_trans HG4.out hg7)
     clear ct4 hc7 hg7 HC4 HG4
     by_cases hck : C = 0
     ·subst hck
      rw [if_pos rfl] at cun
      simp only [Int.natCast_zero] at cun
      go_wp2_with fail
      refine (cun _).mono ?_
      rintro e w8 ⟨vd, rfl, hS8, g8⟩
      have HG8 := Lib.hid (Pk.below_by g8 HG7.out)
      have HC8 := Lib.hid (HC7.out.below g8 (by have := HG7.out.size; omega))
      have HS8 := Lib.hid hS8
      have cwd := Bt.width_c _ n X w8 hS8 HXL.out (by omega)
      clear cun g8 HC7 HG7
      obtain ⟨a8, c8, rfl, h8⟩ := hS8
      clear h8
      by_cases hlt : Bt.wid n X < q
      ·have hlti : ((Bt.wid n X : Nat) : Int) < (q : Int) := by omega
       have HB := Lib.hid (G5.out (by trivial) hlt)
       generalize Bt.wid n X = z at cwd hlti
       clear hlt
       go_wp2_with fail
       refine cwd.mono ?_
       rintro e w10 ⟨rfl, rfl⟩
       go_wp2
       go_ret2
       exact Pk.Rd.bad HB.out rfl (by decide) HG8.out
      ·have hlti : ¬ ((Bt.wid n X : Nat) : Int) < (q : Int) := by omega
       have HB := Lib.hid (G6.out (by trivial) hlt)
       generalize Bt.wid n X = z at cwd hlti
       clear hlt
       go_wp2_with fail
       refine cwd.mono ?_
       rintro e w10 ⟨rfl, rfl⟩
       go_wp2
       go_ret2
       exact ⟨_, by rw [HB.out]; rfl, fun _ => ⟨by rw [HX.out]; exact HS8.out, by rw [HR.out]; exact HC8.out⟩, fun e => absurd HB.out e, HG8.out⟩
     ·rw [if_neg hck] at cun
      have HB := Lib.hid (G4.out hck)
      have hCi : ((C : Int) != 0) = true := by rw [bne_iff_ne]; omega
      have HC := Lib.hid hck
      clear hck
      go_wp2_with fail
      refine (cun _).mono ?_
      rintro e w8 ⟨vd, rfl, hS8, g8⟩
      have HG8 := Lib.hid (Pk.below_by g8 HG7.out)
      clear cun g8 HC7 HG7 hS8
      go_wp2
      go_ret2
      exact Pk.Rd.bad HB.out rfl HC.out HG8.out
end
section
open Go.RowKit
open Ig (nth encI encR grp diffs prv low off)
open Ty (encU)
theorem Ig.At.bufs {B : Nat} {w : World} {v : Value} {L : List Int} (h : Ig.At B w v L) : Ig.At w.heap.size w v L := h.mono (by obtain ⟨_, _, _, _, hB, _⟩ := h; exact hB) (Nat.le_refl _)
set_option maxHeartbeats 2000000 in
set_option maxRecDepth 100000 in
theorem Ig.writePacked_c (base : Nat) (v : Value) (bs : List UInt8) (u : Value) (L : List Int) (w : World) (hw : Ty.Tabs w) (hown : Ty.Buf base w v bs) (hb : base ≤ w.heap.size) (hG : Ty.G ≤ base)
 (hL : Ig.At base w u L) (hi : ∀ x ∈ L, Ty.I64 x) (hlen : bs.length ≤ 100) (hl : L.length ≤ 65536) :
 Calls Tryz.prog 184 #[v, u] w (Ty.Written base w v (bs ++ Ig.encP L)) := by
 by_cases hne : 0 < L.length
 ·have cM := Ig.min_c u L w hL.bufs hne hl
  have hLi := Ig.low_i64 hi hne
  have HW := Lib.hid (fun i (h : i < L.length) => Ig.off_wrap hi h)
  have HX := Lib.hid (Ig.off_lt L hi)
  have hEP : Ig.encP L = Ig.encI (low L) ++ Pk.enc L.length (off L) := by
   unfold Ig.encP
   rw [if_neg (by intro e; rw [e] at hne; simp at hne)]
   rfl
  have cP := fun v bs u w h1 h2 h3 h4 => Pk.append_c base v bs u L.length (off L) w h1 h2 h3 (Ig.off_lt L hi) hl h4
  rw [hEP]
  generalize Pk.enc L.length (off L) = E at cP ⊢
  have hmk := run_make_row' (P := Tryz.prog) 212 88 (.int .u64 0) 8 Tryz.underlying212 Bt.infoU rfl .i64 .i64 L.length (by omega) (by omega)
  have HL := Lib.hid hL
  have H0 := Lib.hid hown
  have HP := Lib.hid cP
  have hn0 : ((L.length : Int) == 0) = false := by rw [beq_eq_false_iff_ne]; omega
  have hn1 : (0 : Int) < (L.length : Int) := by omega
  have hn2 : (L.length : Int) ≤ 65536 := by omega
  obtain ⟨a, c, rfl, hc, _, h⟩ := hL
  clear hi hEP hown cP
  go_enter Tryz.func184, Tryz.ntmps184
  go_wp2_with fail
  refine cM.mono ?_
  rintro e w1 ⟨rfl, rfl⟩
  clear cM
  go_wp2_with fail
  have hR : (w1.alloc (.cells (madeCells #[.int .u64 0] L.length) 88)).rowIs w1.heap.size 88 L.length (Bt.upTo 0 (Bt.nv (off L)) (.int .u64 0)) := (World.rowIs_made w1 (.int .u64 0) L.length 88).congr fun i _ => by unfold Bt.upTo; rw [if_neg (by omega)]
  have hB : Below w1.heap.size w1 (w1.alloc (.cells (madeCells #[.int .u64 0] L.length) 88)) := (Below.refl _ _).alloc (Nat.le_refl _) _
  generalize w1.alloc (.cells (madeCells #[.int .u64 0] L.length) 88) = w2 at hR hB ⊢
  clear hmk hn0
  generalize hg : w1.heap.size = g at hR hB
  have HGE := Lib.hid hg
  clear hg
  go_loopw [20] (fun i wr => ∃ k : Nat, k ≤ L.length ∧ i = .int .i64 k ∧ wr.rowIs g 88 L.length (Bt.upTo k (Bt.nv (off L)) (.int .u64 0)) ∧ Below g w1 wr) (fun i _ => L.length - (intOf i).toNat)
  case atStart => exact ⟨0, by omega, rfl, hR, hB⟩
  case round =>
   obtain ⟨k, hk, rfl, hRk, hBk⟩ := hrel
   have HR := Lib.hid hRk
   clear hR hB hRk
   by_cases hl2 : k < L.length
   ·rcases h with h | ⟨b, o, rfl, hlt, h⟩
    ·exact absurd hl2 (by rw [h]; simp)
    ·have hcell : wr.cell? ⟨b, o + k, none⟩ = some (.int .i64 (nth L k)) := (hBk.cell (p := ⟨b, o + k, none⟩) (show b < g by have := HGE.out; omega)).trans (h k hl2)
     have hkl : (k : Int) < (L.length : Int) := by omega
     have hk0 : (0 : Int) ≤ (k : Int) := by omega
     have hf := HR.out.frozen k
     have hcl := HR.out.cell hl2
     have HO := Lib.hid (HW.out k hl2)
     generalize nth L k = x at hcell HO
     generalize low L = y at HO ⊢
     clear h
     go_wp2
     go_roundw
     case rel => exact ⟨k + 1, by omega, by simp, Bt.upTo_next HR.out (by unfold Bt.nv; first | rw [HO.out] | rw [← HO.out]), hBk.trans (Bt.below_set (Nat.le_refl _) _)⟩
     case measure => simp [intOf]; omega
   ·obtain rfl : k = L.length := by omega
    have hkl : ¬ (L.length : Int) < (L.length : Int) := by omega
    have hsl : Bt.Sl wr (.slice (some ⟨g, 0, none⟩) L.length L.length) L.length (Bt.nv (off L)) := Bt.Sl.row (HR.out.congr fun i hi => by unfold Bt.upTo; rw [if_pos hi])
    have hbw : Below w1.heap.size w1 wr := by rw [HGE.out]; exact hBk
    have hown2 := H0.out.later hbw
    have hbs := hbw.size
    have hT := hw.below hbw (by omega)
    have HB := Lib.hid hbw
    have HSL := Lib.hid hsl
    have ci := Ty.int_c base v bs (low L) hLi wr hT hown2 (by omega) (by omega)
    clear h hsl hBk hown2 hT hbw
    go_wp2_with fail
    refine ci.mono ?_
    rintro e w4 ⟨v4, rfl, hB4, hG4⟩
    have hbs4 := hG4.by_.size
    have h9 := Ig.len_encI (low L)
    have hs4 := Pk.sl_kept HSL.out (hG4.by_.block g HR.out.lt (fun e => by have := (H0.out.lt g e.symm).2; have := HGE.out; omega)) hG4.by_.size
    have ca := HP.out v4 _ _ w4 hB4 (by omega) hs4 (by rw [List.length_append]; unfold Ig.encI at h9; omega)
    have HG4 := Lib.hid hG4
    clear ci hB4 hG4 hs4 h9
    go_wp2_with fail
    refine ca.mono ?_
    rintro e w5 ⟨v5, rfl, hB5, hG5⟩
    have H5 := Lib.hid hB5
    have HG5 := Lib.hid hG5
    clear ca hB5 hG5
    go_wp2
    go_ret
    exact ⟨_, rfl, by have := H5.out; simpa [Ig.encI, Ig.encI] using this, (Ig.grew_below (Ty.Grew.refl _ _) HB.out).trans (HG4.out.trans HG5.out)⟩
 ·have hM0 : L = [] := List.eq_nil_of_length_eq_zero (by omega)
  subst hM0
  obtain ⟨a, c, rfl, hc, _, h⟩ := hL
  clear h
  go_enter Tryz.func184, Tryz.ntmps184
  go_wp2
  go_ret
  exact ⟨_, rfl, by simpa [Ig.encP] using hown, Ty.Grew.refl _ _⟩
end
section
open Go.RowKit
open Ig (nth encI encR grp diffs prv low off)
open Ty (encU)
def Ig.withE (L : List Int) (z : Int) : Nat := if 0 ≤ z ∧ z ≤ 3 then (if 65536 < L.length then 3 else 0) else 1
def Ig.withS (L : List Int) (z : Int) : List UInt8 := if Ig.withE L z = 0 then Ig.enc z.toNat L else []
def Ig.withV (L : List Int) (z : Int) : Value := .tuple #[.string (Ty.S (Ig.withS L z)), .int .i64 ((Ig.withE L z : Nat) : Int)]
theorem Ig.withV_bad {L : List Int} {z : Int} (h : ¬ (0 ≤ z ∧ z ≤ 3)) : Ig.withV L z = .tuple #[.string (Ty.S []), .int .i64 1] := by
 have e : Ig.withE L z = 1 := by unfold Ig.withE; rw [if_neg h]
 unfold Ig.withV Ig.withS
 rw [e]; rfl
theorem Ig.withV_long {L : List Int} {z : Int} (h : 0 ≤ z ∧ z ≤ 3) (hl : 65536 < L.length) : Ig.withV L z = .tuple #[.string (Ty.S []), .int .i64 3] := by
 have e : Ig.withE L z = 3 := by unfold Ig.withE; rw [if_pos h, if_pos hl]
 unfold Ig.withV Ig.withS
 rw [e]; rfl
theorem Ig.withV_good {L : List Int} {k : Nat} (h : k ≤ 3) (hl : ¬ 65536 < L.length) : Ig.withV L (k : Int) = .tuple #[.string (Ty.S (Ig.enc k L)), .int .i64 0] := by
 have e : Ig.withE L (k : Int) = 0 := by unfold Ig.withE; rw [if_pos (by omega), if_neg hl]
 unfold Ig.withV Ig.withS
 rw [e]; rfl
theorem Ig.buf_one {base : Nat} {w : World} (k : Nat) (hk : k < 256) (hb : base ≤ w.heap.size) : Ty.Buf base (w.alloc (.cells #[.int .u8 (k : Int)] 5)) (.slice (some ⟨w.heap.size, 0, none⟩) 1 1) [UInt8.ofNat k] := by
 refine ⟨by simp, .inr ⟨w.heap.size, 1, _, rfl, hb, heap_alloc_new w _, Nat.le_refl _, by unfold maxLen; omega, by simp, ?_⟩⟩
 have := Ty.toNat_ofNat8 k hk
 simp [Ty.B, this]
set_option maxHeartbeats 2000000 in
set_option maxRecDepth 100000 in
theorem Ig.with_good (u : Value) (L : List Int) (k : Nat) (hk : k ≤ 3) (w : World) (hw : Ty.Tabs w) (hL : Ig.At w.heap.size w u L) (hi : ∀ x ∈ L, Ty.I64 x) (hl : L.length ≤ 65536) :
 Calls Tryz.prog 155 #[u, .int .i64 k] w fun e w' => e = .returned (.tuple #[.string (Ty.S (Ig.enc k L)), .int .i64 0]) ∧ Below w.heap.size w w' := by
 have hG := hw.two
 have HE : Hid (Ig.enc k L = [UInt8.ofNat k] ++ encU L.length ++ Ig.body k L) := Lib.hid (by unfold Ig.enc; simp)
 have HL := Lib.hid hL
 have HI := Lib.hid hi
 have hu : Ty.U64 ((L.length : Int)).toNat := by unfold Ty.U64; omega
 have h9 := Ty.encU_len9 L.length
 have H9 := Lib.hid h9
 have hn2 : ¬ (65536 : Int) < (L.length : Int) := by omega
 obtain ⟨a, c, rfl, hc, _, h⟩ := hL
 clear h hi h9
 rw [HE.out]
 rcases (by omega : k = 0 ∨ k = 1 ∨ k = 2 ∨ k = 3) with rfl | rfl | rfl | rfl
 all_goals
  go_enter Tryz.func155, Tryz.ntmps155
  go_wp2_with fail
  refine (Ig.coders_c _).mono ?_
  rintro e w1 ⟨rfl, hw1⟩
  have hb1 : Below w.heap.size w w1 := by rw [hw1]; exact (Below.refl _ _).alloc (Nat.le_refl _) _
  clear hw1
  have hT1 := hw.below hb1 hG
  have hs1 := hb1.size
  have cU := fun wz X h1 h2 h3 => Ty.uint_c w.heap.size (.slice (some ⟨w1.heap.size, 0, none⟩) 1 1) [X] (L.length : Int) (by omega) hu wz h1 h2 h3 (by simp)
  have hT2 : ∀ o, Ty.Tabs (w1.alloc o) := fun o => hT1.alloc o
  have hBf : ∀ K : Nat, K < 256 → Ty.Buf w.heap.size (w1.alloc (.cells #[.int .u8 (K : Int)] 5)) (.slice (some ⟨w1.heap.size, 0, none⟩) 1 1) [UInt8.ofNat K] := fun K hK => Ig.buf_one K hK hs1
  have HT2 := Lib.hid hT2
  have HBf := Lib.hid hBf
  have hab : ∀ o, Below w.heap.size w (w1.alloc o) := fun o => hb1.alloc hs1 o
  have HAB := Lib.hid hab
  have CU := Lib.hid cU
  have hsz : w.heap.size ≤ w1.heap.size + 1 := by omega
  clear cU hT2 hBf hab hT1 hu
  go_wp2_with fail
  first
   | refine (CU.out _ _ (HT2.out _) (HBf.out 0 (by decide)) (by simp; omega)).mono ?_
   | refine (CU.out _ _ (HT2.out _) (HBf.out 1 (by decide)) (by simp; omega)).mono ?_
   | refine (CU.out _ _ (HT2.out _) (HBf.out 2 (by decide)) (by simp; omega)).mono ?_
   | refine (CU.out _ _ (HT2.out _) (HBf.out 3 (by decide)) (by simp; omega)).mono ?_
  rintro e w2 ⟨v2, rfl, hB2, hG2⟩
  have hb2 := (HAB.out _).trans (hG2.below (B := w.heap.size) (by simp; omega) (by intro j hj; have : w1.heap.size = j := (by simpa [Value.ownBlock] using hj); omega))
  have hs2 := hb2.size
  have hT2 := hw.below hb2 hG
  have HB2 := Lib.hid hB2
  clear hB2 hG2 CU HT2 HBf HAB hb1
  go_wp2_with fail
  refine (Ig.coders_c _).mono ?_
  rintro e w3 ⟨rfl, hw3⟩
  have hb3 : Below w2.heap.size w2 w3 := by rw [hw3]; exact (Below.refl _ _).alloc (Nat.le_refl _) _
  have hcc : ∀ i v, (Ig.csA)[i]? = some v → w3.cell? ⟨w2.heap.size, i, none⟩ = some v := fun i v h => by rw [hw3]; exact Ig.cs_cell w2 i v h
  have hcd := Ig.cs_at hcc
  clear hw3 hcc
  go_wp2_with fail
  have hT3 := hT2.below hb3 (by omega)
  have hB3 := HB2.out.later hb3
  have hL3 := HL.out.below (hb2.trans (hb3.mono hs2))
  have hs3 : w.heap.size ≤ w3.heap.size := Nat.le_trans hs2 hb3.size
  have hln : ∀ K : UInt8, ([K] ++ encU ((L.length : Int)).toNat).length ≤ 100 := fun K => by
   have h1 := H9.out
   have e1 : ((L.length : Int)).toNat = L.length := Int.toNat_natCast _
   rw [e1, List.length_append, List.length_singleton]
   omega
  have HLN := Lib.hid hln
  have HB := Lib.hid (hb2.trans (hb3.mono hs2))
  have hown := hB3.base
  clear hcd hb3 hb2 hln
  first
   | refine (Ig.writePlain_c w.heap.size v2 _ _ L w3 hT3 hB3 hs3 hG hL3 HI.out (HLN.out _) hl).mono ?_
   | refine (Ig.writeDelta_c w.heap.size v2 _ _ L w3 hT3 hB3 hs3 hG hL3 HI.out (HLN.out _) hl).mono ?_
   | refine (Ig.writeRuns_c w.heap.size v2 _ _ L w3 hT3 hB3 hs3 hG hL3 HI.out (HLN.out _) hl).mono ?_
   | refine (Ig.writePacked_c w.heap.size v2 _ _ L w3 hT3 hB3 hs3 hG hL3 HI.out (HLN.out _) hl).mono ?_
  rintro e w4 ⟨v4, rfl, hB4, hG4⟩
  have hb4 := HB.out.trans (hG4.below hs3 hown)
  have hcv := hB4.str
  clear hB4 hG4 hB3 hL3 hown hT3 hT2
  go_wp2
  go_ret2
  exact ⟨by first | rfl | simp [Ig.body], hb4⟩
set_option maxHeartbeats 2000000 in
theorem Ig.with_c (u : Value) (L : List Int) (z : Int) (w : World) (hw : Ty.Tabs w) (hL : Ig.At w.heap.size w u L) (hi : ∀ x ∈ L, Ty.I64 x) (hl : L.length ≤ 140737488355328) :
 Calls Tryz.prog 155 #[u, .int .i64 z] w fun e w' => e = .returned (Ig.withV L z) ∧ Below w.heap.size w w' := by
 by_cases hz : 0 ≤ z ∧ z ≤ 3
 ·by_cases hln : 65536 < L.length
  ·rw [Ig.withV_long hz hln]
   obtain ⟨k, rfl⟩ := Int.eq_ofNat_of_zero_le hz.1
   have hk : k ≤ 3 := by omega
   have hli : (65536 : Int) < (L.length : Int) := by omega
   obtain ⟨a, c, rfl, hc, _, h⟩ := hL
   clear h hi hz hln
   rcases (by omega : k = 0 ∨ k = 1 ∨ k = 2 ∨ k = 3) with rfl | rfl | rfl | rfl
   all_goals
    go_enter Tryz.func155, Tryz.ntmps155
    go_wp2_with fail
    refine (Ig.coders_c _).mono ?_
    rintro e w1 ⟨rfl, hw1⟩
    have hb1 : Below w.heap.size w w1 := by rw [hw1]; exact (Below.refl _ _).alloc (Nat.le_refl _) _
    clear hw1
    go_wp2
    go_ret2
    exact ⟨rfl, hb1⟩
  ·obtain ⟨k, rfl⟩ := Int.eq_ofNat_of_zero_le hz.1
   rw [Ig.withV_good (by omega) hln]
   exact Ig.with_good u L k (by omega) w hw hL hi (by omega)
 ·rw [Ig.withV_bad hz]
  obtain ⟨a, c, rfl, hc, _, h⟩ := hL
  clear h hi
  by_cases h0 : z < 0
  ·go_enter Tryz.func155, Tryz.ntmps155
   go_wp2
   go_ret2
   exact ⟨rfl, Below.refl _ _⟩
  ·have h4 : (4 : Int) ≤ z := by omega
   clear hz
   go_enter Tryz.func155, Tryz.ntmps155
   go_wp2_with fail
   refine (Ig.coders_c _).mono ?_
   rintro e w1 ⟨rfl, hw1⟩
   have hb1 : Below w.heap.size w w1 := by rw [hw1]; exact (Below.refl _ _).alloc (Nat.le_refl _) _
   clear hw1
   go_wp2
   go_ret2
   exact ⟨rfl, hb1⟩
end
end Go.Proofs.YtbelkhkllneifaaGreatDoor
