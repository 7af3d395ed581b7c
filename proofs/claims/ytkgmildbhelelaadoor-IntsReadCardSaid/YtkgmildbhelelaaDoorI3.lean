/-
  Contracts of package ints: numbers in hand; the table of codecs; the plain writer, the writer of differences; the length of a run; the smallest one.
-/
import Derived.Test.YtkgmildbhelelaaDoorI2
import Derived.Test.YtkgmildbhelelaaDoorL3
import Derived.Test.YtkgmildbhelelaaDoorR4
import Derived.Test.YtkgmildbhelelaaDoorB8
namespace Go.Proofs.YtkgmildbhelelaaDoor
open Go.RowKit
open Ig (nth encI encR grp diffs prv low)
/-- The numbers L lie one behind the other below block B. -/
structure Ig.At (B : Nat) (w : World) (v : Value) (L : List Int) : Prop where
  is : ∃ a c, v = .slice a L.length c ∧ L.length ≤ c ∧ B ≤ w.heap.size ∧ (L = [] ∨ ∃ b o, a = some ⟨b, o, none⟩ ∧ b < B ∧ ∀ i, i < L.length → w.cell? ⟨b, o + i, none⟩ = some (.int .i64 (nth L i)))
theorem Ig.At.below {B : Nat} {w w' : World} {v : Value} {L : List Int} (h : Ig.At B w v L) (g : Below B w w') : Ig.At B w' v L := by
  obtain ⟨a, c, rfl, hc, hB, h⟩ := h
  refine ⟨a, c, rfl, hc, Nat.le_trans hB g.size, ?_⟩
  rcases h with h | ⟨b, o, rfl, hlt, h⟩
  · exact .inl h
  · exact .inr ⟨b, o, rfl, hlt, fun i hi => (g.cell (p := ⟨b, o + i, none⟩) hlt).trans (h i hi)⟩
theorem Ig.At.mono {B B' : Nat} {w : World} {v : Value} {L : List Int} (h : Ig.At B w v L) (h1 : B ≤ B') (h2 : B' ≤ w.heap.size) : Ig.At B' w v L := by
  obtain ⟨a, c, rfl, hc, hB, h⟩ := h
  refine ⟨a, c, rfl, hc, h2, ?_⟩
  rcases h with h | ⟨b, o, rfl, hlt, h⟩
  · exact .inl h
  · exact .inr ⟨b, o, rfl, by omega, h⟩
/-- A function as a value. -/
def Ig.fn (k : Nat) : Value := .func (.func k) #[] #[]
/-- The cells of the four codecs' functions; their block. -/
def Ig.csA : Array Value := #[.func (.func 60) #[] #[], .func (.func 61) #[] #[], .func (.func 62) #[] #[], .func (.func 63) #[] #[],
  .func (.func 64) #[] #[], .func (.func 65) #[] #[], .func (.func 66) #[] #[], .func (.func 67) #[] #[]]
def Ig.cs : Obj := .cells Ig.csA 53
set_option maxHeartbeats 1000000 in
theorem Ig.coders_c (w : World) :
    Calls Tryd.prog 31 #[] w fun e w' => e = .returned (.slice (some ⟨w.heap.size, 0, none⟩) 4 4) ∧ w' = w.alloc Ig.cs := by
  go_enter Tryd.func31, Tryd.ntmps31
  go_wp2
  go_ret
  exact ⟨rfl, rfl⟩
theorem Ig.cs_cell (w : World) (i : Nat) (v : Value) (h : Ig.csA[i]? = some v) : (w.alloc Ig.cs).cell? ⟨w.heap.size, i, none⟩ = some v := by
  have hn : (w.alloc Ig.cs).heap[w.heap.size]? = some Ig.cs := Go.Deep.blk_alloc_new _ _
  unfold World.cell?
  simp only [hn]
  exact h
/-- The eight functions in their cells. -/
theorem Ig.cs_at {w : World} {b : Nat} (h : ∀ i v, Ig.csA[i]? = some v → w.cell? ⟨b, i, none⟩ = some v) :
    w.cell? ⟨b, 0, none⟩ = some (.func (.func 60) #[] #[]) ∧ w.cell? ⟨b, 1, none⟩ = some (.func (.func 61) #[] #[]) ∧ w.cell? ⟨b, 2, none⟩ = some (.func (.func 62) #[] #[]) ∧ w.cell? ⟨b, 3, none⟩ = some (.func (.func 63) #[] #[]) ∧ w.cell? ⟨b, 4, none⟩ = some (.func (.func 64) #[] #[]) ∧ w.cell? ⟨b, 5, none⟩ = some (.func (.func 65) #[] #[]) ∧ w.cell? ⟨b, 6, none⟩ = some (.func (.func 66) #[] #[]) ∧ w.cell? ⟨b, 7, none⟩ = some (.func (.func 67) #[] #[]) :=
  ⟨h 0 _ rfl, h 1 _ rfl, h 2 _ rfl, h 3 _ rfl, h 4 _ rfl, h 5 _ rfl, h 6 _ rfl, h 7 _ rfl⟩
theorem Ig.take_full {w w' : World} {base : Nat} {v v' : Value} (g : Ty.Grew w w' v v') (hb : base ≤ w.heap.size) (hv : ∀ k, v.ownBlock = some k → base ≤ k) : Below base w w' := g.below hb hv
set_option maxHeartbeats 1000000 in
theorem Ig.writePlain_c (base : Nat) (v : Value) (bs : List UInt8) (u : Value) (L : List Int) (w : World) (hw : Ty.Tabs w) (hown : Ty.Buf base w v bs) (hb : base ≤ w.heap.size) (hG : Ty.G ≤ base)
    (hL : Ig.At base w u L) (hi : ∀ x ∈ L, Ty.I64 x) (hlen : bs.length ≤ 100) (hl : L.length ≤ 65536) :
    Calls Tryd.prog 60 #[v, u] w (Ty.Written base w v (bs ++ L.flatMap encI)) := by
  have hL0 := hL
  obtain ⟨a, c, rfl, hc, _, h⟩ := hL
  have HI := Lib.hid hi
  have HL := Lib.hid hL0
  have H0 := Lib.hid hown.base
  clear hi hL0
  go_enter Tryd.func60, Tryd.ntmps60
  go_wp2
  go_loopw [0, 9] (fun x i wr => ∃ k : Nat, k ≤ L.length ∧ i = .int .i64 k ∧ Ty.Buf base wr x (bs ++ (L.take k).flatMap encI) ∧ Ty.Grew w wr v x) (fun _ i _ => L.length - (intOf i).toNat)
  case atStart => exact ⟨0, by omega, rfl, by simpa using hown, Ty.Grew.refl _ _⟩
  case round =>
    obtain ⟨k, hk, rfl, hB, hg⟩ := hrel
    have hb1 := Ig.take_full hg hb H0.out
    have hT := hw.below hb1 hG
    have hs := hb1.size
    have HB := Lib.hid hB
    have HG := Lib.hid hg
    clear hB hg
    by_cases hl2 : k < L.length
    · rcases h with h | ⟨b, o, rfl, hlt, h⟩
      · exact absurd hl2 (by rw [h]; simp)
      · have hcell : wr.cell? ⟨b, o + k, none⟩ = some (.int .i64 (nth L k)) := (hb1.cell (p := ⟨b, o + k, none⟩) hlt).trans (h k hl2)
        have hx := Ig.nth_i64 HI.out hl2
        have HN := Lib.hid (Ig.flat_next hl2)
        have hln := Ig.len_flat_take L k
        have c1 := Ty.int_c base _ _ (nth L k) hx wr hT HB.out (by omega) (by rw [List.length_append]; omega)
        have hkl : (k : Int) < (L.length : Int) := by omega
        have hk0 : (0 : Int) ≤ (k : Int) := by omega
        clear h hx hln hT hb1
        go_wp2_with fail
        refine c1.mono ?_
        rintro e w1 ⟨v1, rfl, hB1, hG1⟩
        have HB1 := Lib.hid hB1
        have HG1 := Lib.hid hG1
        clear hB1 hG1 c1
        go_wp2
        go_roundw
        case rel => exact ⟨k + 1, by omega, by simp, by rw [HN.out, ← List.append_assoc]; exact HB1.out, HG.out.trans HG1.out⟩
        case measure => simp [intOf]; omega
    · obtain rfl : k = L.length := by omega
      have hkl : ¬ (L.length : Int) < (L.length : Int) := by omega
      go_wp2
      go_ret
      exact ⟨_, rfl, by have := HB.out; rwa [List.take_length] at this, HG.out⟩
end Go.Proofs.YtkgmildbhelelaaDoor
