/-
  Contracts of package bits: its small functions; what 'put' does to bytes that a call made.
-/
import Derived.Test.YtkgmildbhelelaaDoorRows
import Derived.Test.YtkgmildbhelelaaDoorB1
import Derived.WalkKit
import Derived.WalkSpells
import Derived.WalkLawsBesides
import Derived.Deep.OwnRows
import Derived.Below
import Derived.Lib.Hide
import Derived.StillTailTactics
namespace Go.Proofs.YtkgmildbhelelaaDoor
open Go.RowKit
/-- A row of bytes that a call made: its bits. -/
def Bt.Row (w : World) (g sz : Nat) (F : Nat → Bool) : Prop := w.rowIs g 5 sz (fun i => .int .u8 ((Bt.oct F i : Nat) : Int))
set_option maxRecDepth 100000 in
theorem Bt.Row.string {w : World} {g sz c : Nat} {F : Nat → Bool} (h : Bt.Row w g sz F) : (convert 47 9 (.slice (some ⟨g, 0, none⟩) sz c)).run Tryd.prog w = .ok (.string (Bt.bytes sz F)) w := by
  have := run_convert_bytes_arg (P := Tryd.prog) w 47 _ Tryd.underlying47 Tryd.underlying5 g 0 sz c ((List.range sz).map fun i => ((Bt.oct F i : Nat) : Int)) (by simp) (fun i hi => by
    have hc := h.cell hi
    have ea : (⟨g, 0 + i, none⟩ : Addr) = ⟨g, i, none⟩ := by rw [Nat.zero_add]
    rw [ea, hc]
    simp [List.getD, hi]) 9 Tryd.underlying9
  rw [this]
  have e : strOfNums ((List.range sz).map fun i => ((Bt.oct F i : Nat) : Int)) = Bt.bytes sz F := by
    unfold strOfNums Bt.bytes
    congr 1
    rw [List.map_map]
    rfl
  rw [e]
theorem Bt.by_refl (w : World) (r : Option Nat) : w.grownBy w r := ⟨rfl, rfl, rfl, Nat.le_refl _, fun _ _ _ => rfl⟩
theorem Bt.by_trans {a b c : World} {r : Option Nat} (h : a.grownBy b r) (k : b.grownBy c r) : a.grownBy c r :=
  ⟨k.os.trans h.os, k.tape.trans h.tape, k.output.trans h.output, Nat.le_trans h.size k.size, fun i hi hn => (k.block i (Nat.lt_of_lt_of_le hi h.size) hn).trans (h.block i hi hn)⟩
theorem Bt.by_set (w : World) (b o : Nat) (u : Value) : w.grownBy (w.setCell ⟨b, o, none⟩ u) (some b) :=
  ⟨rfl, rfl, rfl, by simp [World.setCell], fun k _ hk => Below.heap_setCell _ _ _ _ (fun e => hk (by rw [e]))⟩
set_option maxHeartbeats 400000 in
theorem Bt.size_c (n : Nat) (hn : n ≤ 4611686018427387904) (w : World) :
    Calls Tryd.prog 123 #[.int .i64 n] w fun e w' => e = .returned (.int .i64 (Bt.need n : Nat)) ∧ w' = w := by
  have he : ((Bt.need n : Nat) : Int) = ((n : Int) + 7) / 8 := by unfold Bt.need; omega
  rw [he]
  go_enter Tryd.func123, Tryd.ntmps123
  go_wp2
  go_ret
  exact ⟨rfl, rfl⟩
set_option maxHeartbeats 400000 in
theorem Bt.rightCount_c (n : Int) (w : World) :
    Calls Tryd.prog 128 #[.int .i64 n] w fun e w' => e = .returned (.bool (decide (0 ≤ n ∧ n ≤ 65536))) ∧ w' = w := by
  by_cases h1 : 0 ≤ n
  · by_cases h2 : n ≤ 65536
    · rw [decide_eq_true ⟨h1, h2⟩]
      go_enter Tryd.func128, Tryd.ntmps128
      go_wp2
      go_ret
      exact ⟨rfl, rfl⟩
    · rw [decide_eq_false (by omega)]
      go_enter Tryd.func128, Tryd.ntmps128
      go_wp2
      go_ret
      exact ⟨rfl, rfl⟩
  · rw [decide_eq_false (by omega)]
    go_enter Tryd.func128, Tryd.ntmps128
    go_wp2
    go_ret
    exact ⟨rfl, rfl⟩
set_option maxHeartbeats 400000 in
theorem Bt.rightWidth_c (n : Int) (w : World) :
    Calls Tryd.prog 122 #[.int .i64 n] w fun e w' => e = .returned (.bool (decide (0 ≤ n ∧ n ≤ 64))) ∧ w' = w := by
  by_cases h1 : 0 ≤ n
  · by_cases h2 : n ≤ 64
    · rw [decide_eq_true ⟨h1, h2⟩]
      go_enter Tryd.func122, Tryd.ntmps122
      go_wp2
      go_ret
      exact ⟨rfl, rfl⟩
    · rw [decide_eq_false (by omega)]
      go_enter Tryd.func122, Tryd.ntmps122
      go_wp2
      go_ret
      exact ⟨rfl, rfl⟩
  · rw [decide_eq_false (by omega)]
    go_enter Tryd.func122, Tryd.ntmps122
    go_wp2
    go_ret
    exact ⟨rfl, rfl⟩
/-- What 'put' leaves. -/
def Bt.Put (g sz : Nat) (F : Nat → Bool) (w w' : World) : Prop := Bt.Row w' g sz F ∧ w.grownBy w' (some g)
theorem Bt.or_byte (G : Nat → Bool) (a m q r : Nat) (hq : q = a / 8) (hr : r = a % 8) :
    bits .or .u8 ((Bt.oct G q : Nat) : Int) (IntKind.u64.wrap ((m : Int) * 2 ^ r) % 256) = ((Bt.oct (Bt.laid G a m) q : Nat) : Int) := by
  subst hq hr
  have e : IntKind.u64.wrap ((m : Int) * 2 ^ (a % 8)) % 256 = ((m * 2 ^ (a % 8) % 256 : Nat) : Int) := by
    rw [IntKind.wrap_u64]
    have e1 : (m : Int) * 2 ^ (a % 8) = ((m * 2 ^ (a % 8) : Nat) : Int) := by simp
    rw [e1]
    omega
  rw [e, (bits_nat .u8 8 (by decide) wraps_u8 _ _ (Bt.oct_lt G (a / 8)) (Nat.mod_lt _ (by decide))).2, Bt.laid_here]
theorem Bt.Put.next {g sz a m q r : Nat} {G : Nat → Bool} {w wr : World} (h : Bt.Put g sz G w wr) (hq : q = a / 8) (hr : r = a % 8) :
    Bt.Put g sz (Bt.laid G a m) w (wr.setCell ⟨g, q, none⟩ (.int .u8 (bits .or .u8 ((Bt.oct G q : Nat) : Int) (IntKind.u64.wrap ((m : Int) * 2 ^ r) % 256)))).drew := by
  obtain ⟨hR, hB⟩ := h
  rw [Bt.or_byte G a m q r hq hr]
  refine ⟨World.rowIs.drew (World.rowIs.congr (World.rowIs.set hR q _) fun i _ => ?_), ?_⟩
  · by_cases e : i = q
    · subst e
      rw [if_pos rfl]
    · rw [if_neg e, Bt.laid_far G a m i (by rw [← hq]; exact e)]
  · have h2 := Bt.by_trans hB (Bt.by_set wr g q (.int .u8 ((Bt.oct (Bt.laid G a m) q : Nat) : Int)))
    exact ⟨h2.os, h2.tape, h2.output, h2.size, h2.block⟩
set_option maxHeartbeats 1000000 in
set_option maxRecDepth 100000 in
theorem Bt.put_c (g sz c : Nat) (F : Nat → Bool) (p n : Nat) (w : World) (h : Bt.Row w g sz F) (hn : n < 2 ^ (8 * sz - p)) (h64 : n < 18446744073709551616) (hp : p ≤ 9007199254740992) (hsz : 8 * sz ≤ 9007199254740992) :
    Calls Tryd.prog 124 #[.slice (some ⟨g, 0, none⟩) sz c, .int .i64 p, .int .u64 n] w fun e w' => e = .returned (.tuple #[]) ∧ Bt.Put g sz (Bt.putF F p n) w w' := by
  go_enter Tryd.func124, Tryd.ntmps124
  go_wp2
  go_loopw [1, 2] (fun i v wr => ∃ a m : Nat, i = .int .i64 a ∧ v = .int .u64 m ∧ m < 18446744073709551616 ∧ a ≤ 9007199254741000 ∧ m < 2 ^ (8 * sz - a) ∧ ∃ G, Bt.putF F p n = Bt.putF G a m ∧ Bt.Put g sz G w wr) (fun _ v _ => (intOf v).toNat)
  case atStart => exact ⟨p, n, rfl, rfl, h64, by omega, hn, F, rfl, h, Bt.by_refl _ _⟩
  case round =>
    obtain ⟨a, m, rfl, rfl, hm, ha, hml, G, hG, hR, hB⟩ := hrel
    have HG := Lib.hid hG
    have HL := Lib.hid hml
    clear hG hml hn h
    by_cases h0 : m = 0
    · subst h0
      go_wp2
      go_end0
      exact ⟨rfl, by rw [HG.out, Bt.putF_zero]; exact hR, hB⟩
    · have hpos : (m : Int) > 0 := by omega
      have hroom := Bt.put_room HL.out (by omega)
      obtain ⟨q, eq⟩ : ∃ q, q = a / 8 := ⟨_, rfl⟩
      obtain ⟨r, er⟩ : ∃ r, r = a % 8 := ⟨_, rfl⟩
      have hi : q < sz := by omega
      have hc := hR.cell hi
      have hf := hR.frozen q
      have hiz : (q : Int) < (sz : Int) := by omega
      have hiz0 : (0 : Int) ≤ (q : Int) := by omega
      have hq : (a : Int) / 8 = (q : Int) := by omega
      have hr : (a : Int) % 8 = (r : Int) := by omega
      have hr8 : r < 8 := by omega
      have hwq : IntKind.i64.wrap (q : Int) = (q : Int) := by rw [IntKind.wrap_i64]; omega
      have HE := Lib.hid (And.intro eq er)
      clear eq er
      go_wp2_with fail
      refine wp_region_still_tail 11 (by kernel_rfl) (by kernel_rfl) ?_
      simp only [List.take_succ_cons, List.take_zero, List.drop_succ_cons, List.drop_zero]
      change wpStill _ _ (World.drew _) (fun a' => wpList _ _ _ _ a' (World.drew _)) _ _
      still_step
      still_step
      still_step
      still_step
      still_step
      still_step
      still_step
      still_step
      still_step
      still_step
      still_step
      refine wpStill_nil ?_
      go_wp2
      obtain ⟨eq, er⟩ := HE.out
      go_roundw
      case rel =>
        refine ⟨a + (8 - r), m / 2 ^ (8 - r), ?_, ?_, ?_, ?_, ?_, Bt.laid G a m, ?_, ?_⟩
        · congr 1; omega
        · congr 1
        · exact Nat.lt_of_le_of_lt (Nat.div_le_self _ _) hm
        · omega
        · rw [er]; exact Bt.put_less HL.out (by omega)
        · rw [HG.out, er]; funext x; exact Bt.putF_next G a m x
        · exact Bt.Put.next ⟨hR, hB⟩ eq er
      case measure =>
        have := Bt.put_down (n := m) (k := a) (by omega)
        rw [← er] at this
        have e : ((m : Int) / 2 ^ (8 - r)) = ((m / 2 ^ (8 - r) : Nat) : Int) := by simp
        simp only [intOf]
        rw [e]
        omega
end Go.Proofs.YtkgmildbhelelaaDoor
