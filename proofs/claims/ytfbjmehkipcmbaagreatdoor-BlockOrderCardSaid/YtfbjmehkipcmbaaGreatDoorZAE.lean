/-
  The walk of the law TallyOnly.
  Contracts of the document's answers for tally: the cursor.
  Contracts of the document's answers for tally: what the cursor sees next.
  Contracts of the document's answers for tally: the cursor's methods.
  Contracts of package bits: its small functions; what 'put' does to bytes that a call made.
  Contracts of package bits: 'get', 'check' and the library's Len64.
-/
import Derived.Test.YtfbjmehkipcmbaaGreatDoorZAD
import Derived.Deep.DeepCutAuto
import Derived.Deep.QuietTactic
import Derived.BigQuiet
import Derived.WalkSmall
import Derived.Test.YtfbjmehkipcmbaaGreatDoorRows
import Derived.Test.YtfbjmehkipcmbaaGreatDoorZAB
import Derived.WalkKit
import Derived.WalkSpells
import Derived.WalkLawsBesides
import Derived.Deep.OwnRows
import Derived.Below
import Derived.Lib.Hide
import Derived.StillTailTactics
import Derived.Lib.BitFns
namespace Go.Proofs.YtfbjmehkipcmbaaGreatDoor
open Go.RowKit
theorem Ty.Cur.drew {b : Nat} {w : World} {l : List UInt8} {e : Nat} (h : Ty.Cur b w l e) : Ty.Cur b w.drew l e := h
theorem Ty.Cur.drewN {b : Nat} {w : World} {l : List UInt8} {e : Nat} (h : Ty.Cur b w l e) (n : Nat) : Ty.Cur b (w.drewN n) l e := h
theorem Ty.Tabs.drewN {w : World} (h : Ty.Tabs w) (n : Nat) : Ty.Tabs (w.drewN n) := h.kept (Nat.le_refl _) fun _ _ => rfl
theorem Ty.txt_len (l : List UInt8) (m : Int) : (Ty.txt l m).1.length ≤ l.length := by
  unfold Ty.txt
  repeat' split
  all_goals simp
  all_goals omega
end Go.Proofs.YtfbjmehkipcmbaaGreatDoor

namespace Go.Proofs.YtfbjmehkipcmbaaGreatDoor
open Go.RowKit
def Ty.RC (r : Nat) (w : World) (s : ByteArray) (at_ er : Nat) : Prop := w.heap[r]? = some (.cells #[.string s, .int .i64 (at_ : Int), .int .i64 (er : Int)] 68 (0, 0))
theorem Ty.RC.cells {r : Nat} {w : World} {s : ByteArray} {a e : Nat} (h : Ty.RC r w s a e) : w.cell? ⟨r, 0, none⟩ = some (.string s) ∧ w.cell? ⟨r, 1, none⟩ = some (.int .i64 (a : Int)) ∧ w.cell? ⟨r, 2, none⟩ = some (.int .i64 (e : Int)) ∧ w.frozen? ⟨r, 1, none⟩ = false ∧ w.frozen? ⟨r, 2, none⟩ = false := by
  unfold Ty.RC at h
  refine ⟨?_, ?_, ?_, ?_, ?_⟩ <;> simp [World.cell?, World.frozen?, h]
theorem Ty.RC.lt {r : Nat} {w : World} {s : ByteArray} {a e : Nat} (h : Ty.RC r w s a e) : r < w.heap.size := lt_of_block h
theorem Ty.RC.below {r : Nat} {w w' : World} {s : ByteArray} {a e : Nat} (h : Ty.RC r w s a e) {B : Nat} (hb : Below B w w') (hr : r < B) : Ty.RC r w' s a e := by
  unfold Ty.RC at h ⊢
  rw [hb.block r hr]
  exact h
theorem Ty.RC.drewN {r : Nat} {w : World} {s : ByteArray} {a e : Nat} (h : Ty.RC r w s a e) (n : Nat) : Ty.RC r (w.drewN n) s a e := h
end Go.Proofs.YtfbjmehkipcmbaaGreatDoor

namespace Go.Proofs.YtfbjmehkipcmbaaGreatDoor
open Go.RowKit
def Ty.Peeked (r : Nat) (s : ByteArray) (a er : Nat) (w : World) (e : Ending) (w' : World) : Prop := e = .returned (Ty.numV (s.data.toList.drop a)) ∧ Ty.RC r w' s a er ∧ w.grownBy w' none
end Go.Proofs.YtfbjmehkipcmbaaGreatDoor

namespace Go.Proofs.YtfbjmehkipcmbaaGreatDoor
open Go.RowKit
def Ty.RS (r : Nat) (s : ByteArray) (w : World) (l : List UInt8) (e : Nat) : Prop := ∃ a, a ≤ s.size ∧ s.data.toList.drop a = l ∧ Ty.RC r w s a e
def Ty.RLeft (r : Nat) (s : ByteArray) (w : World) (v : Value) (l : List UInt8) (e' : Nat) (e : Ending) (w' : World) : Prop := e = .returned v ∧ Ty.RS r s w' l e' ∧ w.grownBy w' (some r)
theorem Ty.by_some {w w' : World} (h : w.grownBy w' none) (r : Nat) : w.grownBy w' (some r) := ⟨h.os, h.tape, h.output, h.size, fun k hk _ => h.block k hk (by intro e; cases e)⟩
end Go.Proofs.YtfbjmehkipcmbaaGreatDoor

namespace Go.Proofs.YtfbjmehkipcmbaaGreatDoor
open Go.RowKit
def Bt.Row (w : World) (g sz : Nat) (F : Nat → Bool) : Prop := w.rowIs g 5 sz (fun i => .int .u8 ((Bt.oct F i : Nat) : Int))
set_option maxRecDepth 100000 in
theorem Bt.Row.string {w : World} {g sz c : Nat} {F : Nat → Bool} (h : Bt.Row w g sz F) : (convert 45 9 (.slice (some ⟨g, 0, none⟩) sz c)).run Tryz.prog w = .ok (.string (Bt.bytes sz F)) w := by
  have := run_convert_bytes_arg (P := Tryz.prog) w 45 _ Tryz.underlying45 Tryz.underlying5 g 0 sz c ((List.range sz).map fun i => ((Bt.oct F i : Nat) : Int)) (by simp) (fun i hi => by
    have hc := h.cell hi
    have ea : (⟨g, 0 + i, none⟩ : Addr) = ⟨g, i, none⟩ := by rw [Nat.zero_add]
    rw [ea, hc]
    simp [List.getD, hi]) 9 Tryz.underlying9
  rw [this]
  have e : strOfNums ((List.range sz).map fun i => ((Bt.oct F i : Nat) : Int)) = Bt.bytes sz F := by
    unfold strOfNums Bt.bytes
    congr 1
    rw [List.map_map]
    rfl
  rw [e]
theorem Bt.by_refl (w : World) (r : Option Nat) : w.grownBy w r := ⟨rfl, rfl, rfl, Nat.le_refl _, fun _ _ _ => rfl⟩
theorem Bt.by_trans {a b c : World} {r : Option Nat} (h : a.grownBy b r) (k : b.grownBy c r) : a.grownBy c r :=
  ⟨k.os.trans h.os, k.tape.trans h.tape, k.output.trans h.output, Nat.le_trans h.size k.size, fun i hi hn => (k.block i (Nat.lt_of_lt_of_le hi h.size) hn).trans (h.block i hi hn)⟩
theorem Bt.by_set (w : World) (b o : Nat) (u : Value) : w.grownBy (w.setCell ⟨b, o, none⟩ u) (some b) :=
  ⟨rfl, rfl, rfl, by simp [World.setCell], fun k _ hk => Below.heap_setCell _ _ _ _ (fun e => hk (by rw [e]))⟩
set_option maxHeartbeats 400000 in
theorem Bt.size_c (n : Nat) (hn : n ≤ 4611686018427387904) (w : World) :
    Calls Tryz.prog 47 #[.int .i64 n] w fun e w' => e = .returned (.int .i64 (Bt.need n : Nat)) ∧ w' = w := by
  have he : ((Bt.need n : Nat) : Int) = ((n : Int) + 7) / 8 := by unfold Bt.need; omega
  rw [he]
  go_enter Tryz.func47, Tryz.ntmps47
  go_wp2
  go_ret
  exact ⟨rfl, rfl⟩
set_option maxHeartbeats 400000 in
theorem Bt.rightCount_c (n : Int) (w : World) :
    Calls Tryz.prog 102 #[.int .i64 n] w fun e w' => e = .returned (.bool (decide (0 ≤ n ∧ n ≤ 65536))) ∧ w' = w := by
  by_cases h1 : 0 ≤ n
  · by_cases h2 : n ≤ 65536
    · rw [decide_eq_true ⟨h1, h2⟩]
      go_enter Tryz.func102, Tryz.ntmps102
      go_wp2
      go_ret
      exact ⟨rfl, rfl⟩
    · rw [decide_eq_false (by omega)]
      go_enter Tryz.func102, Tryz.ntmps102
      go_wp2
      go_ret
      exact ⟨rfl, rfl⟩
  · rw [decide_eq_false (by omega)]
    go_enter Tryz.func102, Tryz.ntmps102
    go_wp2
    go_ret
    exact ⟨rfl, rfl⟩
set_option maxHeartbeats 400000 in
theorem Bt.rightWidth_c (n : Int) (w : World) :
    Calls Tryz.prog 175 #[.int .i64 n] w fun e w' => e = .returned (.bool (decide (0 ≤ n ∧ n ≤ 64))) ∧ w' = w := by
  by_cases h1 : 0 ≤ n
  · by_cases h2 : n ≤ 64
    · rw [decide_eq_true ⟨h1, h2⟩]
      go_enter Tryz.func175, Tryz.ntmps175
      go_wp2
      go_ret
      exact ⟨rfl, rfl⟩
    · rw [decide_eq_false (by omega)]
      go_enter Tryz.func175, Tryz.ntmps175
      go_wp2
      go_ret
      exact ⟨rfl, rfl⟩
  · rw [decide_eq_false (by omega)]
    go_enter Tryz.func175, Tryz.ntmps175
    go_wp2
    go_ret
    exact ⟨rfl, rfl⟩
def Bt.Put (g sz : Nat) (F : Nat → Bool) (w w' : World) : Prop := Bt.Row w' g sz F ∧ w.grownBy w' (some g)
theorem Bt.or_byte (G : Nat → Bool) (a m q r : Nat) (hq : q = a / 8) (hr : r = a % 8) :
    bits .or .u8 ((Bt.oct G q : Nat) : Int) (IntKind.u64.wrap ((m : Int) * 2 ^ r) % 256) = ((Bt.oct (Bt.laid G a m) q : Nat) : Int) := by
  subst hq hr
  have e : IntKind.u64.wrap ((m : Int) * 2 ^ (a % 8)) % 256 = ((m * 2 ^ (a % 8) % 256 : Nat) : Int) := by
    rw [IntKind.wrap_u64]
    have e1 : (m : Int) * 2 ^ (a % 8) = ((m * 2 ^ (a % 8) : Nat) : Int) := by simp
    rw [e1]
    omega
  rw [e, (bits_nat .u8 8 (by decide) wraps_u8 _ _ (Bt.oct_lt G (a / 8)) (Nat.mod_lt _ (by decide))).2, Bt.laid_here]
theorem Bt.Put.next {g sz a m q r : Nat} {G : Nat → Bool} {w wr : World} (h : Bt.Put g sz G w wr) (hq : q = a / 8) (hr : r = a % 8) :
    Bt.Put g sz (Bt.laid G a m) w (wr.setCell ⟨g, q, none⟩ (.int .u8 (bits .or .u8 ((Bt.oct G q : Nat) : Int) (IntKind.u64.wrap ((m : Int) * 2 ^ r) % 256)))).drew := by
  obtain ⟨hR, hB⟩ := h
  rw [Bt.or_byte G a m q r hq hr]
  refine ⟨World.rowIs.drew (World.rowIs.congr (World.rowIs.set hR q _) fun i _ => ?_), ?_⟩
  · by_cases e : i = q
    · subst e
      rw [if_pos rfl]
    · rw [if_neg e, Bt.laid_far G a m i (by rw [← hq]; exact e)]
  · have h2 := Bt.by_trans hB (Bt.by_set wr g q (.int .u8 ((Bt.oct (Bt.laid G a m) q : Nat) : Int)))
    exact ⟨h2.os, h2.tape, h2.output, h2.size, h2.block⟩
set_option maxHeartbeats 1000000 in
set_option maxRecDepth 100000 in
theorem Bt.put_c (g sz c : Nat) (F : Nat → Bool) (p n : Nat) (w : World) (h : Bt.Row w g sz F) (hn : n < 2 ^ (8 * sz - p)) (h64 : n < 18446744073709551616) (hp : p ≤ 9007199254740992) (hsz : 8 * sz ≤ 9007199254740992) :
    Calls Tryz.prog 48 #[.slice (some ⟨g, 0, none⟩) sz c, .int .i64 p, .int .u64 n] w fun e w' => e = .returned (.tuple #[]) ∧ Bt.Put g sz (Bt.putF F p n) w w' := by
  go_enter Tryz.func48, Tryz.ntmps48
  go_wp2
  go_loopw [1, 2] (fun i v wr => ∃ a m : Nat, i = .int .i64 a ∧ v = .int .u64 m ∧ m < 18446744073709551616 ∧ a ≤ 9007199254741000 ∧ m < 2 ^ (8 * sz - a) ∧ ∃ G, Bt.putF F p n = Bt.putF G a m ∧ Bt.Put g sz G w wr) (fun _ v _ => (intOf v).toNat)
  case atStart => exact ⟨p, n, rfl, rfl, h64, by omega, hn, F, rfl, h, Bt.by_refl _ _⟩
  case round =>
    obtain ⟨a, m, rfl, rfl, hm, ha, hml, G, hG, hR, hB⟩ := hrel
    have HG := Lib.hid hG
    have HL := Lib.hid hml
    clear hG hml hn h
    by_cases h0 : m = 0
    · subst h0
      go_wp2
      go_end0
      exact ⟨rfl, by rw [HG.out, Bt.putF_zero]; exact hR, hB⟩
    · have hpos : (m : Int) > 0 := by omega
      have hroom := Bt.put_room HL.out (by omega)
      obtain ⟨q, eq⟩ : ∃ q, q = a / 8 := ⟨_, rfl⟩
      obtain ⟨r, er⟩ : ∃ r, r = a % 8 := ⟨_, rfl⟩
      have hi : q < sz := by omega
      have hc := hR.cell hi
      have hf := hR.frozen q
      have hiz : (q : Int) < (sz : Int) := by omega
      have hiz0 : (0 : Int) ≤ (q : Int) := by omega
      have hq : (a : Int) / 8 = (q : Int) := by omega
      have hr : (a : Int) % 8 = (r : Int) := by omega
      have hr8 : r < 8 := by omega
      have hwq : IntKind.i64.wrap (q : Int) = (q : Int) := by rw [IntKind.wrap_i64]; omega
      have HE := Lib.hid (And.intro eq er)
      clear eq er
      go_wp2_with fail
      refine wp_region_still_tail 11 (by kernel_rfl) (by kernel_rfl) ?_
      simp only [List.take_succ_cons, List.take_zero, List.drop_succ_cons, List.drop_zero]
      change wpStill _ _ (World.drew _) (fun a' => wpList _ _ _ _ a' (World.drew _)) _ _
      still_step
      still_step
      still_step
      still_step
      still_step
      still_step
      still_step
      still_step
      still_step
      still_step
      still_step
      refine wpStill_nil ?_
      go_wp2
      obtain ⟨eq, er⟩ := HE.out
      go_roundw
      case rel =>
        refine ⟨a + (8 - r), m / 2 ^ (8 - r), ?_, ?_, ?_, ?_, ?_, Bt.laid G a m, ?_, ?_⟩
        · congr 1; omega
        · congr 1
        · exact Nat.lt_of_le_of_lt (Nat.div_le_self _ _) hm
        · omega
        · rw [er]; exact Bt.put_less HL.out (by omega)
        · rw [HG.out, er]; funext x; exact Bt.putF_next G a m x
        · exact Bt.Put.next ⟨hR, hB⟩ eq er
      case measure =>
        have := Bt.put_down (n := m) (k := a) (by omega)
        rw [← er] at this
        have e : ((m : Int) / 2 ^ (8 - r)) = ((m / 2 ^ (8 - r) : Nat) : Int) := by simp
        simp only [intOf]
        rw [e]
        omega
end Go.Proofs.YtfbjmehkipcmbaaGreatDoor

namespace Go.Proofs.YtfbjmehkipcmbaaGreatDoor
open Go.RowKit
theorem Bt.wraps_u64 (n : Int) (h₀ : 0 ≤ n) (h₁ : n < 2 ^ 64) : IntKind.u64.wrap n = n := by rw [IntKind.wrap_u64]; omega
theorem Bt.or64 (m b r k : Nat) (hm : m < 2 ^ 64) (hb : b < 256) :
    bits .or .u64 (m : Int) (IntKind.u64.wrap (IntKind.u64.wrap ((b : Int) / 2 ^ r) * 2 ^ k)) = ((m ||| (b / 2 ^ r * 2 ^ k % 2 ^ 64) : Nat) : Int) := by
  have e1 : (b : Int) / 2 ^ r = ((b / 2 ^ r : Nat) : Int) := by simp
  have hx : b / 2 ^ r < 256 := Nat.lt_of_le_of_lt (Nat.div_le_self _ _) hb
  rw [e1, Bt.wraps_u64 ((b / 2 ^ r : Nat) : Int) (Int.natCast_nonneg _) (Int.lt_trans (Int.ofNat_lt.2 hx) (by decide))]
  have e2 : ((b / 2 ^ r : Nat) : Int) * 2 ^ k = ((b / 2 ^ r * 2 ^ k : Nat) : Int) := by simp
  rw [e2, IntKind.wrap_u64]
  have e3 : ((b / 2 ^ r * 2 ^ k : Nat) : Int) % 18446744073709551616 = ((b / 2 ^ r * 2 ^ k % 2 ^ 64 : Nat) : Int) := by omega
  rw [e3, (bits_nat .u64 64 (by decide) Bt.wraps_u64 _ _ hm (Nat.mod_lt _ (Nat.two_pow_pos _))).2]
theorem Bt.and64 (m n : Nat) (hm : m < 2 ^ 64) (hn : n ≤ 64) :
    bits .and .u64 (m : Int) (IntKind.u64.wrap (IntKind.u64.wrap (2 ^ n) - 1)) = ((m &&& (2 ^ n - 1) : Nat) : Int) := by
  have h1 : 2 ^ n - 1 < 2 ^ 64 := Nat.lt_of_lt_of_le (Nat.sub_lt (Nat.two_pow_pos _) (by decide)) (Nat.pow_le_pow_right (by decide) hn)
  have e : IntKind.u64.wrap (IntKind.u64.wrap (2 ^ n) - 1) = ((2 ^ n - 1 : Nat) : Int) := by
    have hp := Nat.two_pow_pos n
    have e0 : (2 : Int) ^ n = ((2 ^ n : Nat) : Int) := by simp
    rw [e0]
    by_cases h : n = 64
    · subst h
      rw [IntKind.wrap_u64, IntKind.wrap_u64]
      decide
    · have h2 : 2 ^ n ≤ 2 ^ 63 := Nat.pow_le_pow_right (by decide) (by omega)
      have e1 : IntKind.u64.wrap ((2 ^ n : Nat) : Int) = ((2 ^ n : Nat) : Int) := Bt.wraps_u64 _ (by omega) (by omega)
      rw [e1, Bt.wraps_u64 _ (by omega) (by omega)]
      omega
  rw [e, (bits_nat .u64 64 (by decide) Bt.wraps_u64 _ _ hm h1).1]
theorem Bt.reti {k : IntKind} {x y : Int} (h : x = y) : Ending.returned (.int k x) = Ending.returned (.int k y) := by rw [h]
set_option maxHeartbeats 1000000 in
theorem Bt.get_c (s : ByteArray) (p n : Nat) (w : World) (hn : n ≤ 64) (hs : p + n ≤ 8 * s.size) (hp : p ≤ 9007199254740992) :
    Calls Tryz.prog 104 #[.string s, .int .i64 p, .int .i64 n] w fun e w' => e = .returned (.int .u64 (Bt.num n (fun j => Bt.bit s (p + j)) : Nat)) ∧ w' = w := by
  go_enter Tryz.func104, Tryz.ntmps104
  go_wp2
  go_loop [7, 8] (fun v d => ∃ m k : Nat, v = .int .u64 m ∧ d = .int .i64 k ∧ k ≤ 72 ∧ Bt.Got s p k m) (fun _ d => 72 - (intOf d).toNat)
  case atStart => exact ⟨0, 0, rfl, rfl, by omega, Bt.Got.zero s p⟩
  case round =>
    obtain ⟨m, k, rfl, rfl, hk, hG⟩ := hrel
    have HG := Lib.hid hG
    clear hG
    by_cases hl : k < n
    · obtain ⟨q, eq⟩ : ∃ q, q = (p + k) / 8 := ⟨_, rfl⟩
      obtain ⟨r, er⟩ : ∃ r, r = (p + k) % 8 := ⟨_, rfl⟩
      have hi : q < s.size := by omega
      have hq : ((p : Int) + (k : Int)) / 8 = (q : Int) := by omega
      have hr : ((p : Int) + (k : Int)) % 8 = (r : Int) := by omega
      have hr8 : r < 8 := by omega
      have HE := Lib.hid (And.intro eq er)
      have HS := Lib.hid hs
      clear eq er hs
      go_wp2
      obtain ⟨eq, er⟩ := HE.out
      go_round
      case rel =>
        have h1 := HG.out.next (by rw [← eq]; exact hi)
        have hb := s[q].toNat_lt
        refine ⟨m ||| (s[q].toNat / 2 ^ r * 2 ^ k % 2 ^ 64), k + (8 - r), ?_, ?_, by omega, ?_⟩
        · rw [Bt.or64 m _ r k HG.out.1 hb]
        · congr 1; omega
        · subst eq er
          exact h1
      case measure => simp [intOf]; omega
    · go_wp2
      go_ret
      exact ⟨Bt.reti (by rw [Bt.and64 m n HG.out.1 hn, HG.out.last (by omega) hn]), rfl⟩
set_option maxHeartbeats 1000000 in
theorem Bt.check_c (s : ByteArray) (n : Nat) (w : World) (hn : n ≤ 9007199254740992) (hs : s.size ≤ 9007199254740992) :
    Calls Tryz.prog 103 #[.string s, .int .i64 n] w fun e w' => e = .returned (.int .i64 (Bt.chk s n : Nat)) ∧ w' = w := by
  generalize hC : Bt.chk s n = C
  have HC := Lib.hid hC
  have HN : Hid (Bt.need n ≤ 9007199254740992) := Lib.hid (by unfold Bt.need; omega)
  have c1 := fun w => Bt.size_c n (by omega) w
  obtain ⟨d, ed⟩ : ∃ d, d = Bt.need n := ⟨_, rfl⟩
  rw [← ed] at c1 HN
  have ED := Lib.hid ed
  clear hC ed
  by_cases h1 : s.size < d
  · have e : C = 2 := by rw [← HC.out, Bt.chk, ← ED.out, if_pos h1]
    subst e
    go_enter Tryz.func103, Tryz.ntmps103
    go_wp2_with fail
    refine (c1 _).mono ?_
    rintro e w' ⟨rfl, rfl⟩
    go_wp2
    go_ret
    exact ⟨rfl, rfl⟩
  · by_cases h2 : d < s.size
    · have e : C = 3 := by rw [← HC.out, Bt.chk, ← ED.out, if_neg h1, if_pos h2]
      subst e
      go_enter Tryz.func103, Tryz.ntmps103
      go_wp2_with fail
      refine (c1 _).mono ?_
      rintro e w' ⟨rfl, rfl⟩
      go_wp2_with fail
      refine (c1 _).mono ?_
      rintro e w' ⟨rfl, rfl⟩
      go_wp2
      go_ret
      exact ⟨rfl, rfl⟩
    · obtain ⟨r, er⟩ : ∃ r, r = n % 8 := ⟨_, rfl⟩
      have hr : (n : Int) % 8 = (r : Int) := by omega
      have ER := Lib.hid er
      clear er
      by_cases h3 : 0 < r
      · obtain ⟨q, eq⟩ : ∃ q, q = s.size - 1 := ⟨_, rfl⟩
        have hsz : s.size = Bt.need n := by have := ED.out; omega
        have hpos : 0 < s.size := by rw [hsz]; unfold Bt.need; have := ER.out; omega
        have hi : q < s.size := by omega
        have hq : (s.size : Int) - 1 = (q : Int) := by omega
        have HD : Hid (Bt.dirty s n = decide (s[q].toNat / 2 ^ r ≠ 0)) := Lib.hid (by
          subst eq
          rw [ER.out]
          exact Bt.dirty_last s n (by have := ER.out; omega) hsz hi)
        have h3i : (0 : Int) < (r : Int) := by omega
        clear hsz hpos eq
        by_cases h4 : s[q].toNat / 2 ^ r = 0
        · have e : C = 0 := by rw [← HC.out, Bt.chk, ← ED.out, if_neg h1, if_neg h2, HD.out, h4]; rfl
          subst e
          have hb : ((s[q].toNat : Int) / 2 ^ r != 0) = false := by
            rw [bne_eq_false_iff_eq]
            have e : (s[q].toNat : Int) / 2 ^ r = ((s[q].toNat / 2 ^ r : Nat) : Int) := by simp
            rw [e, h4]; rfl
          go_enter Tryz.func103, Tryz.ntmps103
          go_wp2_with fail
          refine (c1 _).mono ?_
          rintro e w' ⟨rfl, rfl⟩
          go_wp2_with fail
          refine (c1 _).mono ?_
          rintro e w' ⟨rfl, rfl⟩
          go_wp2
          go_ret
          exact ⟨rfl, rfl⟩
        · have e : C = 5 := by rw [← HC.out, Bt.chk, ← ED.out, if_neg h1, if_neg h2, HD.out, decide_eq_true h4]; rfl
          subst e
          have hb : ((s[q].toNat : Int) / 2 ^ r != 0) = true := by
            rw [bne_iff_ne]
            have e : (s[q].toNat : Int) / 2 ^ r = ((s[q].toNat / 2 ^ r : Nat) : Int) := by simp
            rw [e]; omega
          clear h4
          go_enter Tryz.func103, Tryz.ntmps103
          go_wp2_with fail
          refine (c1 _).mono ?_
          rintro e w' ⟨rfl, rfl⟩
          go_wp2_with fail
          refine (c1 _).mono ?_
          rintro e w' ⟨rfl, rfl⟩
          go_wp2
          go_ret
          exact ⟨rfl, rfl⟩
      · have e : C = 0 := by rw [← HC.out, Bt.chk, ← ED.out, if_neg h1, if_neg h2, Bt.dirty_none s n (by have := ER.out; omega)]; rfl
        subst e
        go_enter Tryz.func103, Tryz.ntmps103
        go_wp2_with fail
        refine (c1 _).mono ?_
        rintro e w' ⟨rfl, rfl⟩
        go_wp2_with fail
        refine (c1 _).mono ?_
        rintro e w' ⟨rfl, rfl⟩
        go_wp2
        go_ret
        exact ⟨rfl, rfl⟩
theorem Bt.len8_all : ∀ x : Fin 256, Lib.len8 ((x.val : Nat) : Int) = ((bitLen x.val : Nat) : Int) := by decide +kernel
theorem Bt.len_end (k x : Nat) (hk : k ≤ 56) (h : x < 256) : wrap64 ((k : Int) + wrap64 (Lib.len8 ((x : Int) % 256))) = ((k + bitLen x : Nat) : Int) := by
  have e : (x : Int) % 256 = (x : Int) := by omega
  have e2 : Lib.len8 (x : Int) = ((bitLen x : Nat) : Int) := Bt.len8_all ⟨x, h⟩
  have h8 := bitLen_le8 x h
  have e3 : wrap64 ((bitLen x : Nat) : Int) = ((bitLen x : Nat) : Int) := IntWalk.wrap64_in _ (by omega)
  rw [e, e2, e3, IntWalk.wrap64_in _ (by omega)]
  simp
theorem Bt.len_end0 (x : Nat) (h : x < 256) : wrap64 (wrap64 (Lib.len8 ((x : Int) % 256))) = ((bitLen x : Nat) : Int) := by
  have := Bt.len_end 0 x (by decide) h
  simpa using this
set_option maxHeartbeats 2000000 in
set_option maxRecDepth 100000 in
theorem Bt.len64_c (n : Nat) (hn : n < 18446744073709551616) (w : World) :
    Calls Tryz.prog 174 #[.int .u64 n] w fun e w' => e = .returned (.int .i64 (bitLen n : Nat)) ∧ w' = w := by
  have H := Lib.hid hn
  clear hn
  by_cases h1 : (4294967296 : Int) ≤ (n : Int)
  · obtain ⟨x1, e1⟩ : ∃ x, x = n / 4294967296 := ⟨_, rfl⟩
    have q1 : (n : Int) / 4294967296 = (x1 : Int) := by omega
    have g1 : 1 ≤ x1 ∧ x1 < 4294967296 := by have := H.out; omega
    by_cases h2 : (65536 : Int) ≤ (x1 : Int)
    · obtain ⟨x2, e2⟩ : ∃ x, x = x1 / 65536 := ⟨_, rfl⟩
      have q2 : (x1 : Int) / 65536 = (x2 : Int) := by omega
      have g2 : 1 ≤ x2 ∧ x2 < 65536 := by have := H.out; omega
      by_cases h3 : (256 : Int) ≤ (x2 : Int)
      · obtain ⟨x3, e3⟩ : ∃ x, x = x2 / 256 := ⟨_, rfl⟩
        have q3 : (x2 : Int) / 256 = (x3 : Int) := by omega
        have g3 : 1 ≤ x3 ∧ x3 < 256 := by have := H.out; omega
        have hx8 : x3 < 256 := by omega
        have HB : Hid (bitLen n = 56 + bitLen x3) := Lib.hid (by have := H.out; have e : x3 = n / 2 ^ 56 := (by omega); rw [e]; exact bitLen_shift n 56 (by rw [← e]; omega))
        have HX := Lib.hid hx8
        clear hx8 g1 g2 g3 e1 e2 e3
        go_enter Tryz.func174, Tryz.ntmps174
        go_wp2
        go_ret
        exact ⟨Bt.reti (by rw [HB.out]; exact Bt.len_end 56 _ (by decide) HX.out), rfl⟩
      · have b3 : decide ((256 : Int) ≤ (x2 : Int)) = false := decide_eq_false h3
        have f3 : x2 < 256 := by omega
        clear h3
        have hx8 : x2 < 256 := by omega
        have HB : Hid (bitLen n = 48 + bitLen x2) := Lib.hid (by have := H.out; have e : x2 = n / 2 ^ 48 := (by omega); rw [e]; exact bitLen_shift n 48 (by rw [← e]; omega))
        have HX := Lib.hid hx8
        clear hx8 f3 g1 g2 e1 e2
        go_enter Tryz.func174, Tryz.ntmps174
        go_wp2
        go_ret
        exact ⟨Bt.reti (by rw [HB.out]; exact Bt.len_end 48 _ (by decide) HX.out), rfl⟩
    · have b2 : decide ((65536 : Int) ≤ (x1 : Int)) = false := decide_eq_false h2
      have f2 : x1 < 65536 := by omega
      clear h2
      by_cases h3 : (256 : Int) ≤ (x1 : Int)
      · obtain ⟨x3, e3⟩ : ∃ x, x = x1 / 256 := ⟨_, rfl⟩
        have q3 : (x1 : Int) / 256 = (x3 : Int) := by omega
        have g3 : 1 ≤ x3 ∧ x3 < 256 := by have := H.out; omega
        have hx8 : x3 < 256 := by omega
        have HB : Hid (bitLen n = 40 + bitLen x3) := Lib.hid (by have := H.out; have e : x3 = n / 2 ^ 40 := (by omega); rw [e]; exact bitLen_shift n 40 (by rw [← e]; omega))
        have HX := Lib.hid hx8
        clear hx8 f2 g1 g3 e1 e3
        go_enter Tryz.func174, Tryz.ntmps174
        go_wp2
        go_ret
        exact ⟨Bt.reti (by rw [HB.out]; exact Bt.len_end 40 _ (by decide) HX.out), rfl⟩
      · have b3 : decide ((256 : Int) ≤ (x1 : Int)) = false := decide_eq_false h3
        have f3 : x1 < 256 := by omega
        clear h3
        have hx8 : x1 < 256 := by omega
        have HB : Hid (bitLen n = 32 + bitLen x1) := Lib.hid (by have := H.out; have e : x1 = n / 2 ^ 32 := (by omega); rw [e]; exact bitLen_shift n 32 (by rw [← e]; omega))
        have HX := Lib.hid hx8
        clear hx8 f2 f3 g1 e1
        go_enter Tryz.func174, Tryz.ntmps174
        go_wp2
        go_ret
        exact ⟨Bt.reti (by rw [HB.out]; exact Bt.len_end 32 _ (by decide) HX.out), rfl⟩
  · have b1 : decide ((4294967296 : Int) ≤ (n : Int)) = false := decide_eq_false h1
    have f1 : n < 4294967296 := by omega
    clear h1
    by_cases h2 : (65536 : Int) ≤ (n : Int)
    · obtain ⟨x2, e2⟩ : ∃ x, x = n / 65536 := ⟨_, rfl⟩
      have q2 : (n : Int) / 65536 = (x2 : Int) := by omega
      have g2 : 1 ≤ x2 ∧ x2 < 65536 := by have := H.out; omega
      by_cases h3 : (256 : Int) ≤ (x2 : Int)
      · obtain ⟨x3, e3⟩ : ∃ x, x = x2 / 256 := ⟨_, rfl⟩
        have q3 : (x2 : Int) / 256 = (x3 : Int) := by omega
        have g3 : 1 ≤ x3 ∧ x3 < 256 := by have := H.out; omega
        have hx8 : x3 < 256 := by omega
        have HB : Hid (bitLen n = 24 + bitLen x3) := Lib.hid (by have := H.out; have e : x3 = n / 2 ^ 24 := (by omega); rw [e]; exact bitLen_shift n 24 (by rw [← e]; omega))
        have HX := Lib.hid hx8
        clear hx8 f1 g2 g3 e2 e3
        go_enter Tryz.func174, Tryz.ntmps174
        go_wp2
        go_ret
        exact ⟨Bt.reti (by rw [HB.out]; exact Bt.len_end 24 _ (by decide) HX.out), rfl⟩
      · have b3 : decide ((256 : Int) ≤ (x2 : Int)) = false := decide_eq_false h3
        have f3 : x2 < 256 := by omega
        clear h3
        have hx8 : x2 < 256 := by omega
        have HB : Hid (bitLen n = 16 + bitLen x2) := Lib.hid (by have := H.out; have e : x2 = n / 2 ^ 16 := (by omega); rw [e]; exact bitLen_shift n 16 (by rw [← e]; omega))
        have HX := Lib.hid hx8
        clear hx8 f1 f3 g2 e2
        go_enter Tryz.func174, Tryz.ntmps174
        go_wp2
        go_ret
        exact ⟨Bt.reti (by rw [HB.out]; exact Bt.len_end 16 _ (by decide) HX.out), rfl⟩
    · have b2 : decide ((65536 : Int) ≤ (n : Int)) = false := decide_eq_false h2
      have f2 : n < 65536 := by omega
      clear h2
      by_cases h3 : (256 : Int) ≤ (n : Int)
      · obtain ⟨x3, e3⟩ : ∃ x, x = n / 256 := ⟨_, rfl⟩
        have q3 : (n : Int) / 256 = (x3 : Int) := by omega
        have g3 : 1 ≤ x3 ∧ x3 < 256 := by have := H.out; omega
        have hx8 : x3 < 256 := by omega
        have HB : Hid (bitLen n = 8 + bitLen x3) := Lib.hid (by have := H.out; have e : x3 = n / 2 ^ 8 := (by omega); rw [e]; exact bitLen_shift n 8 (by rw [← e]; omega))
        have HX := Lib.hid hx8
        clear hx8 f1 f2 g3 e3
        go_enter Tryz.func174, Tryz.ntmps174
        go_wp2
        go_ret
        exact ⟨Bt.reti (by rw [HB.out]; exact Bt.len_end 8 _ (by decide) HX.out), rfl⟩
      · have b3 : decide ((256 : Int) ≤ (n : Int)) = false := decide_eq_false h3
        have f3 : n < 256 := by omega
        clear h3
        have hx8 : n < 256 := by omega
        have HB : Hid (bitLen n = bitLen n) := Lib.hid rfl
        have HX := Lib.hid hx8
        clear hx8 f1 f2 f3
        go_enter Tryz.func174, Tryz.ntmps174
        go_wp2
        go_ret
        exact ⟨Bt.reti (Bt.len_end0 _ HX.out), rfl⟩
end Go.Proofs.YtfbjmehkipcmbaaGreatDoor
