import Derived.Test.YtbelkhkllneifaaGreatDoorWEAD
import Derived.Deep.DeepCutAuto
import Derived.Deep.QuietTactic
import Derived.BigQuiet
import Derived.WalkSmall
import Derived.Test.YtbelkhkllneifaaGreatDoorRows
import Derived.Test.YtbelkhkllneifaaGreatDoorWEAB
import Derived.WalkKit
import Derived.WalkSpells
import Derived.WalkLawsBesides
import Derived.Deep.OwnRows
import Derived.Below
import Derived.Lib.Hide
import Derived.StillTailTactics
import Derived.Lib.BitFns
import Derived.Test.YtbelkhkllneifaaGreatDoorWEAC
namespace Go.Proofs.YtbelkhkllneifaaGreatDoor
section
open Go.RowKit
theorem Ty.Cur.drew {b : Nat} {w : World} {l : List UInt8} {e : Nat} (h : Ty.Cur b w l e) : Ty.Cur b w.drew l e := h
theorem Ty.Cur.drewN {b : Nat} {w : World} {l : List UInt8} {e : Nat} (h : Ty.Cur b w l e) (n : Nat) : Ty.Cur b (w.drewN n) l e := h
theorem Ty.Tabs.drewN {w : World} (h : Ty.Tabs w) (n : Nat) : Ty.Tabs (w.drewN n) := h.kept (Nat.le_refl _) fun _ _ => rfl
theorem Ty.txt_len (l : List UInt8) (m : Int) : (Ty.txt l m).1.length ≤ l.length := by
 unfold Ty.txt
 repeat' split
 all_goals simp
 all_goals omega
end
section
open Go.RowKit
end
section
open Go.RowKit
end
section
open Go.RowKit
theorem Ty.by_some {w w' : World} (h : w.grownBy w' none) (r : Nat) : w.grownBy w' (some r) := ⟨h.os, h.tape, h.output, h.size, fun k hk _ => h.block k hk (by intro e; cases e)⟩
end
section
open Go.RowKit
def Bt.Row (w : World) (g sz : Nat) (F : Nat → Bool) : Prop := w.rowIs g 5 sz (fun i => .int .u8 ((Bt.oct F i : Nat) : Int))
set_option maxRecDepth 100000 in
theorem Bt.Row.string {w : World} {g sz c : Nat} {F : Nat → Bool} (h : Bt.Row w g sz F) : (convert 118 9 (.slice (some ⟨g, 0, none⟩) sz c)).run Tryz.prog w = .ok (.string (Bt.bytes sz F)) w := by
 have := run_convert_bytes_arg (P := Tryz.prog) w 118 _ Tryz.underlying118 Tryz.underlying5 g 0 sz c ((List.range sz).map fun i => ((Bt.oct F i : Nat) : Int)) (by simp) (fun i hi => by
  have hc := h.cell hi
  have ea : (⟨g, 0 + i, none⟩ : Addr) = ⟨g, i, none⟩ := by rw [Nat.zero_add]
  rw [ea, hc]
  simp [List.getD, hi]) 9 Tryz.underlying9
 rw [this]
 have e : strOfNums ((List.range sz).map fun i => ((Bt.oct F i : Nat) : Int)) = Bt.bytes sz F := by
  unfold strOfNums Bt.bytes
  congr 1
  rw [List.map_map]
  rfl
 rw [e]
theorem Bt.by_refl (w : World) (r : Option Nat) : w.grownBy w r := ⟨rfl, rfl, rfl, Nat.le_refl _, fun _ _ _ => rfl⟩
theorem Bt.by_trans {a b c : World} {r : Option Nat} (h : a.grownBy b r) (k : b.grownBy c r) : a.grownBy c r :=
 ⟨k.os.trans h.os, k.tape.trans h.tape, k.output.trans h.output, Nat.le_trans h.size k.size, fun i hi hn => (k.block i (Nat.lt_of_lt_of_le hi h.size) hn).trans (h.block i hi hn)⟩
theorem Bt.by_set (w : World) (b o : Nat) (u : Value) : w.grownBy (w.setCell ⟨b, o, none⟩ u) (some b) :=
 ⟨rfl, rfl, rfl, by simp [World.setCell], fun k _ hk => Below.heap_setCell _ _ _ _ (fun e => hk (by rw [e]))⟩
set_option maxHeartbeats 400000 in
theorem Bt.size_c (n : Nat) (hn : n ≤ 4611686018427387904) (w : World) :
 Calls Tryz.prog 122 #[.int .i64 n] w fun e w' => e = .returned (.int .i64 (Bt.need n : Nat)) ∧ w' = w := by
 have he : ((Bt.need n : Nat) : Int) = ((n : Int) + 7) / 8 := by unfold Bt.need; omega
 rw [he]
 go_enter Tryz.func122, Tryz.ntmps122
 go_wp2
 go_ret
 exact ⟨rfl, rfl⟩
set_option maxHeartbeats 400000 in
theorem Bt.rightCount_c (n : Int) (w : World) :
 Calls Tryz.prog 166 #[.int .i64 n] w fun e w' => e = .returned (.bool (decide (0 ≤ n ∧ n ≤ 65536))) ∧ w' = w := by
 by_cases h1 : 0 ≤ n
 ·by_cases h2 : n ≤ 65536
  ·rw [decide_eq_true ⟨h1, h2⟩]
   go_enter Tryz.func166, Tryz.ntmps166
   go_wp2
   go_ret
   exact ⟨rfl, rfl⟩
  ·rw [decide_eq_false (by omega)]
   go_enter Tryz.func166, Tryz.ntmps166
   go_wp2
   go_ret
   exact ⟨rfl, rfl⟩
 ·rw [decide_eq_false (by omega)]
  go_enter Tryz.func166, Tryz.ntmps166
  go_wp2
  go_ret
  exact ⟨rfl, rfl⟩
set_option maxHeartbeats 400000 in
theorem Bt.rightWidth_c (n : Int) (w : World) :
 Calls Tryz.prog 223 #[.int .i64 n] w fun e w' => e = .returned (.bool (decide (0 ≤ n ∧ n ≤ 64))) ∧ w' = w := by
 by_cases h1 : 0 ≤ n
 ·by_cases h2 : n ≤ 64
  ·rw [decide_eq_true ⟨h1, h2⟩]
   go_enter Tryz.func223, Tryz.ntmps223
   go_wp2
   go_ret
   exact ⟨rfl, rfl⟩
  ·rw [decide_eq_false (by omega)]
   go_enter Tryz.func223, Tryz.ntmps223
   go_wp2
   go_ret
   exact ⟨rfl, rfl⟩
 ·rw [decide_eq_false (by omega)]
  go_enter Tryz.func223, Tryz.ntmps223
  go_wp2
  go_ret
  exact ⟨rfl, rfl⟩
def Bt.Put (g sz : Nat) (F : Nat → Bool) (w w' : World) : Prop := Bt.Row w' g sz F ∧ w.grownBy w' (some g)
theorem Bt.or_byte (G : Nat → Bool) (a m q r : Nat) (hq : q = a / 8) (hr : r = a % 8) :
 bits .or .u8 ((Bt.oct G q : Nat) : Int) (IntKind.u64.wrap ((m : Int) * 2 ^ r) % 256) = ((Bt.oct (Bt.laid G a m) q : Nat) : Int) := by
 subst hq hr
 have e : IntKind.u64.wrap ((m : Int) * 2 ^ (a % 8)) % 256 = ((m * 2 ^ (a % 8) % 256 : Nat) : Int) := by
  rw [IntKind.wrap_u64]
  have e1 : (m : Int) * 2 ^ (a % 8) = ((m * 2 ^ (a % 8) : Nat) : Int) := by simp
  rw [e1]
  omega
 rw [e, (bits_nat .u8 8 (by decide) wraps_u8 _ _ (Bt.oct_lt G (a / 8)) (Nat.mod_lt _ (by decide))).2, Bt.laid_here]
theorem Bt.Put.next {g sz a m q r : Nat} {G : Nat → Bool} {w wr : World} (h : Bt.Put g sz G w wr) (hq : q = a / 8) (hr : r = a % 8) :
 Bt.Put g sz (Bt.laid G a m) w (wr.setCell ⟨g, q, none⟩ (.int .u8 (bits .or .u8 ((Bt.oct G q : Nat) : Int) (IntKind.u64.wrap ((m : Int) * 2 ^ r) % 256)))).drew := by
 obtain ⟨hR, hB⟩ := h
 rw [Bt.or_byte G a m q r hq hr]
 refine ⟨World.rowIs.drew (World.rowIs.congr (World.rowIs.set hR q _) fun i _ => ?_), ?_⟩
 ·by_cases e : i = q
  ·subst e
   rw [if_pos rfl]
  ·rw [if_neg e, Bt.laid_far G a m i (by rw [← hq]; exact e)]
 ·have h2 := Bt.by_trans hB (Bt.by_set wr g q (.int .u8 ((Bt.oct (Bt.laid G a m) q : Nat) : Int)))
  exact ⟨h2.os, h2.tape, h2.output, h2.size, h2.block⟩
set_option maxHeartbeats 1000000 in
set_option maxRecDepth 100000 in
theorem Bt.put_c (g sz c : Nat) (F : Nat → Bool) (p n : Nat) (w : World) (h : Bt.Row w g sz F) (hn : n < 2 ^ (8 * sz - p)) (h64 : n < 18446744073709551616) (hp : p ≤ 9007199254740992) (hsz : 8 * sz ≤ 9007199254740992) :
 Calls Tryz.prog 123 #[.slice (some ⟨g, 0, none⟩) sz c, .int .i64 p, .int .u64 n] w fun e w' => e = .returned (.tuple #[]) ∧ Bt.Put g sz (Bt.putF F p n) w w' := by
 go_enter Tryz.func123, Tryz.ntmps123
 go_wp2
 go_loopw [1, 2] (fun i v wr => ∃ a m : Nat, i = .int .i64 a ∧ v = .int .u64 m ∧ m < 18446744073709551616 ∧ a ≤ 9007199254741000 ∧ m < 2 ^ (8 * sz - a) ∧ ∃ G, Bt.putF F p n = Bt.putF G a m ∧ Bt.Put g sz G w wr) (fun _ v _ => (intOf v).toNat)
 case atStart => exact ⟨p, n, rfl, rfl, h64, by omega, hn, F, rfl, h, Bt.by_refl _ _⟩
 case round =>
  obtain ⟨a, m, rfl, rfl, hm, ha, hml, G, hG, hR, hB⟩ := hrel
  have HG := Lib.hid hG
  have HL := Lib.hid hml
  clear hG hml hn h
  by_cases h0 : m = 0
  ·subst h0
   go_wp2
   go_end0
   exact ⟨rfl, by rw [HG.out, Bt.putF_zero]; exact hR, hB⟩
  ·have hpos : (m : Int) > 0 := by omega
   have hroom := Bt.put_room HL.out (by omega)
   obtain ⟨q, eq⟩ : ∃ q, q = a / 8 := ⟨_, rfl⟩
   obtain ⟨r, er⟩ : ∃ r, r = a % 8 := ⟨_, rfl⟩
   have hi : q < sz := by omega
   have hc := hR.cell hi
   have hf := hR.frozen q
   have hiz : (q : Int) < (sz : Int) := by omega
   have hiz0 : (0 : Int) ≤ (q : Int) := by omega
   have hq : (a : Int) / 8 = (q : Int) := by omega
   have hr : (a : Int) % 8 = (r : Int) := by omega
   have hr8 : r < 8 := by omega
   have hwq : IntKind.i64.wrap (q : Int) = (q : Int) := by rw [IntKind.wrap_i64]; omega
   have HE := Lib.hid (And.intro eq er)
   clear eq er
   go_wp2_with fail
   refine wp_region_still_tail 11 (by kernel_rfl) (by kernel_rfl) ?_
   simp only [List.take_succ_cons, List.take_zero, List.drop_succ_cons, List.drop_zero]
   change wpStill _ _ (World.drew _) (fun a' => wpList _ _ _ _ a' (World.drew _)) _ _
   still_step
   still_step
   still_step
   still_step
   still_step
   still_step
   still_step
   still_step
   still_step
   still_step
   still_step
   refine wpStill_nil ?_
   go_wp2
   obtain ⟨eq, er⟩ := HE.out
   go_roundw
   case rel =>
    refine ⟨a + (8 - r), m / 2 ^ (8 - r), ?_, ?_, ?_, ?_, ?_, Bt.laid G a m, ?_, ?_⟩
    ·congr 1; omega
    ·congr 1
    ·exact Nat.lt_of_le_of_lt (Nat.div_le_self _ _) hm
    ·omega
    ·rw [er]; exact Bt.put_less HL.out (by omega)
    ·rw [HG.out, er]; funext x; exact Bt.putF_next G a m x
    ·exact Bt.Put.next ⟨hR, hB⟩ eq er
   case measure =>
    have := Bt.put_down (n := m) (k := a) (by omega)
    rw [← er] at this
    have e : ((m : Int) / 2 ^ (8 - r)) = ((m / 2 ^ (8 - r) : Nat) : Int) := by simp
    simp only [intOf]
    rw [e]
    omega
end
section
open Go.RowKit
theorem Bt.wraps_u64 (n : Int) (h₀ : 0 ≤ n) (h₁ : n < 2 ^ 64) : IntKind.u64.wrap n = n := by rw [IntKind.wrap_u64]; omega
theorem Bt.or64 (m b r k : Nat) (hm : m < 2 ^ 64) (hb : b < 256) :
 bits .or .u64 (m : Int) (IntKind.u64.wrap (IntKind.u64.wrap ((b : Int) / 2 ^ r) * 2 ^ k)) = ((m ||| (b / 2 ^ r * 2 ^ k % 2 ^ 64) : Nat) : Int) := by
 have e1 : (b : Int) / 2 ^ r = ((b / 2 ^ r : Nat) : Int) := by simp
 have hx : b / 2 ^ r < 256 := Nat.lt_of_le_of_lt (Nat.div_le_self _ _) hb
 rw [e1, Bt.wraps_u64 ((b / 2 ^ r : Nat) : Int) (Int.natCast_nonneg _) (Int.lt_trans (Int.ofNat_lt.2 hx) (by decide))]
 have e2 : ((b / 2 ^ r : Nat) : Int) * 2 ^ k = ((b / 2 ^ r * 2 ^ k : Nat) : Int) := by simp
 rw [e2, IntKind.wrap_u64]
 have e3 : ((b / 2 ^ r * 2 ^ k : Nat) : Int) % 18446744073709551616 = ((b / 2 ^ r * 2 ^ k % 2 ^ 64 : Nat) : Int) := by omega
 rw [e3, (bits_nat .u64 64 (by decide) Bt.wraps_u64 _ _ hm (Nat.mod_lt _ (Nat.two_pow_pos _))).2]
theorem Bt.and64 (m n : Nat) (hm : m < 2 ^ 64) (hn : n ≤ 64) :
 bits .and .u64 (m : Int) (IntKind.u64.wrap (IntKind.u64.wrap (2 ^ n) - 1)) = ((m &&& (2 ^ n - 1) : Nat) : Int) := by
 have h1 : 2 ^ n - 1 < 2 ^ 64 := Nat.lt_of_lt_of_le (Nat.sub_lt (Nat.two_pow_pos _) (by decide)) (Nat.pow_le_pow_right (by decide) hn)
 have e : IntKind.u64.wrap (IntKind.u64.wrap (2 ^ n) - 1) = ((2 ^ n - 1 : Nat) : Int) := by
  have hp := Nat.two_pow_pos n
  have e0 : (2 : Int) ^ n = ((2 ^ n : Nat) : Int) := by simp
  rw [e0]
  by_cases h : n = 64
  ·subst h
   rw [IntKind.wrap_u64, IntKind.wrap_u64]
   decide
  ·have h2 : 2 ^ n ≤ 2 ^ 63 := Nat.pow_le_pow_right (by decide) (by omega)
   have e1 : IntKind.u64.wrap ((2 ^ n : Nat) : Int) = ((2 ^ n : Nat) : Int) := Bt.wraps_u64 _ (by omega) (by omega)
   rw [e1, Bt.wraps_u64 _ (by omega) (by omega)]
   omega
 rw [e, (bits_nat .u64 64 (by decide) Bt.wraps_u64 _ _ hm h1).1]
theorem Bt.reti {k : IntKind} {x y : Int} (h : x = y) : Ending.returned (.int k x) = Ending.returned (.int k y) := by rw [h]
set_option maxHeartbeats 1000000 in
theorem Bt.get_c (s : ByteArray) (p n : Nat) (w : World) (hn : n ≤ 64) (hs : p + n ≤ 8 * s.size) (hp : p ≤ 9007199254740992) :
 Calls Tryz.prog 168 #[.string s, .int .i64 p, .int .i64 n] w fun e w' => e = .returned (.int .u64 (Bt.num n (fun j => Bt.bit s (p + j)) : Nat)) ∧ w' = w := by
 go_enter Tryz.func168, Tryz.ntmps168
 go_wp2
 go_loop [7, 8] (fun v d => ∃ m k : Nat, v = .int .u64 m ∧ d = .int .i64 k ∧ k ≤ 72 ∧ Bt.Got s p k m) (fun _ d => 72 - (intOf d).toNat)
 case atStart => exact ⟨0, 0, rfl, rfl, by omega, Bt.Got.zero s p⟩
 case round =>
  obtain ⟨m, k, rfl, rfl, hk, hG⟩ := hrel
  have HG := Lib.hid hG
  clear hG
  by_cases hl : k < n
  ·obtain ⟨q, eq⟩ : ∃ q, q = (p + k) / 8 := ⟨_, rfl⟩
   obtain ⟨r, er⟩ : ∃ r, r = (p + k) % 8 := ⟨_, rfl⟩
   have hi : q < s.size := by omega
   have hq : ((p : Int) + (k : Int)) / 8 = (q : Int) := by omega
   have hr : ((p : Int) + (k : Int)) % 8 = (r : Int) := by omega
   have hr8 : r < 8 := by omega
   have HE := Lib.hid (And.intro eq er)
   have HS := Lib.hid hs
   clear eq er hs
   go_wp2
   obtain ⟨eq, er⟩ := HE.out
   go_round
   case rel =>
    have h1 := HG.out.next (by rw [← eq]; exact hi)
    have hb := s[q].toNat_lt
    refine ⟨m ||| (s[q].toNat / 2 ^ r * 2 ^ k % 2 ^ 64), k + (8 - r), ?_, ?_, by omega, ?_⟩
    ·rw [Bt.or64 m _ r k HG.out.1 hb]
    ·congr 1; omega
    ·subst eq er
     exact h1
   case measure => simp [intOf]; omega
  ·go_wp2
   go_ret
   exact ⟨Bt.reti (by rw [Bt.and64 m n HG.out.1 hn, HG.out.last (by omega) hn]), rfl⟩
set_option maxHeartbeats 1000000 in
theorem Bt.check_c (s : ByteArray) (n : Nat) (w : World) (hn : n ≤ 9007199254740992) (hs : s.size ≤ 9007199254740992) :
 Calls Tryz.prog 167 #[.string s, .int .i64 n] w fun e w' => e = .returned (.int .i64 (Bt.chk s n : Nat)) ∧ w' = w := by
 generalize hC : Bt.chk s n = C
 have HC := Lib.hid hC
 have HN : Hid (Bt.need n ≤ 9007199254740992) := Lib.hid (by unfold Bt.need; omega)
 have c1 := fun w => Bt.size_c n (by omega) w
 obtain ⟨d, ed⟩ : ∃ d, d = Bt.need n := ⟨_, rfl⟩
 rw [← ed] at c1 HN
 have ED := Lib.hid ed
 clear hC ed
 by_cases h1 : s.size < d
 ·have e : C = 2 := by rw [← HC.out, Bt.chk, ← ED.out, if_pos h1]
  subst e
  go_enter Tryz.func167, Tryz.ntmps167
  go_wp2_with fail
  refine (c1 _).mono ?_
  rintro e w' ⟨rfl, rfl⟩
  go_wp2
  go_ret
  exact ⟨rfl, rfl⟩
 ·by_cases h2 : d < s.size
  ·have e : C = 3 := by rw [← HC.out, Bt.chk, ← ED.out, if_neg h1, if_pos h2]
   subst e
   go_enter Tryz.func167, Tryz.ntmps167
   go_wp2_with fail
   refine (c1 _).mono ?_
   rintro e w' ⟨rfl, rfl⟩
   go_wp2_with fail
   refine (c1 _).mono ?_
   rintro e w' ⟨rfl, rfl⟩
   go_wp2
   go_ret
   exact ⟨rfl, rfl⟩
  ·obtain ⟨r, er⟩ : ∃ r, r = n % 8 := ⟨_, rfl⟩
   have hr : (n : Int) % 8 = (r : Int) := by omega
   have ER := Lib.hid er
   clear er
   by_cases h3 : 0 < r
   ·obtain ⟨q, eq⟩ : ∃ q, q = s.size - 1 := ⟨_, rfl⟩
    have hsz : s.size = Bt.need n := by have := ED.out; omega
    have hpos : 0 < s.size := by rw [hsz]; unfold Bt.need; have := ER.out; omega
    have hi : q < s.size := by omega
    have hq : (s.size : Int) - 1 = (q : Int) := by omega
    have HD : Hid (Bt.dirty s n = decide (s[q].toNat / 2 ^ r ≠ 0)) := Lib.hid (by
     subst eq
     rw [ER.out]
     exact Bt.dirty_last s n (by have := ER.out; omega) hsz hi)
    have h3i : (0 : Int) < (r : Int) := by omega
    clear hsz hpos eq
    by_cases h4 : s[q].toNat / 2 ^ r = 0
    ·have e : C = 0 := by rw [← HC.out, Bt.chk, ← ED.out, if_neg h1, if_neg h2, HD.out, h4]; rfl
     subst e
     have hb : ((s[q].toNat : Int) / 2 ^ r != 0) = false := by
      rw [bne_eq_false_iff_eq]
      have e : (s[q].toNat : Int) / 2 ^ r = ((s[q].toNat / 2 ^ r : Nat) : Int) := by simp
      rw [e, h4]; rfl
     go_enter Tryz.func167, Tryz.ntmps167
     go_wp2_with fail
     refine (c1 _).mono ?_
     rintro e w' ⟨rfl, rfl⟩
     go_wp2_with fail
     refine (c1 _).mono ?_
     rintro e w' ⟨rfl, rfl⟩
     go_wp2
     go_ret
     exact ⟨rfl, rfl⟩
    ·have e : C = 5 := by rw [← HC.out, Bt.chk, ← ED.out, if_neg h1, if_neg h2, HD.out, decide_eq_true h4]; rfl
     subst e
     have hb : ((s[q].toNat : Int) / 2 ^ r != 0) = true := by
      rw [bne_iff_ne]
      have e : (s[q].toNat : Int) / 2 ^ r = ((s[q].toNat / 2 ^ r : Nat) : Int) := by simp
      rw [e]; omega
     clear h4
     go_enter Tryz.func167, Tryz.ntmps167
     go_wp2_with fail
     refine (c1 _).mono ?_
     rintro e w' ⟨rfl, rfl⟩
     go_wp2_with fail
     refine (c1 _).mono ?_
     rintro e w' ⟨rfl, rfl⟩
     go_wp2
     go_ret
     exact ⟨rfl, rfl⟩
   ·have e : C = 0 := by rw [← HC.out, Bt.chk, ← ED.out, if_neg h1, if_neg h2, Bt.dirty_none s n (by have := ER.out; omega)]; rfl
    subst e
    go_enter Tryz.func167, Tryz.ntmps167
    go_wp2_with fail
    refine (c1 _).mono ?_
    rintro e w' ⟨rfl, rfl⟩
    go_wp2_with fail
    refine (c1 _).mono ?_
    rintro e w' ⟨rfl, rfl⟩
    go_wp2
    go_ret
    exact ⟨rfl, rfl⟩
theorem Bt.len8_all : ∀ x : Fin 256, Lib.len8 ((x.val : Nat) : Int) = ((bitLen x.val : Nat) : Int) := by decide +kernel
theorem Bt.len_end (k x : Nat) (hk : k ≤ 56) (h : x < 256) : wrap64 ((k : Int) + wrap64 (Lib.len8 ((x : Int) % 256))) = ((k + bitLen x : Nat) : Int) := by
 have e : (x : Int) % 256 = (x : Int) := by omega
 have e2 : Lib.len8 (x : Int) = ((bitLen x : Nat) : Int) := Bt.len8_all ⟨x, h⟩
 have h8 := bitLen_le8 x h
 have e3 : wrap64 ((bitLen x : Nat) : Int) = ((bitLen x : Nat) : Int) := IntWalk.wrap64_in _ (by omega)
 rw [e, e2, e3, IntWalk.wrap64_in _ (by omega)]
 simp
theorem Bt.len_end0 (x : Nat) (h : x < 256) : wrap64 (wrap64 (Lib.len8 ((x : Int) % 256))) = ((bitLen x : Nat) : Int) := by
 have := Bt.len_end 0 x (by decide) h
 simpa using this
set_option maxHeartbeats 2000000 in
set_option maxRecDepth 100000 in
theorem Bt.len64_c (n : Nat) (hn : n < 18446744073709551616) (w : World) :
 Calls Tryz.prog 222 #[.int .u64 n] w fun e w' => e = .returned (.int .i64 (bitLen n : Nat)) ∧ w' = w := by
 have H := Lib.hid hn
 clear hn
 by_cases h1 : (4294967296 : Int) ≤ (n : Int)
 ·obtain ⟨x1, e1⟩ : ∃ x, x = n / 4294967296 := ⟨_, rfl⟩
  have q1 : (n : Int) / 4294967296 = (x1 : Int) := by omega
  have g1 : 1 ≤ x1 ∧ x1 < 4294967296 := by have := H.out; omega
  by_cases h2 : (65536 : Int) ≤ (x1 : Int)
  ·obtain ⟨x2, e2⟩ : ∃ x, x = x1 / 65536 := ⟨_, rfl⟩
   have q2 : (x1 : Int) / 65536 = (x2 : Int) := by omega
   have g2 : 1 ≤ x2 ∧ x2 < 65536 := by have := H.out; omega
   by_cases h3 : (256 : Int) ≤ (x2 : Int)
   ·obtain ⟨x3, e3⟩ : ∃ x, x = x2 / 256 := ⟨_, rfl⟩
    have q3 : (x2 : Int) / 256 = (x3 : Int) := by omega
    have g3 : 1 ≤ x3 ∧ x3 < 256 := by have := H.out; omega
    have hx8 : x3 < 256 := by omega
    have HB : Hid (bitLen n = 56 + bitLen x3) := Lib.hid (by have := H.out; have e : x3 = n / 2 ^ 56 := (by omega); rw [e]; exact bitLen_shift n 56 (by rw [← e]; omega))
    have HX := Lib.hid hx8
    clear hx8 g1 g2 g3 e1 e2 e3
    go_enter Tryz.func222, Tryz.ntmps222
    go_wp2
    go_ret
    exact ⟨Bt.reti (by rw [HB.out]; exact Bt.len_end 56 _ (by decide) HX.out), rfl⟩
   ·have b3 : decide ((256 : Int) ≤ (x2 : Int)) = false := decide_eq_false h3
    have f3 : x2 < 256 := by omega
    clear h3
    have hx8 : x2 < 256 := by omega
    have HB : Hid (bitLen n = 48 + bitLen x2) := Lib.hid (by have := H.out; have e : x2 = n / 2 ^ 48 := (by omega); rw [e]; exact bitLen_shift n 48 (by rw [← e]; omega))
    have HX := Lib.hid hx8
    clear hx8 f3 g1 g2 e1 e2
    go_enter Tryz.func222, Tryz.ntmps222
    go_wp2
    go_ret
    exact ⟨Bt.reti (by rw [HB.out]; exact Bt.len_end 48 _ (by decide) HX.out), rfl⟩
  ·have b2 : decide ((65536 : Int) ≤ (x1 : Int)) = false := decide_eq_false h2
   have f2 : x1 < 65536 := by omega
   clear h2
   by_cases h3 : (256 : Int) ≤ (x1 : Int)
   ·obtain ⟨x3, e3⟩ : ∃ x, x = x1 / 256 := ⟨_, rfl⟩
    have q3 : (x1 : Int) / 256 = (x3 : Int) := by omega
    have g3 : 1 ≤ x3 ∧ x3 < 256 := by have := H.out; omega
    have hx8 : x3 < 256 := by omega
    have HB : Hid (bitLen n = 40 + bitLen x3) := Lib.hid (by have := H.out; have e : x3 = n / 2 ^ 40 := (by omega); rw [e]; exact bitLen_shift n 40 (by rw [← e]; omega))
    have HX := Lib.hid hx8
    clear hx8 f2 g1 g3 e1 e3
    go_enter Tryz.func222, Tryz.ntmps222
    go_wp2
    go_ret
    exact ⟨Bt.reti (by rw [HB.out]; exact Bt.len_end 40 _ (by decide) HX.out), rfl⟩
   ·have b3 : decide ((256 : Int) ≤ (x1 : Int)) = false := decide_eq_false h3
    have f3 : x1 < 256 := by omega
    clear h3
    have hx8 : x1 < 256 := by omega
    have HB : Hid (bitLen n = 32 + bitLen x1) := Lib.hid (by have := H.out; have e : x1 = n / 2 ^ 32 := (by omega); rw [e]; exact bitLen_shift n 32 (by rw [← e]; omega))
    have HX := Lib.hid hx8
    clear hx8 f2 f3 g1 e1
    go_enter Tryz.func222, Tryz.ntmps222
    go_wp2
    go_ret
    exact ⟨Bt.reti (by rw [HB.out]; exact Bt.len_end 32 _ (by decide) HX.out), rfl⟩
 ·have b1 : decide ((4294967296 : Int) ≤ (n : Int)) = false := decide_eq_false h1
  have f1 : n < 4294967296 := by omega
  clear h1
  by_cases h2 : (65536 : Int) ≤ (n : Int)
  ·obtain ⟨x2, e2⟩ : ∃ x, x = n / 65536 := ⟨_, rfl⟩
   have q2 : (n : Int) / 65536 = (x2 : Int) := by omega
   have g2 : 1 ≤ x2 ∧ x2 < 65536 := by have := H.out; omega
   by_cases h3 : (256 : Int) ≤ (x2 : Int)
   ·obtain ⟨x3, e3⟩ : ∃ x, x = x2 / 256 := ⟨_, rfl⟩
    have q3 : (x2 : Int) / 256 = (x3 : Int) := by omega
    have g3 : 1 ≤ x3 ∧ x3 < 256 := by have := H.out; omega
    have hx8 : x3 < 256 := by omega
    have HB : Hid (bitLen n = 24 + bitLen x3) := Lib.hid (by have := H.out; have e : x3 = n / 2 ^ 24 := (by omega); rw [e]; exact bitLen_shift n 24 (by rw [← e]; omega))
    have HX := Lib.hid hx8
    clear hx8 f1 g2 g3 e2 e3
    go_enter Tryz.func222, Tryz.ntmps222
    go_wp2
    go_ret
    exact ⟨Bt.reti (by rw [HB.out]; exact Bt.len_end 24 _ (by decide) HX.out), rfl⟩
   ·have b3 : decide ((256 : Int) ≤ (x2 : Int)) = false := decide_eq_false h3
    have f3 : x2 < 256 := by omega
    clear h3
    have hx8 : x2 < 256 := by omega
    have HB : Hid (bitLen n = 16 + bitLen x2) := Lib.hid (by have := H.out; have e : x2 = n / 2 ^ 16 := (by omega); rw [e]; exact bitLen_shift n 16 (by rw [← e]; omega))
    have HX := Lib.hid hx8
    clear hx8 f1 f3 g2 e2
    go_enter Tryz.func222, Tryz.ntmps222
    go_wp2
    go_ret
    exact ⟨Bt.reti (by rw [HB.out]; exact Bt.len_end 16 _ (by decide) HX.out), rfl⟩
  ·have b2 : decide ((65536 : Int) ≤ (n : Int)) = false := decide_eq_false h2
   have f2 : n < 65536 := by omega
   clear h2
   by_cases h3 : (256 : Int) ≤ (n : Int)
   ·obtain ⟨x3, e3⟩ : ∃ x, x = n / 256 := ⟨_, rfl⟩
    have q3 : (n : Int) / 256 = (x3 : Int) := by omega
    have g3 : 1 ≤ x3 ∧ x3 < 256 := by have := H.out; omega
    have hx8 : x3 < 256 := by omega
    have HB : Hid (bitLen n = 8 + bitLen x3) := Lib.hid (by have := H.out; have e : x3 = n / 2 ^ 8 := (by omega); rw [e]; exact bitLen_shift n 8 (by rw [← e]; omega))
    have HX := Lib.hid hx8
    clear hx8 f1 f2 g3 e3
    go_enter Tryz.func222, Tryz.ntmps222
    go_wp2
    go_ret
    exact ⟨Bt.reti (by rw [HB.out]; exact Bt.len_end 8 _ (by decide) HX.out), rfl⟩
   ·have b3 : decide ((256 : Int) ≤ (n : Int)) = false := decide_eq_false h3
    have f3 : n < 256 := by omega
    clear h3
    have hx8 : n < 256 := by omega
    have HB : Hid (bitLen n = bitLen n) := Lib.hid rfl
    have HX := Lib.hid hx8
    clear hx8 f1 f2 f3
    go_enter Tryz.func222, Tryz.ntmps222
    go_wp2
    go_ret
    exact ⟨Bt.reti (Bt.len_end0 _ HX.out), rfl⟩
end
section
open Go.RowKit
structure Bt.Sl (w : World) (v : Value) (n : Nat) (f : Nat → Value) : Prop where
 is : ∃ a c, v = .slice a n c ∧ (n = 0 ∨ ∃ b o, a = some ⟨b, o, none⟩ ∧ b < w.heap.size ∧ ∀ i, i < n → w.cell? ⟨b, o + i, none⟩ = some (f i))
theorem Bt.Sl.later {w w' : World} {v : Value} {n : Nat} {f : Nat → Value} (h : Bt.Sl w v n f) (g : Below w.heap.size w w') : Bt.Sl w' v n f := by
 obtain ⟨a, c, rfl, h⟩ := h
 refine ⟨a, c, rfl, ?_⟩
 rcases h with h | ⟨b, o, rfl, hlt, h⟩
 ·exact .inl h
 ·exact .inr ⟨b, o, rfl, Nat.lt_of_lt_of_le hlt g.size, fun i hi => (g.cell (p := ⟨b, o + i, none⟩) hlt).trans (h i hi)⟩
def Bt.nv (X : Nat → Nat) (i : Nat) : Value := .int .u64 ((X i : Nat) : Int)
def Bt.bv (T : Nat → Bool) (i : Nat) : Value := .bool (T i)
theorem Bt.or_u64 (a b : Nat) (ha : a < 2 ^ 64) (hb : b < 2 ^ 64) : bits .or .u64 (a : Int) (b : Int) = ((a ||| b : Nat) : Int) := (bits_nat .u64 64 (by decide) Bt.wraps_u64 _ _ ha hb).2
set_option maxHeartbeats 1000000 in
theorem Bt.width_c (v : Value) (n : Nat) (X : Nat → Nat) (w : World) (h : Bt.Sl w v n (Bt.nv X)) (hX : ∀ i, X i < 2 ^ 64) (hn : n ≤ 140737488355328) :
 Calls Tryz.prog 212 #[v] w fun e w' => e = .returned (.int .i64 (Bt.wid n X : Nat)) ∧ w' = w := by
 obtain ⟨a, c, rfl, h⟩ := h
 have c1 := fun w => Bt.len64_c (Bt.orN n X) ((Bt.orN_lt n X 64).2 fun i _ => hX i) w
 have e1 : bitLen (Bt.orN n X) = Bt.wid n X := rfl
 rw [e1] at c1
 have HX := Lib.hid hX
 clear hX e1
 go_enter Tryz.func212, Tryz.ntmps212
 go_wp2
 go_loop [3, 8] (fun m i => ∃ k : Nat, k ≤ n ∧ i = .int .i64 k ∧ m = .int .u64 (Bt.orN k X : Nat)) (fun _ i => n - (intOf i).toNat)
 case atStart => exact ⟨0, by omega, rfl, rfl⟩
 case round =>
  obtain ⟨k, hk, rfl, rfl⟩ := hrel
  by_cases hl : k < n
  ·rcases h with h | ⟨b, o, rfl, hlt, h⟩
   ·omega
   ·have hc := h k hl
    unfold Bt.nv at hc
    have hkl : (k : Int) < (n : Int) := by omega
    have hk0 : (0 : Int) ≤ (k : Int) := by omega
    clear h
    go_wp2
    go_round
    case rel => exact ⟨k + 1, by omega, by simp, by rw [Bt.or_u64 _ _ ((Bt.orN_lt k X 64).2 fun i _ => HX.out i) (HX.out k)]; rfl⟩
    case measure => simp [intOf]; omega
  ·obtain rfl : k = n := by omega
   have hkl : ¬ (k : Int) < (k : Int) := by omega
   go_wp2_with fail
   refine (c1 _).mono ?_
   rintro e w' ⟨rfl, rfl⟩
   go_wp2
   go_ret
   exact ⟨rfl, rfl⟩
theorem Bt.oct_zero (i : Nat) : Bt.oct (fun _ => false) i = 0 := Bt.num_is (by decide) fun j _ => by simp
theorem Bt.made (w : World) (n : Nat) : Bt.Row (w.alloc (.cells (madeCells #[.int .u8 0] n) 5)) w.heap.size n (fun _ => false) :=
 (World.rowIs_made w (.int .u8 0) n 5).congr fun i _ => by rw [Bt.oct_zero]; rfl
theorem Bt.info8 : (Tryz.prog.info? 5).map (fun i => (i.zero, i.size, i.bytes)) = some (some (.int .u8 0), 1, 1) := by kernel_rfl
theorem Bt.Put.below {g sz : Nat} {F : Nat → Bool} {w w' : World} (h : Bt.Put g sz F w w') {B : Nat} (hB : B ≤ g) (hs : B ≤ w.heap.size) : Below B w w' :=
 ⟨h.2.os, h.2.tape, h.2.output, h.2.size, fun k hk => h.2.block k (by omega) (fun e => by have := Option.some.inj e; omega)⟩
set_option maxHeartbeats 1000000 in
theorem Bt.truths_c (v : Value) (n : Nat) (T : Nat → Bool) (w : World) (h : Bt.Sl w v n (Bt.bv T)) (hn : n ≤ 140737488355328) :
 Calls Tryz.prog 97 #[v] w fun e w' => e = .returned (.string (Bt.bytes (Bt.need n) (Bt.tr n T))) ∧ Below w.heap.size w w' := by
 obtain ⟨a, c, rfl, h⟩ := h
 have c1 := fun w => Bt.size_c n (by omega) w
 have hroom := (Bt.need_room n).1
 have hz : Bt.need n ≤ 140737488355328 := by unfold Bt.need; omega
 generalize Bt.need n = sz at c1 hroom hz ⊢
 have hmk := run_make_row' (P := Tryz.prog) 118 5 (.int .u8 0) 1 Tryz.underlying118 Bt.info8 rfl .i64 .i64 sz (by omega) (by omega)
 have HZ := Lib.hid hz
 have HN := Lib.hid hn
 have HRM := Lib.hid hroom
 clear hz hn hroom
 go_enter Tryz.func97, Tryz.ntmps97
 go_wp2_with fail
 refine (c1 _).mono ?_
 rintro e w1 ⟨rfl, rfl⟩
 go_wp2_with fail
 have hR := Bt.made w1 sz
 have hB : Below w1.heap.size w1 (w1.alloc (.cells (madeCells #[.int .u8 0] sz) 5)) := (Below.refl _ _).alloc (Nat.le_refl _) _
 generalize w1.alloc (.cells (madeCells #[.int .u8 0] sz) 5) = w2 at hR hB ⊢
 clear hmk c1
 generalize hg : w1.heap.size = g at h hR hB
 have HGE := Lib.hid hg
 clear hg
 go_loopw [12] (fun i wr => ∃ k : Nat, k ≤ n ∧ i = .int .i64 k ∧ Bt.Row wr g sz (Bt.tr k T) ∧ Below g w1 wr ∧ g < wr.heap.size) (fun i _ => n - (intOf i).toNat)
 case atStart => exact ⟨0, by omega, rfl, by rw [Bt.tr_zero]; exact hR, hB, hR.lt⟩
 case round =>
  obtain ⟨k, hk, rfl, hRk, hBk, hlt⟩ := hrel
  have HR := Lib.hid hRk
  clear hR hB hRk
  by_cases hl : k < n
  ·rcases h with h | ⟨b, o, rfl, hb, h⟩
   ·omega
   ·have hc : wr.cell? ⟨b, o + k, none⟩ = some (.bool (T k)) := (hBk.cell (p := ⟨b, o + k, none⟩) hb).trans (h k hl)
    have hkl : (k : Int) < (n : Int) := by omega
    have hk0 : (0 : Int) ≤ (k : Int) := by omega
    have hk2 : (k : Int) < 140737488355328 := by have := HN.out; omega
    cases hT : T k
    ·rw [hT] at hc
     have HT := Lib.hid hT
     clear h hT
     go_wp2
     go_roundw
     case rel => exact ⟨k + 1, by omega, by simp, by rw [Bt.tr_skip T k HT.out]; exact HR.out, hBk, hlt⟩
     case measure => simp [intOf]; omega
    ·rw [hT] at hc
     have HT := Lib.hid hT
     have cp := Bt.put_c g sz sz (Bt.tr k T) k 1 wr HR.out (by have := HRM.out; exact Nat.one_lt_two_pow (by omega)) (by decide) (by have := HN.out; omega) (by have := HZ.out; omega)
     clear h hT
     go_wp2_with fail
     refine cp.mono ?_
     rintro e w3 ⟨rfl, hP⟩
     have hB3 := hBk.trans (hP.below (Nat.le_refl _) (by omega))
     have hs3 : g < w3.heap.size := hP.1.lt
     have HP := Lib.hid hP
     clear hP hlt hBk hc cp
     go_wp2
     go_roundw
     case rel => exact ⟨k + 1, by omega, by simp, by rw [Bt.tr_put T k HT.out]; exact HP.out.1, hB3, hs3⟩
     case measure => simp [intOf]; omega
  ·obtain rfl : k = n := by omega
   have hkl : ¬ (k : Int) < (k : Int) := by omega
   have hs := HR.out.string (c := sz)
   go_wp2
   go_ret
   exact ⟨rfl, by rw [HGE.out]; exact hBk⟩
def Bt.packV (n : Nat) (X : Nat → Nat) (q : Int) : Value :=
 if 0 ≤ q ∧ q ≤ 64 then (if q.toNat < Bt.wid n X then .tuple #[.string ⟨#[]⟩, .int .i64 4] else .tuple #[.string (Bt.bytes (Bt.need (n * q.toNat)) (Bt.pk n X q.toNat)), .int .i64 0])
 else .tuple #[.string ⟨#[]⟩, .int .i64 1]
theorem Bt.mul_le (n q : Nat) (hq : q ≤ 64) : n * q ≤ n * 64 := Nat.mul_le_mul_left _ hq
set_option maxHeartbeats 1000000 in
theorem Bt.pack_ok (v : Value) (n : Nat) (X : Nat → Nat) (q : Nat) (w : World) (h : Bt.Sl w v n (Bt.nv X)) (hX : ∀ i, X i < 2 ^ 64) (hn : n ≤ 17592186044416) (hq : q ≤ 64) (hw : Bt.wid n X ≤ q) :
 Calls Tryz.prog 213 #[v, .int .i64 q] w fun e w' => e = .returned (.tuple #[.string (Bt.bytes (Bt.need (n * q)) (Bt.pk n X q)), .int .i64 0]) ∧ Below w.heap.size w w' := by
 have c0 := Bt.rightWidth_c q
 rw [decide_eq_true ⟨by omega, by omega⟩] at c0
 have c3 := Bt.width_c v n X w h hX (by omega)
 obtain ⟨a, c, rfl, h⟩ := h
 have hmul := Bt.mul_le n q hq
 generalize hm : n * q = m at hmul ⊢
 have hmi : (n : Int) * (q : Int) = (m : Int) := by rw [← hm]; simp
 have c1 := fun w => Bt.size_c m (by omega) w
 have hroom := (Bt.need_room m).1
 have hz : Bt.need m ≤ 140737488355328 := by unfold Bt.need; omega
 generalize Bt.need m = sz at c1 hroom hz ⊢
 have hmk := run_make_row' (P := Tryz.prog) 118 5 (.int .u8 0) 1 Tryz.underlying118 Bt.info8 rfl .i64 .i64 sz (by omega) (by omega)
 have HF : Hid (n ≤ 17592186044416 ∧ q ≤ 64 ∧ m ≤ n * 64 ∧ n * q = m ∧ m ≤ 8 * sz ∧ sz ≤ 140737488355328 ∧ (∀ i, X i < 2 ^ 64) ∧ ∀ i, i < n → X i < 2 ^ q) := Lib.hid ⟨hn, hq, hmul, hm, hroom, hz, hX, (Bt.wid_le n X q).1 hw⟩
 have hmm : m ≤ 1125899906842624 := by omega
 have hwi : ((Bt.wid n X : Nat) : Int) ≤ (q : Int) := by omega
 clear hn hq hmul hm hroom hz hX hw
 go_enter Tryz.func213, Tryz.ntmps213
 go_wp2_with fail
 refine (c0 _).mono ?_
 rintro e w0 ⟨rfl, rfl⟩
 go_wp2_with fail
 refine c3.mono ?_
 rintro e w1 ⟨rfl, rfl⟩
 go_wp2_with fail
 refine (c1 _).mono ?_
 rintro e w1 ⟨rfl, rfl⟩
 go_wp2_with fail
 have hR := Bt.made w1 sz
 have hB : Below w1.heap.size w1 (w1.alloc (.cells (madeCells #[.int .u8 0] sz) 5)) := (Below.refl _ _).alloc (Nat.le_refl _) _
 generalize w1.alloc (.cells (madeCells #[.int .u8 0] sz) 5) = w2 at hR hB ⊢
 clear hmk c0 c1 c3 hwi
 generalize hg : w1.heap.size = g at h hR hB
 have HGE := Lib.hid hg
 clear hg
 go_loopw [24] (fun i wr => ∃ k : Nat, k ≤ n ∧ i = .int .i64 k ∧ Bt.Row wr g sz (Bt.pk k X q) ∧ Below g w1 wr ∧ g < wr.heap.size) (fun i _ => n - (intOf i).toNat)
 case atStart => exact ⟨0, by omega, rfl, by rw [Bt.pk_zero]; exact hR, hB, hR.lt⟩
 case round =>
  obtain ⟨k, hk, rfl, hRk, hBk, hlt⟩ := hrel
  have HR := Lib.hid hRk
  clear hR hB hRk
  by_cases hl : k < n
  ·rcases h with h | ⟨b, o, rfl, hb, h⟩
   ·omega
   ·have hc : wr.cell? ⟨b, o + k, none⟩ = some (.int .u64 ((X k : Nat) : Int)) := (hBk.cell (p := ⟨b, o + k, none⟩) hb).trans (h k hl)
    have hkl : (k : Int) < (n : Int) := by omega
    have hk0 : (0 : Int) ≤ (k : Int) := by omega
    obtain ⟨fn, fq, f64, fm, f8, fz, fX, fw⟩ := HF.out
    have hk2 : (k : Int) < 140737488355328 := by omega
    obtain ⟨p, ep⟩ : ∃ p, p = k * q := ⟨_, rfl⟩
    have hpi : (k : Int) * (q : Int) = (p : Int) := by rw [ep]; simp
    have hpq : p + q ≤ m := by
     have : (k + 1) * q ≤ n * q := Nat.mul_le_mul_right _ hl
     rw [Nat.succ_mul] at this
     omega
    have hp2 : p ≤ 1125899906842624 := by omega
    have cp := Bt.put_c g sz sz (Bt.pk k X q) p (X k) wr HR.out (Nat.lt_of_lt_of_le (fw k hl) (Nat.pow_le_pow_right (by decide) (by omega))) (fX k) (by omega) (by omega)
    have HP0 : Hid (Bt.pk (k + 1) X q = Bt.putF (Bt.pk k X q) p (X k)) := Lib.hid (by rw [ep]; exact Bt.pk_put X q k (fw k hl))
    clear h fn fq f64 fm f8 fz fX fw hpq ep
    go_wp2_with fail
    refine cp.mono ?_
    rintro e w3 ⟨rfl, hP⟩
    have hB3 := hBk.trans (hP.below (Nat.le_refl _) (by omega))
    have hs3 : g < w3.heap.size := hP.1.lt
    have HP := Lib.hid hP
    clear hP hlt hBk hc cp
    go_wp2
    go_roundw
    case rel => exact ⟨k + 1, by omega, by simp, by rw [HP0.out]; exact HP.out.1, hB3, hs3⟩
    case measure => simp [intOf]; omega
  ·obtain rfl : k = n := by omega
   have hkl : ¬ (k : Int) < (k : Int) := by omega
   have hs := HR.out.string (c := sz)
   go_wp2
   go_ret2
   exact ⟨rfl, by rw [HGE.out]; exact hBk⟩
end
section
open Go.RowKit
def Bt.utE (s : ByteArray) (z : Int) : Nat := if 0 ≤ z ∧ z ≤ 65536 then Bt.chk s z.toNat else 1
def Bt.utN (s : ByteArray) (z : Int) : Nat := if Bt.utE s z = 0 then z.toNat else 0
def Bt.upE (s : ByteArray) (z q : Int) : Nat := if (0 ≤ q ∧ q ≤ 64) ∧ 0 ≤ z ∧ z ≤ 65536 then Bt.chk s (z.toNat * q.toNat) else 1
def Bt.upN (s : ByteArray) (z q : Int) : Nat := if Bt.upE s z q = 0 then z.toNat else 0
def Bt.nums (s : ByteArray) (q : Nat) (i : Nat) : Nat := Bt.num q (fun j => Bt.bit s (i * q + j))
theorem Bt.Sl.nil (w : World) (f : Nat → Value) : Bt.Sl w (.slice none 0 0) 0 f := ⟨none, 0, rfl, .inl rfl⟩
theorem Bt.Sl.row {w : World} {g n c : Nat} {t : TypeId} {f : Nat → Value} (h : w.rowIs g t n f) : Bt.Sl w (.slice (some ⟨g, 0, none⟩) n c) n f :=
 ⟨_, c, rfl, .inr ⟨g, 0, rfl, h.lt, fun i hi => by rw [Nat.zero_add]; exact h.cell hi⟩⟩
theorem Bt.infoB : (Tryz.prog.info? 4).map (fun i => (i.zero, i.size, i.bytes)) = some (some (.bool false), 1, 1) := by kernel_rfl
theorem Bt.infoU : (Tryz.prog.info? 88).map (fun i => (i.zero, i.size, i.bytes)) = some (some (.int .u64 0), 1, 8) := by kernel_rfl
theorem Bt.num_one (g : Nat → Bool) : Bt.num 1 g = (g 0).toNat := by simp [Bt.num]
def Bt.upTo (k : Nat) (f : Nat → Value) (z : Value) (i : Nat) : Value := if i < k then f i else z
theorem Bt.upTo_next {w : World} {g n k : Nat} {t : TypeId} {f : Nat → Value} {z u : Value} (h : w.rowIs g t n (Bt.upTo k f z)) (hu : u = f k) : (w.setCell ⟨g, k, none⟩ u).rowIs g t n (Bt.upTo (k + 1) f z) := by
 refine (World.rowIs.set h k u).congr fun i _ => ?_
 unfold Bt.upTo
 by_cases e : i = k
 ·subst e
  rw [if_pos rfl, if_pos (by omega), hu]
 ·rw [if_neg e]
  by_cases h2 : i < k
  ·rw [if_pos h2, if_pos (by omega)]
  ·rw [if_neg h2, if_neg (by omega)]
theorem Bt.below_set {w : World} {g i B : Nat} (hB : B ≤ g) (u : Value) : Below B w (w.setCell ⟨g, i, none⟩ u) :=
 ⟨rfl, rfl, rfl, by simp [World.setCell], fun k hk => Below.heap_setCell _ _ _ _ (by show k ≠ g; omega)⟩
set_option maxHeartbeats 1000000 in
theorem Bt.untruths_c (s : ByteArray) (z : Int) (w : World) (hs : s.size ≤ 140737488355328) :
 Calls Tryz.prog 150 #[.string s, .int .i64 z] w fun e w' => ∃ v, e = .returned (.tuple #[v, .int .i64 (Bt.utE s z : Nat)]) ∧ Bt.Sl w' v (Bt.utN s z) (Bt.bv (Bt.bit s)) ∧ Below w.heap.size w w' := by
 have c0 := Bt.rightCount_c z
 by_cases hz : 0 ≤ z ∧ z ≤ 65536
 ·rw [decide_eq_true hz] at c0
  obtain ⟨n, rfl⟩ := Int.eq_ofNat_of_zero_le hz.1
  have hn : n ≤ 65536 := by omega
  have c1 := fun w => Bt.check_c s n w (by omega) (by omega)
  have e1 : Bt.utE s (n : Int) = Bt.chk s n := by unfold Bt.utE; rw [if_pos hz]; rfl
  have e2 : Bt.utN s (n : Int) = if Bt.chk s n = 0 then n else 0 := by unfold Bt.utN; rw [e1]; rfl
  rw [e1, e2]
  by_cases hc : Bt.chk s n = 0
  ·rw [if_pos hc]
   obtain ⟨hsz, _⟩ := Bt.chk_ok hc
   have hroom := (Bt.need_room n).1
   rw [hc] at c1 ⊢
   have hmk := run_make_row' (P := Tryz.prog) 132 4 (.bool false) 1 Tryz.underlying132 Bt.infoB rfl .i64 .i64 n (by omega) (by omega)
   have HS : Hid (n ≤ 8 * s.size) := Lib.hid (by omega)
   clear hsz hroom hc e1 e2 hz
   go_enter Tryz.func150, Tryz.ntmps150
   go_wp2_with fail
   refine (c0 _).mono ?_
   rintro e w0 ⟨rfl, rfl⟩
   go_wp2_with fail
   refine (c1 _).mono ?_
   rintro e w1 ⟨rfl, rfl⟩
   go_wp2_with fail
   have hR : (w1.alloc (.cells (madeCells #[.bool false] n) 4)).rowIs w1.heap.size 4 n (Bt.upTo 0 (Bt.bv (Bt.bit s)) (.bool false)) := (World.rowIs_made w1 (.bool false) n 4).congr fun i _ => by unfold Bt.upTo; rw [if_neg (by omega)]
   have hB : Below w1.heap.size w1 (w1.alloc (.cells (madeCells #[.bool false] n) 4)) := (Below.refl _ _).alloc (Nat.le_refl _) _
   generalize w1.alloc (.cells (madeCells #[.bool false] n) 4) = w2 at hR hB ⊢
   clear hmk c0 c1
   generalize hg : w1.heap.size = g at hR hB
   have HGE := Lib.hid hg
   clear hg
   go_loopw [21] (fun i wr => ∃ k : Nat, k ≤ n ∧ i = .int .i64 k ∧ wr.rowIs g 4 n (Bt.upTo k (Bt.bv (Bt.bit s)) (.bool false)) ∧ Below g w1 wr) (fun i _ => n - (intOf i).toNat)
   case atStart => exact ⟨0, by omega, rfl, hR, hB⟩
   case round =>
    obtain ⟨k, hk, rfl, hRk, hBk⟩ := hrel
    have HR := Lib.hid hRk
    clear hR hB hRk
    by_cases hl : k < n
    ·have hkl : (k : Int) < (n : Int) := by omega
     have hk0 : (0 : Int) ≤ (k : Int) := by omega
     have hf := HR.out.frozen k
     have cg := fun w => Bt.get_c s k 1 w (by omega) (by have := HS.out; omega) (by omega)
     rw [Bt.num_one] at cg
     simp only [Nat.add_zero] at cg
     have hcl := HR.out.cell hl
     cases hb : Bt.bit s k
     ·rw [hb] at cg
      have HBT := Lib.hid hb
      clear hb
      go_wp2_with fail
      refine (cg _).mono ?_
      rintro e w3 ⟨rfl, rfl⟩
      go_wp2
      go_roundw
      case rel => exact ⟨k + 1, by omega, by simp, Bt.upTo_next HR.out (by unfold Bt.bv; rw [HBT.out]), hBk.trans (Bt.below_set (Nat.le_refl _) _)⟩
      case measure => simp [intOf]; omega
     ·rw [hb] at cg
      have HBT := Lib.hid hb
      clear hb
      go_wp2_with fail
      refine (cg _).mono ?_
      rintro e w3 ⟨rfl, rfl⟩
      go_wp2
      go_roundw
      case rel => exact ⟨k + 1, by omega, by simp, Bt.upTo_next HR.out (by unfold Bt.bv; rw [HBT.out]), hBk.trans (Bt.below_set (Nat.le_refl _) _)⟩
      case measure => simp [intOf]; omega
    ·obtain rfl : k = n := by omega
     have hkl : ¬ (k : Int) < (k : Int) := by omega
     go_wp2
     go_ret2
     exact ⟨_, rfl, Bt.Sl.row (HR.out.congr fun i hi => by unfold Bt.upTo; rw [if_pos hi]), by rw [HGE.out]; exact hBk⟩
  ·rw [if_neg hc]
   generalize Bt.chk s n = C at hc c1 ⊢
   have hC : ((C : Int) != 0) = true := by rw [bne_iff_ne]; omega
   clear e1 e2 hz hc
   go_enter Tryz.func150, Tryz.ntmps150
   go_wp2_with fail
   refine (c0 _).mono ?_
   rintro e w0 ⟨rfl, rfl⟩
   go_wp2_with fail
   refine (c1 _).mono ?_
   rintro e w1 ⟨rfl, rfl⟩
   go_wp2
   go_ret2
   exact ⟨_, rfl, Bt.Sl.nil _ _, Below.refl _ _⟩
 ·rw [decide_eq_false hz] at c0
  have e1 : Bt.utE s z = 1 := by unfold Bt.utE; rw [if_neg hz]
  have e2 : Bt.utN s z = 0 := by unfold Bt.utN; rw [e1]; rfl
  rw [e1, e2]
  clear e1 e2 hz
  go_enter Tryz.func150, Tryz.ntmps150
  go_wp2_with fail
  refine (c0 _).mono ?_
  rintro e w0 ⟨rfl, rfl⟩
  go_wp2
  go_ret2
  exact ⟨_, rfl, Bt.Sl.nil _ _, Below.refl _ _⟩
set_option maxHeartbeats 1000000 in
theorem Bt.unpack_c (s : ByteArray) (z y : Int) (w : World) (hs : s.size ≤ 140737488355328) :
 Calls Tryz.prog 215 #[.string s, .int .i64 z, .int .i64 y] w fun e w' => ∃ v, e = .returned (.tuple #[v, .int .i64 (Bt.upE s z y : Nat)]) ∧ Bt.Sl w' v (Bt.upN s z y) (Bt.nv (Bt.nums s y.toNat)) ∧ Below w.heap.size w w' := by
 have ca := Bt.rightWidth_c y
 have c0 := Bt.rightCount_c z
 by_cases hy : 0 ≤ y ∧ y ≤ 64
 ·rw [decide_eq_true hy] at ca
  by_cases hz : 0 ≤ z ∧ z ≤ 65536
  ·rw [decide_eq_true hz] at c0
   obtain ⟨n, rfl⟩ := Int.eq_ofNat_of_zero_le hz.1
   obtain ⟨q, rfl⟩ := Int.eq_ofNat_of_zero_le hy.1
   have hn : n ≤ 65536 := by omega
   have hq : q ≤ 64 := by omega
   have hmul := Bt.mul_le n q hq
   have e1 : Bt.upE s (n : Int) (q : Int) = Bt.chk s (n * q) := by unfold Bt.upE; rw [if_pos ⟨hy, hz⟩]; rfl
   have e2 : Bt.upN s (n : Int) (q : Int) = if Bt.chk s (n * q) = 0 then n else 0 := by unfold Bt.upN; rw [e1]; rfl
   rw [e1, e2, Int.toNat_natCast]
   generalize hm : n * q = m at hmul ⊢
   have hmi : (n : Int) * (q : Int) = (m : Int) := by rw [← hm]; simp
   have hmm : m ≤ 4194304 := by omega
   have c1 := fun w => Bt.check_c s m w (by omega) (by omega)
   by_cases hc : Bt.chk s m = 0
   ·rw [if_pos hc]
    obtain ⟨hsz, _⟩ := Bt.chk_ok hc
    have hroom := (Bt.need_room m).1
    rw [hc] at c1 ⊢
    have hmk := run_make_row' (P := Tryz.prog) 212 88 (.int .u64 0) 8 Tryz.underlying212 Bt.infoU rfl .i64 .i64 n (by omega) (by omega)
    have HS : Hid (m ≤ 8 * s.size ∧ n * q = m ∧ q ≤ 64) := Lib.hid ⟨by omega, hm, hq⟩
    clear hsz hroom hc e1 e2 hz hy hm hmul
    go_enter Tryz.func215, Tryz.ntmps215
    go_wp2_with fail
    refine (ca _).mono ?_
    rintro e w0 ⟨rfl, rfl⟩
    go_wp2_with fail
    refine (c0 _).mono ?_
    rintro e w0 ⟨rfl, rfl⟩
    go_wp2_with fail
    refine (c1 _).mono ?_
    rintro e w1 ⟨rfl, rfl⟩
    go_wp2_with fail
    have hR : (w1.alloc (.cells (madeCells #[.int .u64 0] n) 88)).rowIs w1.heap.size 88 n (Bt.upTo 0 (Bt.nv (Bt.nums s q)) (.int .u64 0)) := (World.rowIs_made w1 (.int .u64 0) n 88).congr fun i _ => by unfold Bt.upTo; rw [if_neg (by omega)]
    have hB : Below w1.heap.size w1 (w1.alloc (.cells (madeCells #[.int .u64 0] n) 88)) := (Below.refl _ _).alloc (Nat.le_refl _) _
    generalize w1.alloc (.cells (madeCells #[.int .u64 0] n) 88) = w2 at hR hB ⊢
    clear hmk c0 c1 ca
    generalize hg : w1.heap.size = g at hR hB
    have HGE := Lib.hid hg
    clear hg
    go_loopw [30] (fun i wr => ∃ k : Nat, k ≤ n ∧ i = .int .i64 k ∧ wr.rowIs g 88 n (Bt.upTo k (Bt.nv (Bt.nums s q)) (.int .u64 0)) ∧ Below g w1 wr) (fun i _ => n - (intOf i).toNat)
    case atStart => exact ⟨0, by omega, rfl, hR, hB⟩
    case round =>
     obtain ⟨k, hk, rfl, hRk, hBk⟩ := hrel
     have HR := Lib.hid hRk
     clear hR hB hRk
     by_cases hl : k < n
     ·have hkl : (k : Int) < (n : Int) := by omega
      have hk0 : (0 : Int) ≤ (k : Int) := by omega
      have hf := HR.out.frozen k
      obtain ⟨p, ep⟩ : ∃ p, p = k * q := ⟨_, rfl⟩
      have hpi : (k : Int) * (q : Int) = (p : Int) := by rw [ep]; simp
      obtain ⟨f1, f2, f3⟩ := HS.out
      have hpq : p + q ≤ m := by
       have : (k + 1) * q ≤ n * q := Nat.mul_le_mul_right _ hl
       rw [Nat.succ_mul] at this
       omega
      have cg := fun w => Bt.get_c s p q w f3 (by omega) (by omega)
      have hp2 : p ≤ 4194304 := by omega
      have hcl := HR.out.cell hl
      have e3 : Bt.num q (fun j => Bt.bit s (p + j)) = Bt.nums s q k := by unfold Bt.nums; rw [ep]
      rw [e3] at cg
      clear f1 f2 f3 hpq ep e3
      go_wp2_with fail
      refine (cg _).mono ?_
      rintro e w3 ⟨rfl, rfl⟩
      go_wp2
      go_roundw
      case rel => exact ⟨k + 1, by omega, by simp, Bt.upTo_next HR.out rfl, hBk.trans (Bt.below_set (Nat.le_refl _) _)⟩
      case measure => simp [intOf]; omega
     ·obtain rfl : k = n := by omega
      have hkl : ¬ (k : Int) < (k : Int) := by omega
      go_wp2
      go_ret2
      exact ⟨_, rfl, Bt.Sl.row (HR.out.congr fun i hi => by unfold Bt.upTo; rw [if_pos hi]), by rw [HGE.out]; exact hBk⟩
   ·rw [if_neg hc]
    generalize Bt.chk s m = C at hc c1 ⊢
    have hC : ((C : Int) != 0) = true := by rw [bne_iff_ne]; omega
    clear e1 e2 hz hy hc hm hmul hq hn
    go_enter Tryz.func215, Tryz.ntmps215
    go_wp2_with fail
    refine (ca _).mono ?_
    rintro e w0 ⟨rfl, rfl⟩
    go_wp2_with fail
    refine (c0 _).mono ?_
    rintro e w0 ⟨rfl, rfl⟩
    go_wp2_with fail
    refine (c1 _).mono ?_
    rintro e w1 ⟨rfl, rfl⟩
    go_wp2
    go_ret2
    exact ⟨_, rfl, Bt.Sl.nil _ _, Below.refl _ _⟩
  ·rw [decide_eq_false hz] at c0
   have e1 : Bt.upE s z y = 1 := by unfold Bt.upE; rw [if_neg (by rintro ⟨_, h⟩; exact hz h)]
   have e2 : Bt.upN s z y = 0 := by unfold Bt.upN; rw [e1]; rfl
   rw [e1, e2]
   clear e1 e2 hz hy
   go_enter Tryz.func215, Tryz.ntmps215
   go_wp2_with fail
   refine (ca _).mono ?_
   rintro e w0 ⟨rfl, rfl⟩
   go_wp2_with fail
   refine (c0 _).mono ?_
   rintro e w0 ⟨rfl, rfl⟩
   go_wp2
   go_ret2
   exact ⟨_, rfl, Bt.Sl.nil _ _, Below.refl _ _⟩
 ·rw [decide_eq_false hy] at ca
  have e1 : Bt.upE s z y = 1 := by unfold Bt.upE; rw [if_neg (by rintro ⟨h, _⟩; exact hy h)]
  have e2 : Bt.upN s z y = 0 := by unfold Bt.upN; rw [e1]; rfl
  rw [e1, e2]
  clear e1 e2 hy
  go_enter Tryz.func215, Tryz.ntmps215
  go_wp2_with fail
  refine (ca _).mono ?_
  rintro e w0 ⟨rfl, rfl⟩
  go_wp2
  go_ret2
  exact ⟨_, rfl, Bt.Sl.nil _ _, Below.refl _ _⟩
end
section
open Go.RowKit
def Bt.Buf (e : TypeId) (base : Nat) (w : World) (v : Value) (n : Nat) (f : Nat → Value) : Prop := w.ownsRow base e 1 v n ((List.range n).map f)
theorem Bt.Buf.nil (e : TypeId) (base : Nat) (w : World) (f : Nat → Value) : Bt.Buf e base w (.slice none 0 0) 0 f := World.ownsRow_nil w base _ 1
theorem Bt.Buf.sl {e : TypeId} {base : Nat} {w : World} {v : Value} {n : Nat} {f : Nat → Value} (h : Bt.Buf e base w v n f) : Bt.Sl w v n f := by
 have h0 := h
 rcases h.2 with ⟨rfl, rfl⟩ | ⟨g, cap, cur, rfl, _, hg, _⟩
 ·exact Bt.Sl.nil _ _
 ·refine ⟨_, cap, rfl, .inr ⟨g, 0, rfl, (Array.getElem?_eq_some_iff.1 hg).1, fun i hi => ?_⟩⟩
  have := h0.cells (g := g) rfl i (f i) (by simp [hi])
  have ea : (⟨g, 0, none⟩ : Addr).add i = ⟨g, 0 + i, none⟩ := by unfold Addr.add; split <;> simp_all
  rwa [ea] at this
theorem Bt.Buf.kept {e : TypeId} {base : Nat} {w w' : World} {v : Value} {n : Nat} {f : Nat → Value} (h : Bt.Buf e base w v n f) (g : Below w.heap.size w w') : Bt.Buf e base w' v n f := by
 refine ⟨h.1, ?_⟩
 rcases h.2 with hn | ⟨b, cap, cur, rfl, hbb, hgg, rest⟩
 ·exact .inl hn
 ·exact .inr ⟨b, cap, cur, rfl, hbb, by rw [g.block b (Array.getElem?_eq_some_iff.1 hgg).1]; exact hgg, rest⟩
theorem Bt.Buf.congr {e : TypeId} {base : Nat} {w : World} {v : Value} {n : Nat} {f g : Nat → Value} (h : Bt.Buf e base w v n f) (hf : ∀ i, i < n → f i = g i) : Bt.Buf e base w v n g := by
 unfold Bt.Buf at h ⊢
 have : (List.range n).map g = (List.range n).map f := List.map_congr_left fun i hi => (hf i (List.mem_range.1 hi)).symm
 rw [this]; exact h
theorem Bt.Buf.base_le {e : TypeId} {base : Nat} {w : World} {v : Value} {n : Nat} {f : Nat → Value} (h : Bt.Buf e base w v n f) : ∀ k, v.ownBlock = some k → base ≤ k := by
 intro k hk
 rcases h.2 with ⟨rfl, _⟩ | ⟨b, cap, cur, rfl, hbb, _⟩
 ·cases hk
 ·have : b = k := by simpa [Value.ownBlock] using hk
  omega
theorem Bt.wpList_append_one (e t : TypeId) (z : Value) (by_ : Nat) (hu : Tryz.prog.underlying t = some (.slice e)) (hinfo : (Tryz.prog.info? e).map (fun i => (i.zero, i.size, i.bytes)) = some (some z, 1, by_)) (hz : z.cells.size = 1)
 {base : Nat} {w0 : World} {v : Value} {n : Nat} {f : Nat → Value} (hown : Bt.Buf e base w0 v n f) (hb : base ≤ w0.heap.size) (hl : (n + 1) * by_ ≤ 140737488355328) (hl2 : n + 1 ≤ 140737488355328)
 {ops : Array Oper} {rest : List Oper} {o : Oper} {a : Act} {Q : Exit → Act → World → Prop} (s x : Operand) (u : Value) (hu1 : u.oneCell' = true) (hgd : o.guard = none)
 (ho : o.op = .call { callee := .builtin .append, args := #[s, x], argTypes := #[t, t] })
 (hs : a.eval s = v) (hx : a.eval x = .slice (some ⟨w0.heap.size, 0, none⟩) 1 1)
 (h : ∀ v' w', (u = f n → Bt.Buf e base w' v' (n + 1) f) → Ty.Grew w0 w' v v' → wpList Tryz.prog ops Q rest (a.put o.dst v') w') :
 wpList Tryz.prog ops Q (o :: rest) a (w0.alloc (.cells #[u] e)) := by
 obtain ⟨i0, hi, hz0, hz1, hz2⟩ := info_parts hinfo
 refine Ty.wpList_append_tight _ hgd s x t ho base e i0 z 1 by_ hu hi hz0 hz1 hz2 hz (by decide) v n ((List.range n).map f) hs (World.ownsRow.alloc hown _) ⟨w0.heap.size, 0, none⟩ 1 1 [u] hx rfl (cell_one_new _ _ _)
  (fun x hx => by simp at hx; subst hx; exact hu1) (by unfold maxLen; omega) hl (by simp; omega) fun v' w' h1 h2 => h v' w' (fun hu => ?_) (h2.behind _)
 subst hu
 unfold Bt.Buf
 rw [List.range_succ, List.map_append]
 exact h1
end
section
open Go.RowKit
theorem Bt.Row.add {w : World} {g sz k q r : Nat} {T : Nat → Bool} (h : Bt.Row w g sz (Bt.tr k T)) (hT : T k = true) (hq : q = k / 8) (hr : r = k % 8) :
 Bt.Row (w.setCell ⟨g, q, none⟩ (.int .u8 ((((Bt.oct (Bt.tr k T) q : Nat) : Int) + 2 ^ r) % 256))) g sz (Bt.tr (k + 1) T) := by
 have e : (((Bt.oct (Bt.tr k T) q : Nat) : Int) + 2 ^ r) % 256 = ((Bt.oct (Bt.tr (k + 1) T) q : Nat) : Int) := by
  have h1 := Bt.tr_add T k hT
  have h2 := Bt.oct_lt (Bt.tr (k + 1) T) q
  rw [← hq, ← hr] at h1
  have e2 : (2 : Int) ^ r = ((2 ^ r : Nat) : Int) := by simp
  rw [e2]
  omega
 rw [e]
 refine World.rowIs.congr (World.rowIs.set h q _) fun i _ => ?_
 by_cases e : i = q
 ·subst e
  rw [if_pos rfl]
 ·rw [if_neg e, Bt.tr_far T k i (by rw [← hq]; exact e)]
theorem Bt.drewN_below (w : World) (n : Nat) : Below w.heap.size w (w.drewN n) := ⟨rfl, rfl, rfl, Nat.le_refl _, fun _ _ => rfl⟩
end
end Go.Proofs.YtbelkhkllneifaaGreatDoor
