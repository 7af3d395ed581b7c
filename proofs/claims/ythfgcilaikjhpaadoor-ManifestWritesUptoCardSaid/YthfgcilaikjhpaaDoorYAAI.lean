import Derived.Test.YthfgcilaikjhpaaDoorYAAH
import Derived.Test.YthfgcilaikjhpaaDoorYAAF
import Derived.Deep.DeepCutAuto
import Derived.Deep.QuietTactic
import Derived.BigQuiet
import Derived.WalkSmall
import Derived.Test.YthfgcilaikjhpaaDoorRows
import Derived.WalkKit
import Derived.WalkSpells
import Derived.WalkLawsBesides
import Derived.Deep.OwnRows
import Derived.Below
import Derived.Lib.Hide
import Derived.StillTailTactics
namespace Go.Proofs.YthfgcilaikjhpaaDoor
section
open Go.RowKit
def Ty.RMid (base n sz k : Nat) (wr : World) (v : Value) : Prop :=
 (k = sz ∧ Ty.Buf base wr v []) ∨ (k < sz ∧ ∃ done, Ty.encU n = done ++ Ty.low k n ∧ done.length + k ≤ 9 ∧ Ty.Buf base wr v done)
theorem Ty.Buf.base {base : Nat} {w : World} {v : Value} {bs : List UInt8} (h : Ty.Buf base w v bs) : ∀ k, v.ownBlock = some k → base ≤ k := fun k hk => (h.lt k hk).1
def Ty.Str (w : World) (bs : List UInt8) (e : Ending) (w' : World) : Prop := e = .returned (.string (Ty.S bs)) ∧ Below w.heap.size w w'
theorem Ty.RMid.first {base n sz k : Nat} {w1 : World} {v1 : Value} (hk : k = Ty.after (Ty.form n)) (hs : sz = k + 1) {X : Int} (hX : X = ((Ty.head n).toNat : Int)) (h1 : ∀ u : UInt8, X = (u.toNat : Int) → Ty.Buf base w1 v1 ([] ++ [u])) : Ty.RMid base n sz k w1 v1 :=
 .inr ⟨by omega, [Ty.head n], by rw [hk]; exact Ty.encU_split n, by have := Ty.after_le n; simp; omega, h1 _ hX⟩
theorem Ty.RMid.next {base n sz k : Nat} {done : List UInt8} {w1 : World} {v1 : Value} (hd : Ty.encU n = done ++ Ty.low (k + 1) n) (hl : done.length + (k + 1) ≤ 9) (hk : k + 1 < sz)
 (h1 : ∀ u : UInt8, ((n : Int) / 2 ^ (8 * k) % 256) = (u.toNat : Int) → Ty.Buf base w1 v1 (done ++ [u])) : Ty.RMid base n sz k w1 v1 :=
 .inr ⟨by omega, done ++ [UInt8.ofNat (n / 256 ^ k % 256)], by rw [hd, Ty.low_succ]; simp, by simp; omega, h1 _ (Ty.low_byte n k)⟩
theorem Ty.rhead0 (n : Nat) (h : Ty.form n = 0) : (n : Int) % 256 = ((Ty.head n).toNat : Int) := by
 have := (Ty.head_is n).1
 have hb := Ty.form_is n
 rw [h] at this; simp [Ty.after] at this; omega
theorem Ty.rhead1 (n : Nat) (h : Ty.form n = 1) : ((n : Int) / 256 + 64) % 256 = ((Ty.head n).toNat : Int) := by
 have := (Ty.head_is n).1
 have hb := Ty.form_is n
 rw [h] at this; simp [Ty.after] at this; omega
theorem Ty.rhead2 (n : Nat) (h : Ty.form n = 2) : ((n : Int) / 16777216 + 128) % 256 = ((Ty.head n).toNat : Int) := by
 have := (Ty.head_is n).1
 have hb := Ty.form_is n
 rw [h] at this; simp [Ty.after] at this; omega
theorem Ty.rhead3 (n : Nat) (h : Ty.form n = 3) : (192 : Int) = ((Ty.head n).toNat : Int) := by
 have := (Ty.head_is n).1
 rw [h] at this; simp at this; omega
set_option maxHeartbeats 2000000 in
theorem Ty.ruint_nat (n : Nat) (w : World) :
 Calls Tryd.prog 39 #[.int .u64 n] w (Ty.Str w (Ty.encU n)) := by
 have hf : ((n : Int) < 64 ∧ Ty.form n = 0) ∨ (¬ (n : Int) < 64 ∧ (n : Int) < 16384 ∧ Ty.form n = 1) ∨ (¬ (n : Int) < 64 ∧ ¬ (n : Int) < 16384 ∧ (n : Int) < 1073741824 ∧ Ty.form n = 2) ∨ (¬ (n : Int) < 64 ∧ ¬ (n : Int) < 16384 ∧ ¬ (n : Int) < 1073741824 ∧ Ty.form n = 3) := by have := Ty.form_is n; omega
 rcases hf with ⟨h1, hf⟩ | ⟨h1, h2, hf⟩ | ⟨h1, h2, h3, hf⟩ | ⟨h1, h2, h3, hf⟩
 ·have HF := Lib.hid hf
  clear hf
  go_enter Tryd.func39, Tryd.ntmps39
  go_wp2
  go_loopw [5, 6] (fun vr i wr => ∃ k : Nat, i = .int .i64 ((k : Int) - 1) ∧ Ty.RMid w.heap.size n 1 k wr vr ∧ Below w.heap.size w wr) (fun _ i _ => (intOf i + 1).toNat)
  case atStart => exact ⟨1, rfl, .inl ⟨rfl, Ty.Buf.nil _ _⟩, Below.refl _ _⟩
  case round =>
   try clear h3
   try clear h2
   clear h1
   obtain ⟨k, rfl, hm, hb⟩ := hrel
   have hbs := hb.size
   rcases hm with ⟨rfl, hB⟩ | ⟨hk, done, hd, hl, hB⟩
   ·go_wp2_with (at_builtin; refine Ty.wpList_append_byte hB hbs (by simp) (.tmp 39) (.tmp 41) _ rfl rfl rfl rfl ?_; intro v2 w2 h2 g2)
    have hb2 := hb.trans (g2.below hbs hB.base)
    refine ⟨⟨0, rfl, Ty.RMid.first (by rw [HF.out]; rfl) rfl (Ty.rhead0 n HF.out) h2, hb2⟩, by simp [intOf]⟩
   ·have hk0 : k = 0 := by omega
    subst hk0
    have Hdn : Hid (Ty.encU n = done) := Lib.hid (by simpa [Ty.low] using hd)
    have hcv := hB.str
    clear hd
    go_wp2
    go_ret
    exact ⟨by rw [Hdn.out]; rfl, hb⟩
 ·have HF := Lib.hid hf
  clear hf
  go_enter Tryd.func39, Tryd.ntmps39
  go_wp2
  go_loopw [5, 6] (fun vr i wr => ∃ k : Nat, i = .int .i64 ((k : Int) - 1) ∧ Ty.RMid w.heap.size n 2 k wr vr ∧ Below w.heap.size w wr) (fun _ i _ => (intOf i + 1).toNat)
  case atStart => exact ⟨2, rfl, .inl ⟨rfl, Ty.Buf.nil _ _⟩, Below.refl _ _⟩
  case round =>
   try clear h3
   try clear h2
   clear h1
   obtain ⟨k, rfl, hm, hb⟩ := hrel
   have hbs := hb.size
   rcases hm with ⟨rfl, hB⟩ | ⟨hk, done, hd, hl, hB⟩
   ·go_wp2_with (at_builtin; refine Ty.wpList_append_byte hB hbs (by simp) (.tmp 39) (.tmp 41) _ rfl rfl rfl rfl ?_; intro v2 w2 h2 g2)
    have hb2 := hb.trans (g2.below hbs hB.base)
    refine ⟨⟨1, rfl, Ty.RMid.first (by rw [HF.out]; rfl) rfl (Ty.rhead1 n HF.out) h2, hb2⟩, by simp [intOf]⟩
   ·rcases k with _ | k
    ·have Hdn : Hid (Ty.encU n = done) := Lib.hid (by simpa [Ty.low] using hd)
     have hcv := hB.str
     clear hd
     go_wp2
     go_ret
     exact ⟨by rw [Hdn.out]; rfl, hb⟩
    ·have Hd := Lib.hid hd
     clear hd
     have hne : ((k : Int) == 1) = false := by rw [beq_eq_false_iff_ne]; omega
     have hl2 : done.length + 1 ≤ 140737488355328 := by omega
     go_wp2_with (at_builtin; refine Ty.wpList_append_byte hB hbs hl2 (.tmp 39) (.tmp 41) _ rfl rfl rfl rfl ?_; intro v2 w2 h2 g2)
     go_roundw
     have hb2 := hb.trans (g2.below hbs hB.base)
     case rel => exact ⟨k, rfl, Ty.RMid.next Hd.out hl hk h2, hb2⟩
     case measure => simp [intOf]
 ·have HF := Lib.hid hf
  clear hf
  go_enter Tryd.func39, Tryd.ntmps39
  go_wp2
  go_loopw [5, 6] (fun vr i wr => ∃ k : Nat, i = .int .i64 ((k : Int) - 1) ∧ Ty.RMid w.heap.size n 4 k wr vr ∧ Below w.heap.size w wr) (fun _ i _ => (intOf i + 1).toNat)
  case atStart => exact ⟨4, rfl, .inl ⟨rfl, Ty.Buf.nil _ _⟩, Below.refl _ _⟩
  case round =>
   try clear h3
   try clear h2
   clear h1
   obtain ⟨k, rfl, hm, hb⟩ := hrel
   have hbs := hb.size
   rcases hm with ⟨rfl, hB⟩ | ⟨hk, done, hd, hl, hB⟩
   ·go_wp2_with (at_builtin; refine Ty.wpList_append_byte hB hbs (by simp) (.tmp 39) (.tmp 41) _ rfl rfl rfl rfl ?_; intro v2 w2 h2 g2)
    have hb2 := hb.trans (g2.below hbs hB.base)
    refine ⟨⟨3, rfl, Ty.RMid.first (by rw [HF.out]; rfl) rfl (Ty.rhead2 n HF.out) h2, hb2⟩, by simp [intOf]⟩
   ·rcases k with _ | k
    ·have Hdn : Hid (Ty.encU n = done) := Lib.hid (by simpa [Ty.low] using hd)
     have hcv := hB.str
     clear hd
     go_wp2
     go_ret
     exact ⟨by rw [Hdn.out]; rfl, hb⟩
    ·have Hd := Lib.hid hd
     clear hd
     have hne : ((k : Int) == 3) = false := by rw [beq_eq_false_iff_ne]; omega
     have hl2 : done.length + 1 ≤ 140737488355328 := by omega
     go_wp2_with (at_builtin; refine Ty.wpList_append_byte hB hbs hl2 (.tmp 39) (.tmp 41) _ rfl rfl rfl rfl ?_; intro v2 w2 h2 g2)
     go_roundw
     have hb2 := hb.trans (g2.below hbs hB.base)
     case rel => exact ⟨k, rfl, Ty.RMid.next Hd.out hl hk h2, hb2⟩
     case measure => simp [intOf]
 ·have HF := Lib.hid hf
  clear hf
  go_enter Tryd.func39, Tryd.ntmps39
  go_wp2
  go_loopw [5, 6] (fun vr i wr => ∃ k : Nat, i = .int .i64 ((k : Int) - 1) ∧ Ty.RMid w.heap.size n 9 k wr vr ∧ Below w.heap.size w wr) (fun _ i _ => (intOf i + 1).toNat)
  case atStart => exact ⟨9, rfl, .inl ⟨rfl, Ty.Buf.nil _ _⟩, Below.refl _ _⟩
  case round =>
   try clear h3
   try clear h2
   clear h1
   obtain ⟨k, rfl, hm, hb⟩ := hrel
   have hbs := hb.size
   rcases hm with ⟨rfl, hB⟩ | ⟨hk, done, hd, hl, hB⟩
   ·go_wp2_with (at_builtin; refine Ty.wpList_append_byte hB hbs (by simp) (.tmp 39) (.tmp 41) _ rfl rfl rfl rfl ?_; intro v2 w2 h2 g2)
    have hb2 := hb.trans (g2.below hbs hB.base)
    refine ⟨⟨8, rfl, Ty.RMid.first (by rw [HF.out]; rfl) rfl (Ty.rhead3 n HF.out) h2, hb2⟩, by simp [intOf]⟩
   ·rcases k with _ | k
    ·have Hdn : Hid (Ty.encU n = done) := Lib.hid (by simpa [Ty.low] using hd)
     have hcv := hB.str
     clear hd
     go_wp2
     go_ret
     exact ⟨by rw [Hdn.out]; rfl, hb⟩
    ·have Hd := Lib.hid hd
     clear hd
     have hne : ((k : Int) == 8) = false := by rw [beq_eq_false_iff_ne]; omega
     have hl2 : done.length + 1 ≤ 140737488355328 := by omega
     go_wp2_with (at_builtin; refine Ty.wpList_append_byte hB hbs hl2 (.tmp 39) (.tmp 41) _ rfl rfl rfl rfl ?_; intro v2 w2 h2 g2)
     go_roundw
     have hb2 := hb.trans (g2.below hbs hB.base)
     case rel => exact ⟨k, rfl, Ty.RMid.next Hd.out hl hk h2, hb2⟩
     case measure => simp [intOf]
set_option maxHeartbeats 400000 in
theorem Ty.rtext_c (s : ByteArray) (hs : s.size ≤ 140737488351232) (w : World) :
 Calls Tryd.prog 41 #[.string s] w (Ty.Str w (Ty.encU s.size ++ s.data.toList)) := by
 have h9 : (Ty.S (Ty.encU s.size)).size ≤ 9 := Ty.encU_len9 _
 go_enter Tryd.func41, Tryd.ntmps41
 go_wp2_with fail
 refine (Ty.ruint_nat s.size _).mono ?_
 rintro e w1 ⟨rfl, hb⟩
 go_wp2
 go_ret
 exact ⟨congrArg (fun x => Ending.returned (.string x)) (ByteArray.mk_append_mk (Ty.encU s.size) s.data.toList), hb⟩
theorem Ty.fw_neg {n : Int} (h : Ty.I64 n) (h0 : n < 0) : IntKind.u64.wrap (IntKind.u64.wrap (2 * IntKind.u64.wrap (wrap64 (-wrap64 (n + 1)))) + 1) = Ty.zig n := by
 unfold Ty.I64 at h; unfold Ty.zig; simp only [IntKind.wrap_u64]; unfold wrap64; rw [if_neg (by omega)]; omega
theorem Ty.fw_pos {n : Int} (h : Ty.I64 n) (h0 : 0 ≤ n) : IntKind.u64.wrap (2 * IntKind.u64.wrap n) = Ty.zig n := by
 unfold Ty.I64 at h; unfold Ty.zig; simp only [IntKind.wrap_u64]; rw [if_pos (by omega)]; omega
set_option maxHeartbeats 400000 in
theorem Ty.fold_c (n : Int) (w : World) (hn : Ty.I64 n) :
 Calls Tryd.prog 67 #[.int .i64 n] w fun e w' => e = .returned (.int .u64 (Ty.zig n)) ∧ w' = w := by
 by_cases h : n < 0
 ·have H := Lib.hid (Ty.fw_neg hn h)
  go_enter Tryd.func67, Tryd.ntmps67
  go_wp2
  go_ret
  exact ⟨Ty.ret_i H.out, rfl⟩
 ·have H := Lib.hid (Ty.fw_pos hn (by omega))
  go_enter Tryd.func67, Tryd.ntmps67
  go_wp2
  go_ret
  exact ⟨Ty.ret_i H.out, rfl⟩
theorem Ty.ruint_c (z : Int) (h0 : 0 ≤ z) (w : World) :
 Calls Tryd.prog 39 #[.int .u64 z] w (Ty.Str w (Ty.encU z.toNat)) := by
 have := Ty.ruint_nat z.toNat w
 rwa [Int.toNat_of_nonneg h0] at this
set_option maxHeartbeats 400000 in
theorem Ty.rint_c (n : Int) (w : World) (hn : Ty.I64 n) :
 Calls Tryd.prog 40 #[.int .i64 n] w (Ty.Str w (Ty.encU (Ty.zig n).toNat)) := by
 go_enter Tryd.func40, Tryd.ntmps40
 go_wp2_with fail
 refine (Ty.fold_c n _ hn).mono ?_
 rintro e w' ⟨rfl, rfl⟩
 go_wp2_with fail
 refine (Ty.ruint_c _ (Ty.zig_nonneg n) _).mono ?_
 rintro e w1 ⟨rfl, hb⟩
 go_wp2
 go_ret
 exact ⟨rfl, hb⟩
end
section
open Go.RowKit
end
section
open Go.RowKit
end
section
open Go.RowKit
theorem Ty.Cur.drew {b : Nat} {w : World} {l : List UInt8} {e : Nat} (h : Ty.Cur b w l e) : Ty.Cur b w.drew l e := h
theorem Ty.Cur.drewN {b : Nat} {w : World} {l : List UInt8} {e : Nat} (h : Ty.Cur b w l e) (n : Nat) : Ty.Cur b (w.drewN n) l e := h
theorem Ty.Tabs.drewN {w : World} (h : Ty.Tabs w) (n : Nat) : Ty.Tabs (w.drewN n) := h.kept (Nat.le_refl _) fun _ _ => rfl
end
section
open Go.RowKit
def Ty.RC (r : Nat) (w : World) (s : ByteArray) (at_ er : Nat) : Prop := w.heap[r]? = some (.cells #[.string s, .int .i64 (at_ : Int), .int .i64 (er : Int)] 95 (0, 0))
theorem Ty.RC.cells {r : Nat} {w : World} {s : ByteArray} {a e : Nat} (h : Ty.RC r w s a e) : w.cell? ⟨r, 0, none⟩ = some (.string s) ∧ w.cell? ⟨r, 1, none⟩ = some (.int .i64 (a : Int)) ∧ w.cell? ⟨r, 2, none⟩ = some (.int .i64 (e : Int)) ∧ w.frozen? ⟨r, 1, none⟩ = false ∧ w.frozen? ⟨r, 2, none⟩ = false := by
 unfold Ty.RC at h
 refine ⟨?_, ?_, ?_, ?_, ?_⟩ <;> simp [World.cell?, World.frozen?, h]
theorem Ty.RC.lt {r : Nat} {w : World} {s : ByteArray} {a e : Nat} (h : Ty.RC r w s a e) : r < w.heap.size := lt_of_block h
theorem Ty.RC.below {r : Nat} {w w' : World} {s : ByteArray} {a e : Nat} (h : Ty.RC r w s a e) {B : Nat} (hb : Below B w w') (hr : r < B) : Ty.RC r w' s a e := by
 unfold Ty.RC at h ⊢
 rw [hb.block r hr]
 exact h
theorem Ty.RC.drewN {r : Nat} {w : World} {s : ByteArray} {a e : Nat} (h : Ty.RC r w s a e) (n : Nat) : Ty.RC r (w.drewN n) s a e := h
end
section
open Go.RowKit
def Ty.Peeked (r : Nat) (s : ByteArray) (a er : Nat) (w : World) (e : Ending) (w' : World) : Prop := e = .returned (Ty.numV (s.data.toList.drop a)) ∧ Ty.RC r w' s a er ∧ w.grownBy w' none
end
section
open Go.RowKit
def Ty.RS (r : Nat) (s : ByteArray) (w : World) (l : List UInt8) (e : Nat) : Prop := ∃ a, a ≤ s.size ∧ s.data.toList.drop a = l ∧ Ty.RC r w s a e
def Ty.RLeft (r : Nat) (s : ByteArray) (w : World) (v : Value) (l : List UInt8) (e' : Nat) (e : Ending) (w' : World) : Prop := e = .returned v ∧ Ty.RS r s w' l e' ∧ w.grownBy w' (some r)
end
section
open Go.RowKit
def Bt.Row (w : World) (g sz : Nat) (F : Nat → Bool) : Prop := w.rowIs g 5 sz (fun i => .int .u8 ((Bt.oct F i : Nat) : Int))
set_option maxRecDepth 100000 in
theorem Bt.Row.string {w : World} {g sz c : Nat} {F : Nat → Bool} (h : Bt.Row w g sz F) : (convert 66 9 (.slice (some ⟨g, 0, none⟩) sz c)).run Tryd.prog w = .ok (.string (Bt.bytes sz F)) w := by
 have := run_convert_bytes_arg (P := Tryd.prog) w 66 _ Tryd.underlying66 Tryd.underlying5 g 0 sz c ((List.range sz).map fun i => ((Bt.oct F i : Nat) : Int)) (by simp) (fun i hi => by
  have hc := h.cell hi
  have ea : (⟨g, 0 + i, none⟩ : Addr) = ⟨g, i, none⟩ := by rw [Nat.zero_add]
  rw [ea, hc]
  simp [List.getD, hi]) 9 Tryd.underlying9
 rw [this]
 have e : strOfNums ((List.range sz).map fun i => ((Bt.oct F i : Nat) : Int)) = Bt.bytes sz F := by
  unfold strOfNums Bt.bytes
  congr 1
  rw [List.map_map]
  rfl
 rw [e]
theorem Bt.by_trans {a b c : World} {r : Option Nat} (h : a.grownBy b r) (k : b.grownBy c r) : a.grownBy c r :=
 ⟨k.os.trans h.os, k.tape.trans h.tape, k.output.trans h.output, Nat.le_trans h.size k.size, fun i hi hn => (k.block i (Nat.lt_of_lt_of_le hi h.size) hn).trans (h.block i hi hn)⟩
theorem Bt.by_set (w : World) (b o : Nat) (u : Value) : w.grownBy (w.setCell ⟨b, o, none⟩ u) (some b) :=
 ⟨rfl, rfl, rfl, by simp [World.setCell], fun k _ hk => Below.heap_setCell _ _ _ _ (fun e => hk (by rw [e]))⟩
def Bt.Put (g sz : Nat) (F : Nat → Bool) (w w' : World) : Prop := Bt.Row w' g sz F ∧ w.grownBy w' (some g)
theorem Bt.or_byte (G : Nat → Bool) (a m q r : Nat) (hq : q = a / 8) (hr : r = a % 8) :
 bits .or .u8 ((Bt.oct G q : Nat) : Int) (IntKind.u64.wrap ((m : Int) * 2 ^ r) % 256) = ((Bt.oct (Bt.laid G a m) q : Nat) : Int) := by
 subst hq hr
 have e : IntKind.u64.wrap ((m : Int) * 2 ^ (a % 8)) % 256 = ((m * 2 ^ (a % 8) % 256 : Nat) : Int) := by
  rw [IntKind.wrap_u64]
  have e1 : (m : Int) * 2 ^ (a % 8) = ((m * 2 ^ (a % 8) : Nat) : Int) := by simp
  rw [e1]
  omega
 rw [e, (bits_nat .u8 8 (by decide) wraps_u8 _ _ (Bt.oct_lt G (a / 8)) (Nat.mod_lt _ (by decide))).2, Bt.laid_here]
theorem Bt.Put.next {g sz a m q r : Nat} {G : Nat → Bool} {w wr : World} (h : Bt.Put g sz G w wr) (hq : q = a / 8) (hr : r = a % 8) :
 Bt.Put g sz (Bt.laid G a m) w (wr.setCell ⟨g, q, none⟩ (.int .u8 (bits .or .u8 ((Bt.oct G q : Nat) : Int) (IntKind.u64.wrap ((m : Int) * 2 ^ r) % 256)))).drew := by
 obtain ⟨hR, hB⟩ := h
 rw [Bt.or_byte G a m q r hq hr]
 refine ⟨World.rowIs.drew (World.rowIs.congr (World.rowIs.set hR q _) fun i _ => ?_), ?_⟩
 ·by_cases e : i = q
  ·subst e
   rw [if_pos rfl]
  ·rw [if_neg e, Bt.laid_far G a m i (by rw [← hq]; exact e)]
 ·have h2 := Bt.by_trans hB (Bt.by_set wr g q (.int .u8 ((Bt.oct (Bt.laid G a m) q : Nat) : Int)))
  exact ⟨h2.os, h2.tape, h2.output, h2.size, h2.block⟩
end
end Go.Proofs.YthfgcilaikjhpaaDoor
