import Derived.Test.YteaglaijkafphaaDoorZAD
import Derived.Test.YteaglaijkafphaaDoorZAA
import Derived.Deep.DeepCutAuto
import Derived.Deep.QuietTactic
import Derived.BigQuiet
import Derived.WalkSmall
import Derived.Test.YteaglaijkafphaaDoorRows
import Derived.WalkKit
import Derived.WalkSpells
import Derived.WalkLawsBesides
import Derived.Deep.OwnRows
import Derived.Below
import Derived.Lib.Hide
import Derived.StillTailTactics
import Derived.Lib.BitFns
namespace Go.Proofs.YteaglaijkafphaaDoor
section
open Go.RowKit
def Ty.RMid (base n sz k : Nat) (wr : World) (v : Value) : Prop :=
 (k = sz ∧ Ty.Buf base wr v []) ∨ (k < sz ∧ ∃ done, Ty.encU n = done ++ Ty.low k n ∧ done.length + k ≤ 9 ∧ Ty.Buf base wr v done)
theorem Ty.Buf.base {base : Nat} {w : World} {v : Value} {bs : List UInt8} (h : Ty.Buf base w v bs) : ∀ k, v.ownBlock = some k → base ≤ k := fun k hk => (h.lt k hk).1
def Ty.Str (w : World) (bs : List UInt8) (e : Ending) (w' : World) : Prop := e = .returned (.string (Ty.S bs)) ∧ Below w.heap.size w w'
theorem Ty.RMid.first {base n sz k : Nat} {w1 : World} {v1 : Value} (hk : k = Ty.after (Ty.form n)) (hs : sz = k + 1) {X : Int} (hX : X = ((Ty.head n).toNat : Int)) (h1 : ∀ u : UInt8, X = (u.toNat : Int) → Ty.Buf base w1 v1 ([] ++ [u])) : Ty.RMid base n sz k w1 v1 :=
 .inr ⟨by omega, [Ty.head n], by rw [hk]; exact Ty.encU_split n, by have := Ty.after_le n; simp; omega, h1 _ hX⟩
theorem Ty.RMid.next {base n sz k : Nat} {done : List UInt8} {w1 : World} {v1 : Value} (hd : Ty.encU n = done ++ Ty.low (k + 1) n) (hl : done.length + (k + 1) ≤ 9) (hk : k + 1 < sz)
 (h1 : ∀ u : UInt8, ((n : Int) / 2 ^ (8 * k) % 256) = (u.toNat : Int) → Ty.Buf base w1 v1 (done ++ [u])) : Ty.RMid base n sz k w1 v1 :=
 .inr ⟨by omega, done ++ [UInt8.ofNat (n / 256 ^ k % 256)], by rw [hd, Ty.low_succ]; simp, by simp; omega, h1 _ (Ty.low_byte n k)⟩
theorem Ty.rhead0 (n : Nat) (h : Ty.form n = 0) : (n : Int) % 256 = ((Ty.head n).toNat : Int) := by
 have := (Ty.head_is n).1
 have hb := Ty.form_is n
 rw [h] at this; simp [Ty.after] at this; omega
theorem Ty.rhead1 (n : Nat) (h : Ty.form n = 1) : ((n : Int) / 256 + 64) % 256 = ((Ty.head n).toNat : Int) := by
 have := (Ty.head_is n).1
 have hb := Ty.form_is n
 rw [h] at this; simp [Ty.after] at this; omega
theorem Ty.rhead2 (n : Nat) (h : Ty.form n = 2) : ((n : Int) / 16777216 + 128) % 256 = ((Ty.head n).toNat : Int) := by
 have := (Ty.head_is n).1
 have hb := Ty.form_is n
 rw [h] at this; simp [Ty.after] at this; omega
theorem Ty.rhead3 (n : Nat) (h : Ty.form n = 3) : (192 : Int) = ((Ty.head n).toNat : Int) := by
 have := (Ty.head_is n).1
 rw [h] at this; simp at this; omega
set_option maxHeartbeats 2000000 in
theorem Ty.ruint_nat (n : Nat) (w : World) :
 Calls Tryd.prog 102 #[.int .u64 n] w (Ty.Str w (Ty.encU n)) := by
 have hf : ((n : Int) < 64 ∧ Ty.form n = 0) ∨ (¬ (n : Int) < 64 ∧ (n : Int) < 16384 ∧ Ty.form n = 1) ∨ (¬ (n : Int) < 64 ∧ ¬ (n : Int) < 16384 ∧ (n : Int) < 1073741824 ∧ Ty.form n = 2) ∨ (¬ (n : Int) < 64 ∧ ¬ (n : Int) < 16384 ∧ ¬ (n : Int) < 1073741824 ∧ Ty.form n = 3) := by have := Ty.form_is n; omega
 rcases hf with ⟨h1, hf⟩ | ⟨h1, h2, hf⟩ | ⟨h1, h2, h3, hf⟩ | ⟨h1, h2, h3, hf⟩
 ·have HF := Lib.hid hf
  clear hf
  go_enter Tryd.func102, Tryd.ntmps102
  go_wp2
  go_loopw [5, 6] (fun vr i wr => ∃ k : Nat, i = .int .i64 ((k : Int) - 1) ∧ Ty.RMid w.heap.size n 1 k wr vr ∧ Below w.heap.size w wr) (fun _ i _ => (intOf i + 1).toNat)
  case atStart => exact ⟨1, rfl, .inl ⟨rfl, Ty.Buf.nil _ _⟩, Below.refl _ _⟩
  case round =>
   try clear h3
   try clear h2
   clear h1
   obtain ⟨k, rfl, hm, hb⟩ := hrel
   have hbs := hb.size
   rcases hm with ⟨rfl, hB⟩ | ⟨hk, done, hd, hl, hB⟩
   ·go_wp2_with (at_builtin; refine Ty.wpList_append_byte hB hbs (by simp) (.tmp 39) (.tmp 41) _ rfl rfl rfl rfl ?_; intro v2 w2 h2 g2)
    have hb2 := hb.trans (g2.below hbs hB.base)
    refine ⟨⟨0, rfl, Ty.RMid.first (by rw [HF.out]; rfl) rfl (Ty.rhead0 n HF.out) h2, hb2⟩, by simp [intOf]⟩
   ·have hk0 : k = 0 := by omega
    subst hk0
    have Hdn : Hid (Ty.encU n = done) := Lib.hid (by simpa [Ty.low] using hd)
    have hcv := hB.str
    clear hd
    go_wp2
    go_ret
    exact ⟨by rw [Hdn.out]; rfl, hb⟩
 ·have HF := Lib.hid hf
  clear hf
  go_enter Tryd.func102, Tryd.ntmps102
  go_wp2
  go_loopw [5, 6] (fun vr i wr => ∃ k : Nat, i = .int .i64 ((k : Int) - 1) ∧ Ty.RMid w.heap.size n 2 k wr vr ∧ Below w.heap.size w wr) (fun _ i _ => (intOf i + 1).toNat)
  case atStart => exact ⟨2, rfl, .inl ⟨rfl, Ty.Buf.nil _ _⟩, Below.refl _ _⟩
  case round =>
   try clear h3
   try clear h2
   clear h1
   obtain ⟨k, rfl, hm, hb⟩ := hrel
   have hbs := hb.size
   rcases hm with ⟨rfl, hB⟩ | ⟨hk, done, hd, hl, hB⟩
   ·go_wp2_with (at_builtin; refine Ty.wpList_append_byte hB hbs (by simp) (.tmp 39) (.tmp 41) _ rfl rfl rfl rfl ?_; intro v2 w2 h2 g2)
    have hb2 := hb.trans (g2.below hbs hB.base)
    refine ⟨⟨1, rfl, Ty.RMid.first (by rw [HF.out]; rfl) rfl (Ty.rhead1 n HF.out) h2, hb2⟩, by simp [intOf]⟩
   ·rcases k with _ | k
    ·have Hdn : Hid (Ty.encU n = done) := Lib.hid (by simpa [Ty.low] using hd)
     have hcv := hB.str
     clear hd
     go_wp2
     go_ret
     exact ⟨by rw [Hdn.out]; rfl, hb⟩
    ·have Hd := Lib.hid hd
     clear hd
     have hne : ((k : Int) == 1) = false := by rw [beq_eq_false_iff_ne]; omega
     have hl2 : done.length + 1 ≤ 140737488355328 := by omega
     go_wp2_with (at_builtin; refine Ty.wpList_append_byte hB hbs hl2 (.tmp 39) (.tmp 41) _ rfl rfl rfl rfl ?_; intro v2 w2 h2 g2)
     go_roundw
     have hb2 := hb.trans (g2.below hbs hB.base)
     case rel => exact ⟨k, rfl, Ty.RMid.next Hd.out hl hk h2, hb2⟩
     case measure => simp [intOf]
 ·have HF := Lib.hid hf
  clear hf
  go_enter Tryd.func102, Tryd.ntmps102
  go_wp2
  go_loopw [5, 6] (fun vr i wr => ∃ k : Nat, i = .int .i64 ((k : Int) - 1) ∧ Ty.RMid w.heap.size n 4 k wr vr ∧ Below w.heap.size w wr) (fun _ i _ => (intOf i + 1).toNat)
  case atStart => exact ⟨4, rfl, .inl ⟨rfl, Ty.Buf.nil _ _⟩, Below.refl _ _⟩
  case round =>
   try clear h3
   try clear h2
   clear h1
   obtain ⟨k, rfl, hm, hb⟩ := hrel
   have hbs := hb.size
   rcases hm with ⟨rfl, hB⟩ | ⟨hk, done, hd, hl, hB⟩
   ·go_wp2_with (at_builtin; refine Ty.wpList_append_byte hB hbs (by simp) (.tmp 39) (.tmp 41) _ rfl rfl rfl rfl ?_; intro v2 w2 h2 g2)
    have hb2 := hb.trans (g2.below hbs hB.base)
    refine ⟨⟨3, rfl, Ty.RMid.first (by rw [HF.out]; rfl) rfl (Ty.rhead2 n HF.out) h2, hb2⟩, by simp [intOf]⟩
   ·rcases k with _ | k
    ·have Hdn : Hid (Ty.encU n = done) := Lib.hid (by simpa [Ty.low] using hd)
     have hcv := hB.str
     clear hd
     go_wp2
     go_ret
     exact ⟨by rw [Hdn.out]; rfl, hb⟩
    ·have Hd := Lib.hid hd
     clear hd
     have hne : ((k : Int) == 3) = false := by rw [beq_eq_false_iff_ne]; omega
     have hl2 : done.length + 1 ≤ 140737488355328 := by omega
     go_wp2_with (at_builtin; refine Ty.wpList_append_byte hB hbs hl2 (.tmp 39) (.tmp 41) _ rfl rfl rfl rfl ?_; intro v2 w2 h2 g2)
     go_roundw
     have hb2 := hb.trans (g2.below hbs hB.base)
     case rel => exact ⟨k, rfl, Ty.RMid.next Hd.out hl hk h2, hb2⟩
     case measure => simp [intOf]
 ·have HF := Lib.hid hf
  clear hf
  go_enter Tryd.func102, Tryd.ntmps102
  go_wp2
  go_loopw [5, 6] (fun vr i wr => ∃ k : Nat, i = .int .i64 ((k : Int) - 1) ∧ Ty.RMid w.heap.size n 9 k wr vr ∧ Below w.heap.size w wr) (fun _ i _ => (intOf i + 1).toNat)
  case atStart => exact ⟨9, rfl, .inl ⟨rfl, Ty.Buf.nil _ _⟩, Below.refl _ _⟩
  case round =>
   try clear h3
   try clear h2
   clear h1
   obtain ⟨k, rfl, hm, hb⟩ := hrel
   have hbs := hb.size
   rcases hm with ⟨rfl, hB⟩ | ⟨hk, done, hd, hl, hB⟩
   ·go_wp2_with (at_builtin; refine Ty.wpList_append_byte hB hbs (by simp) (.tmp 39) (.tmp 41) _ rfl rfl rfl rfl ?_; intro v2 w2 h2 g2)
    have hb2 := hb.trans (g2.below hbs hB.base)
    refine ⟨⟨8, rfl, Ty.RMid.first (by rw [HF.out]; rfl) rfl (Ty.rhead3 n HF.out) h2, hb2⟩, by simp [intOf]⟩
   ·rcases k with _ | k
    ·have Hdn : Hid (Ty.encU n = done) := Lib.hid (by simpa [Ty.low] using hd)
     have hcv := hB.str
     clear hd
     go_wp2
     go_ret
     exact ⟨by rw [Hdn.out]; rfl, hb⟩
    ·have Hd := Lib.hid hd
     clear hd
     have hne : ((k : Int) == 8) = false := by rw [beq_eq_false_iff_ne]; omega
     have hl2 : done.length + 1 ≤ 140737488355328 := by omega
     go_wp2_with (at_builtin; refine Ty.wpList_append_byte hB hbs hl2 (.tmp 39) (.tmp 41) _ rfl rfl rfl rfl ?_; intro v2 w2 h2 g2)
     go_roundw
     have hb2 := hb.trans (g2.below hbs hB.base)
     case rel => exact ⟨k, rfl, Ty.RMid.next Hd.out hl hk h2, hb2⟩
     case measure => simp [intOf]
set_option maxHeartbeats 400000 in
theorem Ty.open_nat (n : Nat) (w : World) (hn : Ty.U64 n) :
 Calls Tryd.prog 84 #[.int .u64 n] w fun e w' => e = .returned (.int .i64 (Ty.zag n)) ∧ w' = w := by
 by_cases h : n % 2 = 1
 ·have H := Lib.hid (Ty.w_odd hn h)
  go_enter Tryd.func84, Tryd.ntmps84
  go_wp2
  go_ret
  exact ⟨Ty.ret_i H.out, rfl⟩
 ·have H := Lib.hid (Ty.w_even hn h)
  go_enter Tryd.func84, Tryd.ntmps84
  go_wp2
  go_ret
  exact ⟨Ty.ret_i H.out, rfl⟩
end
section
open Go.RowKit
end
section
open Go.RowKit
end
section
open Go.RowKit
theorem Ty.Cur.drew {b : Nat} {w : World} {l : List UInt8} {e : Nat} (h : Ty.Cur b w l e) : Ty.Cur b w.drew l e := h
theorem Ty.Cur.drewN {b : Nat} {w : World} {l : List UInt8} {e : Nat} (h : Ty.Cur b w l e) (n : Nat) : Ty.Cur b (w.drewN n) l e := h
theorem Ty.Tabs.drewN {w : World} (h : Ty.Tabs w) (n : Nat) : Ty.Tabs (w.drewN n) := h.kept (Nat.le_refl _) fun _ _ => rfl
theorem Ty.rdU_of {l : List UInt8} {n sz e : Nat} (h : Ty.num l = (n, sz, e)) : Ty.rdU l 0 = (n, l.drop sz, e) := by unfold Ty.rdU; rw [if_neg (by omega), h]
theorem Ty.rdT_of {l t : List UInt8} {m : Int} {sz e : Nat} (h : Ty.txt l m = (t, sz, e)) : Ty.rdT m l 0 = (t, l.drop sz, e) := by unfold Ty.rdT; rw [if_neg (by omega), h]
theorem Ty.txt_len (l : List UInt8) (m : Int) : (Ty.txt l m).1.length ≤ l.length := by
 unfold Ty.txt
 repeat' split
 all_goals simp
 all_goals omega
end
section
open Go.RowKit
def Ty.RC (r : Nat) (w : World) (s : ByteArray) (at_ er : Nat) : Prop := w.heap[r]? = some (.cells #[.string s, .int .i64 (at_ : Int), .int .i64 (er : Int)] 82 (0, 0))
theorem Ty.RC.cells {r : Nat} {w : World} {s : ByteArray} {a e : Nat} (h : Ty.RC r w s a e) : w.cell? ⟨r, 0, none⟩ = some (.string s) ∧ w.cell? ⟨r, 1, none⟩ = some (.int .i64 (a : Int)) ∧ w.cell? ⟨r, 2, none⟩ = some (.int .i64 (e : Int)) ∧ w.frozen? ⟨r, 1, none⟩ = false ∧ w.frozen? ⟨r, 2, none⟩ = false := by
 unfold Ty.RC at h
 refine ⟨?_, ?_, ?_, ?_, ?_⟩ <;> simp [World.cell?, World.frozen?, h]
theorem Ty.RC.lt {r : Nat} {w : World} {s : ByteArray} {a e : Nat} (h : Ty.RC r w s a e) : r < w.heap.size := lt_of_block h
theorem Ty.RC.below {r : Nat} {w w' : World} {s : ByteArray} {a e : Nat} (h : Ty.RC r w s a e) {B : Nat} (hb : Below B w w') (hr : r < B) : Ty.RC r w' s a e := by
 unfold Ty.RC at h ⊢
 rw [hb.block r hr]
 exact h
theorem Ty.RC.drewN {r : Nat} {w : World} {s : ByteArray} {a e : Nat} (h : Ty.RC r w s a e) (n : Nat) : Ty.RC r (w.drewN n) s a e := h
theorem Ty.rc_set2 {r : Nat} {w : World} {s : ByteArray} {a e e' : Nat} (h : Ty.RC r w s a e) : Ty.RC r (w.setCell ⟨r, 2, none⟩ (.int .i64 (e' : Int))) s a e' := by
 unfold Ty.RC at h ⊢
 have hlt := lt_of_block h
 have h' : w.heap[r] = .cells #[.string s, .int .i64 (a : Int), .int .i64 (e : Int)] 82 (0, 0) := by simpa [Array.getElem?_eq_getElem hlt] using h
 show (w.heap.modify r _)[r]? = _
 rw [Array.getElem?_eq_getElem (by simpa using hlt), Array.getElem_modify_self, h']
 rfl
theorem Ty.rc_set1 {r : Nat} {w : World} {s : ByteArray} {a a' e : Nat} (h : Ty.RC r w s a e) : Ty.RC r (w.setCell ⟨r, 1, none⟩ (.int .i64 (a' : Int))) s a' e := by
 unfold Ty.RC at h ⊢
 have hlt := lt_of_block h
 have h' : w.heap[r] = .cells #[.string s, .int .i64 (a : Int), .int .i64 (e : Int)] 82 (0, 0) := by simpa [Array.getElem?_eq_getElem hlt] using h
 show (w.heap.modify r _)[r]? = _
 rw [Array.getElem?_eq_getElem (by simpa using hlt), Array.getElem_modify_self, h']
 rfl
set_option maxHeartbeats 400000 in
theorem Ty.size_c (b : Nat) (f : Nat) (hf : b / 64 = f) (hb : b < 256) (w : World) :
 Calls Tryd.prog 101 #[.int .u8 (b : Int)] w fun e w' => e = .returned (.int .i64 (1 + Ty.after f : Nat)) ∧ w' = w := by
 have hc : ((b : Int) < 64 ∧ f = 0) ∨ (¬ (b : Int) < 64 ∧ (b : Int) < 128 ∧ f = 1) ∨ (¬ (b : Int) < 64 ∧ ¬ (b : Int) < 128 ∧ (b : Int) < 192 ∧ f = 2) ∨ (¬ (b : Int) < 64 ∧ ¬ (b : Int) < 128 ∧ ¬ (b : Int) < 192 ∧ f = 3) := by omega
 clear hf
 rcases hc with ⟨h1, rfl⟩ | ⟨h1, h2, rfl⟩ | ⟨h1, h2, h3, rfl⟩ | ⟨h1, h2, h3, rfl⟩
 all_goals
  go_enter Tryd.func101, Tryd.ntmps101
  go_wp2
  go_ret
  exact ⟨rfl, rfl⟩
set_option maxHeartbeats 400000 in
theorem Ty.rleft_c (r : Nat) (s : ByteArray) (a er : Nat) (ha : a ≤ s.size) (hs : s.size ≤ 140737488351232) (w : World) (h : Ty.RC r w s a er) :
 Calls Tryd.prog 61 #[.pointer (some ⟨r, 0, none⟩)] w fun e w' => e = .returned (.int .i64 ((s.size - a : Nat) : Int)) ∧ ∃ n, w' = w.drewN n := by
 obtain ⟨c0, c1, c2, _, _⟩ := h.cells
 go_enter Tryd.func61, Tryd.ntmps61
 go_wp2
 go_quiet (fail)
 go_wp2
 go_ret
 exact ⟨Ty.ret_i (by omega), _, rfl⟩
set_option maxHeartbeats 400000 in
theorem Ty.fail_c (r : Nat) (s : ByteArray) (a e' : Nat) (w : World) (h : Ty.RC r w s a 0) :
 Calls Tryd.prog 83 #[.pointer (some ⟨r, 0, none⟩), .int .i64 (e' : Int)] w fun e w' => e = .returned (.tuple #[]) ∧ Ty.RC r w' s a e' ∧ w.grownBy w' (some r) := by
 obtain ⟨c0, c1, c2, f1, f2⟩ := h.cells
 go_enter Tryd.func83, Tryd.ntmps83
 go_wp2
 go_end0
 exact ⟨rfl, Ty.rc_set2 h, Ty.by_set _ _ _ _⟩
end
section
open Go.RowKit
theorem Ty.by_drewN (w : World) (n : Nat) (r : Option Nat) : w.grownBy (w.drewN n) r := ⟨rfl, rfl, rfl, Nat.le_refl _, fun _ _ _ => rfl⟩
theorem Ty.by_then {w w' : World} {r : Option Nat} (h : w.grownBy w' r) (n : Nat) : w.grownBy (w'.drewN n) r := Ty.by_trans h (Ty.by_drewN w' n r)
theorem Ty.by_below {w w' : World} (h : Below w.heap.size w w') : w.grownBy w' none := ⟨h.os, h.tape, h.output, h.size, fun k hk _ => h.block k hk⟩
theorem Ty.rleft_o (r : Nat) (s : ByteArray) (a er : Nat) (ha : a ≤ s.size) (hs : s.size ≤ 140737488351232) (w : World) (h : Ty.RC r w s a er) :
 Calls Tryd.prog 61 #[.pointer (some ⟨r, 0, none⟩)] w fun e w' => e = .returned (.int .i64 ((s.size - a : Nat) : Int)) ∧ Ty.RC r w' s a er ∧ w.grownBy w' none :=
 (Ty.rleft_c r s a er ha hs w h).mono fun e w' ⟨he, n, hw⟩ => by subst hw; exact ⟨he, h, Ty.by_drewN w n none⟩
theorem Ty.at_drop (s : ByteArray) (a k : Nat) (h : a + k < s.size) : s[a + k] = (s.data.toList.drop a).getD k 0 := by
 rw [Ty.at_getD s (a + k) h, List.getD, List.getD, List.getElem?_drop]
theorem Ty.len_drop (s : ByteArray) (a : Nat) : (s.data.toList.drop a).length = s.size - a := by rw [List.length_drop, Ty.length_data]
theorem Ty.rstep (l : List UInt8) (b : UInt8) (k : Nat) (hk : 1 ≤ k) (hp : Ty.pv l k < 72057594037927936) (hb : b = l.getD k 0) :
 IntKind.u64.wrap (IntKind.u64.wrap (256 * (Ty.pv l k : Int)) + IntKind.u64.wrap (b.toNat : Int)) = (Ty.pv l (k + 1) : Int) := by
 have h2 := b.toNat_lt
 rw [Ty.wrapu64 (256 * (Ty.pv l k : Int)) (by omega) (by omega), Ty.wrapu64 (b.toNat : Int) (by omega) (by omega), Ty.wrapu64 _ (by omega) (by omega), Ty.pv_succ l k hk, ← hb]
 omega
theorem Ty.len_small (n f : Nat) (hf : f ≤ 3) (h : n < Ty.small f) : (Ty.encU n).length ≠ 1 + Ty.after f := by
 rw [Ty.encU_length]
 have hb := Ty.form_is n
 rcases (by omega : f = 0 ∨ f = 1 ∨ f = 2 ∨ f = 3) with rfl | rfl | rfl | rfl
 ·simp [Ty.small] at h
 ·simp only [Ty.small] at h
  rw [show Ty.form n = 0 by omega]; decide
 ·simp only [Ty.small] at h
  rcases (by omega : Ty.form n = 0 ∨ Ty.form n = 1) with e | e <;> rw [e] <;> decide
 ·simp only [Ty.small] at h
  rcases (by omega : Ty.form n = 0 ∨ Ty.form n = 1 ∨ Ty.form n = 2) with e | e | e <;> rw [e] <;> decide
def Ty.Peeked (r : Nat) (s : ByteArray) (a er : Nat) (w : World) (e : Ending) (w' : World) : Prop := e = .returned (Ty.numV (s.data.toList.drop a)) ∧ Ty.RC r w' s a er ∧ w.grownBy w' none
set_option maxHeartbeats 1000000 in
theorem Ty.peek_end (r : Nat) (s : ByteArray) (a er : Nat) (ha : a = s.size) (hs : s.size ≤ 140737488351232) (w : World) (h : Ty.RC r w s a er) :
 Calls Tryd.prog 82 #[.pointer (some ⟨r, 0, none⟩)] w (Ty.Peeked r s a er w) := by
 have HN : Hid (Ty.num (s.data.toList.drop a) = (0, 0, 2)) := Lib.hid (by rw [List.drop_of_length_le (by rw [Ty.length_data]; omega)]; rfl)
 have hz : ((s.size - a : Nat) : Int) < 1 := by omega
 have hle : a ≤ s.size := by omega
 clear ha
 go_enter Tryd.func82, Tryd.ntmps82
 go_wp2_with fail
 refine (Ty.rleft_o r s a er hle hs _ h).mono ?_
 rintro e w1 ⟨rfl, hR1, g1⟩
 go_wp2
 go_ret3
 exact ⟨by unfold Ty.numV; rw [HN.out]; rfl, hR1, g1⟩
set_option maxHeartbeats 1000000 in
theorem Ty.peek_high (r : Nat) (s : ByteArray) (a er : Nat) (ha : a < s.size) (hs : s.size ≤ 140737488351232) (h1 : 192 < s[a].toNat) (w : World) (h : Ty.RC r w s a er) :
 Calls Tryd.prog 82 #[.pointer (some ⟨r, 0, none⟩)] w (Ty.Peeked r s a er w) := by
 have e0 := Ty.at_drop s a 0 (by omega)
 have HN : Hid (Ty.num (s.data.toList.drop a) = (0, 0, 5)) := Lib.hid (Ty.num_high (by rw [Ty.len_drop]; omega) (by rw [← e0]; exact h1))
 have hl8 := s[a].toNat_lt
 have HQ : Hid (s[a].toNat / 64 = 3) := Lib.hid (by omega)
 have hpos : (1 : Int) ≤ ((s.size - a : Nat) : Int) := by omega
 have hne : ((s[a].toNat : Int) != 192) = true := by rw [bne_iff_ne]; omega
 have hle : a ≤ s.size := by omega
 clear h1 e0
 go_enter Tryd.func82, Tryd.ntmps82
 go_wp2_with fail
 refine (Ty.rleft_o r s a er hle hs _ h).mono ?_
 rintro e w1 ⟨rfl, hR1, g1⟩
 obtain ⟨c0, c1, c2, _, _⟩ := hR1.cells
 go_wp2_with fail
 go_quiet ((go_at_call 101; exact Calls.quiet_of_same (Ty.size_c _ 3 HQ.out hl8 _)))
 have ea : ((1 + Ty.after 3 : Nat) : Int) = 9 := rfl
 rw [ea]
 go_wp2_with fail
 go_quiet (fail)
 go_wp2
 go_ret3
 exact ⟨by unfold Ty.numV; rw [HN.out]; rfl, by first | exact hR1.drewN _ | exact (hR1.drewN _).drewN _, by first | exact Ty.by_then g1 _ | exact Ty.by_then (Ty.by_then g1 _) _⟩
set_option maxHeartbeats 2000000 in
theorem Ty.peek_0 (r : Nat) (s : ByteArray) (a er : Nat) (ha : a < s.size) (hs : s.size ≤ 140737488351232) (h1 : s[a].toNat ≤ 192) (h2 : s[a].toNat / 64 = 0) (w : World) (h : Ty.RC r w s a er) :
 Calls Tryd.prog 82 #[.pointer (some ⟨r, 0, none⟩)] w (Ty.Peeked r s a er w) := by
 have e0 := Ty.at_drop s a 0 (by omega)
 simp only [Nat.add_zero] at e0
 have H0 : Hid (0 < (s.data.toList.drop a).length) := Lib.hid (by rw [Ty.len_drop]; omega)
 have Hb : Hid (¬ 192 < ((s.data.toList.drop a).getD 0 0).toNat) := Lib.hid (by rw [← e0]; omega)
 have Hf : Hid (((s.data.toList.drop a).getD 0 0).toNat / 64 = 0) := Lib.hid (by rw [← e0]; exact h2)
 have hl8 := s[a].toNat_lt
 have HQ := Lib.hid h2
 have E0 := Lib.hid e0
 have hpos : (1 : Int) ≤ ((s.size - a : Nat) : Int) := by omega
 have hle : a ≤ s.size := by omega
 clear h2 e0 h1
 obtain ⟨PV, HPV⟩ : ∃ f : Nat → Int, Hid (∀ k, f k = (Ty.pv (s.data.toList.drop a) k : Int)) := ⟨fun k => (Ty.pv (s.data.toList.drop a) k : Int), fun _ => rfl⟩
 have Hst : Hid (∀ k, 1 ≤ k → k < 1 → Ty.pv (s.data.toList.drop a) k < 72057594037927936) := Lib.hid fun k p b => Ty.pv_small4 _ k p (by omega)
 by_cases h4 : (1 : Int) ≤ ((s.size - a : Nat) : Int)
 ·have Hl : Hid (¬ (s.data.toList.drop a).length < 1 + Ty.after 0) := Lib.hid (by rw [Ty.len_drop]; show ¬ s.size - a < 1; omega)
  go_enter Tryd.func82, Tryd.ntmps82
  go_wp2_with fail
  refine (Ty.rleft_o r s a er hle hs _ h).mono ?_
  rintro e w1 ⟨rfl, hR1, g1⟩
  obtain ⟨c0, c1, c2, _, _⟩ := hR1.cells
  go_wp2_with fail
  go_quiet ((go_at_call 101; exact Calls.quiet_of_same (Ty.size_c _ 0 HQ.out hl8 _)))
  have ea : ((1 + Ty.after 0 : Nat) : Int) = 1 := rfl
  rw [ea]
  go_wp2_with fail
  go_quiet (fail)
  go_wp2_with fail
  refine (Ty.rleft_o r s a er hle hs _ (hR1.drewN _)).mono ?_
  rintro e w2 ⟨rfl, hR2, g2⟩
  clear c0 c1 c2 ea
  obtain ⟨c0, c1, c2, _, _⟩ := hR2.cells
  go_wp2_with fail
  go_quiet (fail)
  have gg : w.grownBy (w2.drewN nq) none := Ty.by_then (Ty.by_trans g1 (Ty.by_trans (Ty.by_drewN _ _ _) g2)) nq
  have hR3 := hR2.drewN nq
  generalize w2.drewN nq = w3 at gg hR3 ⊢
  clear c0 c1 c2 g1 g2 hR1 hR2
  go_wp2_with fail
  go_loopw [6, 7] (fun x i wr => ∃ k : Nat, 1 ≤ k ∧ k ≤ 1 ∧ i = .int .i64 k ∧ x = .int .u64 (PV k) ∧ Ty.RC r wr s a er ∧ w.grownBy wr none) (fun _ i _ => 1 - (intOf i).toNat)
  case atStart => exact ⟨1, by omega, by omega, rfl, by rw [HPV.out]; simp [Ty.pv, E0.out], hR3, gg⟩
  case round =>
  obtain ⟨k, hk1, hk2, rfl, rfl, hR, hg⟩ := hrel
  obtain ⟨c0, c1, c2, _, _⟩ := hR.cells
  by_cases hk : k < 1
  ·exact absurd hk (by omega)
  ·obtain rfl : k = 1 := by omega
   have HN := Lib.hid (Ty.num_whole H0.out Hb.out Hf.out Hl.out (by show ¬ Ty.pv _ 1 < 0; have := HPV.out 1; omega))
   have hq : (((Ty.S (Ty.encU (Ty.pv (s.data.toList.drop a) 1))).size : Int) != 1) = false := by
    have hfm := Ty.pv_form (s.data.toList.drop a) 0 (by omega) (by intro h3; exact absurd h3 (by omega)) (by show 0 ≤ Ty.pv _ 1; have := HPV.out 1; omega)
    have hen := Ty.encU_length (Ty.pv (s.data.toList.drop a) 1)
    rw [show Ty.pv (s.data.toList.drop a) 1 = Ty.pv (s.data.toList.drop a) (1 + Ty.after 0) from rfl] at hen ⊢
    rw [hfm] at hen
    rw [bne_eq_false_iff_eq, Ty.size_S, hen]
    rfl
   go_wp2_with fail
   rw [HPV.out]
   refine (Ty.ruint_nat _ _).mono ?_
   rintro e w5 ⟨rfl, hb5⟩
   go_wp2
   go_ret3
   exact ⟨by unfold Ty.numV; rw [HN.out]; rfl, hR.below hb5 hR.lt, Ty.by_trans hg (Ty.by_below hb5)⟩
 ·exact absurd hpos h4
set_option maxHeartbeats 2000000 in
theorem Ty.peek_1 (r : Nat) (s : ByteArray) (a er : Nat) (ha : a < s.size) (hs : s.size ≤ 140737488351232) (h1 : s[a].toNat ≤ 192) (h2 : s[a].toNat / 64 = 1) (w : World) (h : Ty.RC r w s a er) :
 Calls Tryd.prog 82 #[.pointer (some ⟨r, 0, none⟩)] w (Ty.Peeked r s a er w) := by
 have e0 := Ty.at_drop s a 0 (by omega)
 simp only [Nat.add_zero] at e0
 have H0 : Hid (0 < (s.data.toList.drop a).length) := Lib.hid (by rw [Ty.len_drop]; omega)
 have Hb : Hid (¬ 192 < ((s.data.toList.drop a).getD 0 0).toNat) := Lib.hid (by rw [← e0]; omega)
 have Hf : Hid (((s.data.toList.drop a).getD 0 0).toNat / 64 = 1) := Lib.hid (by rw [← e0]; exact h2)
 have hl8 := s[a].toNat_lt
 have HQ := Lib.hid h2
 have E0 := Lib.hid e0
 have hpos : (1 : Int) ≤ ((s.size - a : Nat) : Int) := by omega
 have hle : a ≤ s.size := by omega
 clear h2 e0 h1
 obtain ⟨PV, HPV⟩ : ∃ f : Nat → Int, Hid (∀ k, f k = (Ty.pv (s.data.toList.drop a) k : Int)) := ⟨fun k => (Ty.pv (s.data.toList.drop a) k : Int), fun _ => rfl⟩
 have Hst : Hid (∀ k, 1 ≤ k → k < 2 → Ty.pv (s.data.toList.drop a) k < 72057594037927936) := Lib.hid fun k p b => Ty.pv_small4 _ k p (by omega)
 by_cases h4 : (2 : Int) ≤ ((s.size - a : Nat) : Int)
 ·have Hl : Hid (¬ (s.data.toList.drop a).length < 1 + Ty.after 1) := Lib.hid (by rw [Ty.len_drop]; show ¬ s.size - a < 2; omega)
  go_enter Tryd.func82, Tryd.ntmps82
  go_wp2_with fail
  refine (Ty.rleft_o r s a er hle hs _ h).mono ?_
  rintro e w1 ⟨rfl, hR1, g1⟩
  obtain ⟨c0, c1, c2, _, _⟩ := hR1.cells
  go_wp2_with fail
  go_quiet ((go_at_call 101; exact Calls.quiet_of_same (Ty.size_c _ 1 HQ.out hl8 _)))
  have ea : ((1 + Ty.after 1 : Nat) : Int) = 2 := rfl
  rw [ea]
  go_wp2_with fail
  go_quiet (fail)
  go_wp2_with fail
  refine (Ty.rleft_o r s a er hle hs _ (hR1.drewN _)).mono ?_
  rintro e w2 ⟨rfl, hR2, g2⟩
  clear c0 c1 c2 ea
  obtain ⟨c0, c1, c2, _, _⟩ := hR2.cells
  go_wp2_with fail
  go_quiet (fail)
  have gg : w.grownBy (w2.drewN nq) none := Ty.by_then (Ty.by_trans g1 (Ty.by_trans (Ty.by_drewN _ _ _) g2)) nq
  have hR3 := hR2.drewN nq
  generalize w2.drewN nq = w3 at gg hR3 ⊢
  clear c0 c1 c2 g1 g2 hR1 hR2
  go_wp2_with fail
  go_loopw [6, 7] (fun x i wr => ∃ k : Nat, 1 ≤ k ∧ k ≤ 2 ∧ i = .int .i64 k ∧ x = .int .u64 (PV k) ∧ Ty.RC r wr s a er ∧ w.grownBy wr none) (fun _ i _ => 2 - (intOf i).toNat)
  case atStart => exact ⟨1, by omega, by omega, rfl, by rw [HPV.out]; simp [Ty.pv, E0.out], hR3, gg⟩
  case round =>
  obtain ⟨k, hk1, hk2, rfl, rfl, hR, hg⟩ := hrel
  obtain ⟨c0, c1, c2, _, _⟩ := hR.cells
  by_cases hk : k < 2
  ·have hks : a + k < s.size := by omega
   have e1 : IntKind.i64.wrap ((a : Int) + (k : Int)) = (a : Int) + (k : Int) := IntWalk.i64_in _ (by omega)
   have e2 : 0 ≤ (a : Int) + (k : Int) := by omega
   have e3 : ((a : Int) + (k : Int)).toNat = a + k := by omega
   have e4 : (a : Int) + (k : Int) < (s.size : Int) := by omega
   have hix : ∀ wx : World, (Instr.index 9 (.string s) (.int .i64 ((a : Int) + (k : Int)))).run Tryd.prog wx = .ok (.int .u8 (s[a + k].toNat : Int)) wx := fun wx => by
    simp [go_sem, Tryd.underlying9, e2, e3, e4]
   clear e2 e3 e4
   go_wp2_with fail
   go_quiet (fail)
   go_wp2_with fail
   go_roundw
   case rel => exact ⟨k + 1, by omega, by omega, by simp, by rw [HPV.out, HPV.out]; exact congrArg (Value.int .u64) (Ty.rstep _ _ k hk1 (Hst.out k hk1 hk) (Ty.at_drop s a k hks)), hR.drewN _, Ty.by_then hg _⟩
   case measure => simp [intOf]; omega
  ·obtain rfl : k = 2 := by omega
   by_cases h5 : PV 2 < 64
   ·have HN := Lib.hid (Ty.num_less H0.out Hb.out Hf.out Hl.out (by show Ty.pv _ 2 < 64; have := HPV.out 2; omega))
    have hq : (((Ty.S (Ty.encU (Ty.pv (s.data.toList.drop a) 2))).size : Int) != 2) = true := by
     have := Ty.len_small (Ty.pv (s.data.toList.drop a) 2) 1 (by omega) (by show _ < 64; have := HPV.out 2; omega)
     rw [bne_iff_ne, Ty.size_S]
     intro e
     exact this (by simp only [Ty.after]; omega)
    clear h5
    go_wp2_with fail
    rw [HPV.out]
    refine (Ty.ruint_nat _ _).mono ?_
    rintro e w5 ⟨rfl, hb5⟩
    go_wp2
    go_ret3
    exact ⟨by unfold Ty.numV; rw [HN.out]; rfl, hR.below hb5 hR.lt, Ty.by_trans hg (Ty.by_below hb5)⟩
   ·have HN := Lib.hid (Ty.num_whole H0.out Hb.out Hf.out Hl.out (by show ¬ Ty.pv _ 2 < 64; have := HPV.out 2; omega))
    have hq : (((Ty.S (Ty.encU (Ty.pv (s.data.toList.drop a) 2))).size : Int) != 2) = false := by
     have hfm := Ty.pv_form (s.data.toList.drop a) 1 (by omega) (by intro h3; exact absurd h3 (by omega)) (by show 64 ≤ Ty.pv _ 2; have := HPV.out 2; omega)
     have hen := Ty.encU_length (Ty.pv (s.data.toList.drop a) 2)
     rw [show Ty.pv (s.data.toList.drop a) 2 = Ty.pv (s.data.toList.drop a) (1 + Ty.after 1) from rfl] at hen ⊢
     rw [hfm] at hen
     rw [bne_eq_false_iff_eq, Ty.size_S, hen]
     rfl
    clear h5
    go_wp2_with fail
    rw [HPV.out]
    refine (Ty.ruint_nat _ _).mono ?_
    rintro e w5 ⟨rfl, hb5⟩
    go_wp2
    go_ret3
    exact ⟨by unfold Ty.numV; rw [HN.out]; rfl, hR.below hb5 hR.lt, Ty.by_trans hg (Ty.by_below hb5)⟩
 ·have HN := Lib.hid (Ty.num_cut H0.out Hb.out Hf.out (by rw [Ty.len_drop]; show s.size - a < 2; omega))
  go_enter Tryd.func82, Tryd.ntmps82
  go_wp2_with fail
  refine (Ty.rleft_o r s a er hle hs _ h).mono ?_
  rintro e w1 ⟨rfl, hR1, g1⟩
  obtain ⟨c0, c1, c2, _, _⟩ := hR1.cells
  go_wp2_with fail
  go_quiet ((go_at_call 101; exact Calls.quiet_of_same (Ty.size_c _ 1 HQ.out hl8 _)))
  have ea : ((1 + Ty.after 1 : Nat) : Int) = 2 := rfl
  rw [ea]
  go_wp2_with fail
  go_quiet (fail)
  go_wp2_with fail
  refine (Ty.rleft_o r s a er hle hs _ (hR1.drewN _)).mono ?_
  rintro e w2 ⟨rfl, hR2, g2⟩
  go_wp2
  go_ret3
  exact ⟨by unfold Ty.numV; rw [HN.out]; rfl, hR2, Ty.by_trans g1 (Ty.by_trans (Ty.by_drewN _ _ _) g2)⟩
set_option maxHeartbeats 2000000 in
theorem Ty.peek_2 (r : Nat) (s : ByteArray) (a er : Nat) (ha : a < s.size) (hs : s.size ≤ 140737488351232) (h1 : s[a].toNat ≤ 192) (h2 : s[a].toNat / 64 = 2) (w : World) (h : Ty.RC r w s a er) :
 Calls Tryd.prog 82 #[.pointer (some ⟨r, 0, none⟩)] w (Ty.Peeked r s a er w) := by
 have e0 := Ty.at_drop s a 0 (by omega)
 simp only [Nat.add_zero] at e0
 have H0 : Hid (0 < (s.data.toList.drop a).length) := Lib.hid (by rw [Ty.len_drop]; omega)
 have Hb : Hid (¬ 192 < ((s.data.toList.drop a).getD 0 0).toNat) := Lib.hid (by rw [← e0]; omega)
 have Hf : Hid (((s.data.toList.drop a).getD 0 0).toNat / 64 = 2) := Lib.hid (by rw [← e0]; exact h2)
 have hl8 := s[a].toNat_lt
 have HQ := Lib.hid h2
 have E0 := Lib.hid e0
 have hpos : (1 : Int) ≤ ((s.size - a : Nat) : Int) := by omega
 have hle : a ≤ s.size := by omega
 clear h2 e0 h1
 obtain ⟨PV, HPV⟩ : ∃ f : Nat → Int, Hid (∀ k, f k = (Ty.pv (s.data.toList.drop a) k : Int)) := ⟨fun k => (Ty.pv (s.data.toList.drop a) k : Int), fun _ => rfl⟩
 have Hst : Hid (∀ k, 1 ≤ k → k < 4 → Ty.pv (s.data.toList.drop a) k < 72057594037927936) := Lib.hid fun k p b => Ty.pv_small4 _ k p (by omega)
 by_cases h4 : (4 : Int) ≤ ((s.size - a : Nat) : Int)
 ·have Hl : Hid (¬ (s.data.toList.drop a).length < 1 + Ty.after 2) := Lib.hid (by rw [Ty.len_drop]; show ¬ s.size - a < 4; omega)
  go_enter Tryd.func82, Tryd.ntmps82
  go_wp2_with fail
  refine (Ty.rleft_o r s a er hle hs _ h).mono ?_
  rintro e w1 ⟨rfl, hR1, g1⟩
  obtain ⟨c0, c1, c2, _, _⟩ := hR1.cells
  go_wp2_with fail
  go_quiet ((go_at_call 101; exact Calls.quiet_of_same (Ty.size_c _ 2 HQ.out hl8 _)))
  have ea : ((1 + Ty.after 2 : Nat) : Int) = 4 := rfl
  rw [ea]
  go_wp2_with fail
  go_quiet (fail)
  go_wp2_with fail
  refine (Ty.rleft_o r s a er hle hs _ (hR1.drewN _)).mono ?_
  rintro e w2 ⟨rfl, hR2, g2⟩
  clear c0 c1 c2 ea
  obtain ⟨c0, c1, c2, _, _⟩ := hR2.cells
  go_wp2_with fail
  go_quiet (fail)
  have gg : w.grownBy (w2.drewN nq) none := Ty.by_then (Ty.by_trans g1 (Ty.by_trans (Ty.by_drewN _ _ _) g2)) nq
  have hR3 := hR2.drewN nq
  generalize w2.drewN nq = w3 at gg hR3 ⊢
  clear c0 c1 c2 g1 g2 hR1 hR2
  go_wp2_with fail
  go_loopw [6, 7] (fun x i wr => ∃ k : Nat, 1 ≤ k ∧ k ≤ 4 ∧ i = .int .i64 k ∧ x = .int .u64 (PV k) ∧ Ty.RC r wr s a er ∧ w.grownBy wr none) (fun _ i _ => 4 - (intOf i).toNat)
  case atStart => exact ⟨1, by omega, by omega, rfl, by rw [HPV.out]; simp [Ty.pv, E0.out], hR3, gg⟩
  case round =>
  obtain ⟨k, hk1, hk2, rfl, rfl, hR, hg⟩ := hrel
  obtain ⟨c0, c1, c2, _, _⟩ := hR.cells
  by_cases hk : k < 4
  ·have hks : a + k < s.size := by omega
   have e1 : IntKind.i64.wrap ((a : Int) + (k : Int)) = (a : Int) + (k : Int) := IntWalk.i64_in _ (by omega)
   have e2 : 0 ≤ (a : Int) + (k : Int) := by omega
   have e3 : ((a : Int) + (k : Int)).toNat = a + k := by omega
   have e4 : (a : Int) + (k : Int) < (s.size : Int) := by omega
   have hix : ∀ wx : World, (Instr.index 9 (.string s) (.int .i64 ((a : Int) + (k : Int)))).run Tryd.prog wx = .ok (.int .u8 (s[a + k].toNat : Int)) wx := fun wx => by
    simp [go_sem, Tryd.underlying9, e2, e3, e4]
   clear e2 e3 e4
   go_wp2_with fail
   go_quiet (fail)
   go_wp2_with fail
   go_roundw
   case rel => exact ⟨k + 1, by omega, by omega, by simp, by rw [HPV.out, HPV.out]; exact congrArg (Value.int .u64) (Ty.rstep _ _ k hk1 (Hst.out k hk1 hk) (Ty.at_drop s a k hks)), hR.drewN _, Ty.by_then hg _⟩
   case measure => simp [intOf]; omega
  ·obtain rfl : k = 4 := by omega
   by_cases h5 : PV 4 < 16384
   ·have HN := Lib.hid (Ty.num_less H0.out Hb.out Hf.out Hl.out (by show Ty.pv _ 4 < 16384; have := HPV.out 4; omega))
    have hq : (((Ty.S (Ty.encU (Ty.pv (s.data.toList.drop a) 4))).size : Int) != 4) = true := by
     have := Ty.len_small (Ty.pv (s.data.toList.drop a) 4) 2 (by omega) (by show _ < 16384; have := HPV.out 4; omega)
     rw [bne_iff_ne, Ty.size_S]
     intro e
     exact this (by simp only [Ty.after]; omega)
    clear h5
    go_wp2_with fail
    rw [HPV.out]
    refine (Ty.ruint_nat _ _).mono ?_
    rintro e w5 ⟨rfl, hb5⟩
    go_wp2
    go_ret3
    exact ⟨by unfold Ty.numV; rw [HN.out]; rfl, hR.below hb5 hR.lt, Ty.by_trans hg (Ty.by_below hb5)⟩
   ·have HN := Lib.hid (Ty.num_whole H0.out Hb.out Hf.out Hl.out (by show ¬ Ty.pv _ 4 < 16384; have := HPV.out 4; omega))
    have hq : (((Ty.S (Ty.encU (Ty.pv (s.data.toList.drop a) 4))).size : Int) != 4) = false := by
     have hfm := Ty.pv_form (s.data.toList.drop a) 2 (by omega) (by intro h3; exact absurd h3 (by omega)) (by show 16384 ≤ Ty.pv _ 4; have := HPV.out 4; omega)
     have hen := Ty.encU_length (Ty.pv (s.data.toList.drop a) 4)
     rw [show Ty.pv (s.data.toList.drop a) 4 = Ty.pv (s.data.toList.drop a) (1 + Ty.after 2) from rfl] at hen ⊢
     rw [hfm] at hen
     rw [bne_eq_false_iff_eq, Ty.size_S, hen]
     rfl
    clear h5
    go_wp2_with fail
    rw [HPV.out]
    refine (Ty.ruint_nat _ _).mono ?_
    rintro e w5 ⟨rfl, hb5⟩
    go_wp2
    go_ret3
    exact ⟨by unfold Ty.numV; rw [HN.out]; rfl, hR.below hb5 hR.lt, Ty.by_trans hg (Ty.by_below hb5)⟩
 ·have HN := Lib.hid (Ty.num_cut H0.out Hb.out Hf.out (by rw [Ty.len_drop]; show s.size - a < 4; omega))
  go_enter Tryd.func82, Tryd.ntmps82
  go_wp2_with fail
  refine (Ty.rleft_o r s a er hle hs _ h).mono ?_
  rintro e w1 ⟨rfl, hR1, g1⟩
  obtain ⟨c0, c1, c2, _, _⟩ := hR1.cells
  go_wp2_with fail
  go_quiet ((go_at_call 101; exact Calls.quiet_of_same (Ty.size_c _ 2 HQ.out hl8 _)))
  have ea : ((1 + Ty.after 2 : Nat) : Int) = 4 := rfl
  rw [ea]
  go_wp2_with fail
  go_quiet (fail)
  go_wp2_with fail
  refine (Ty.rleft_o r s a er hle hs _ (hR1.drewN _)).mono ?_
  rintro e w2 ⟨rfl, hR2, g2⟩
  go_wp2
  go_ret3
  exact ⟨by unfold Ty.numV; rw [HN.out]; rfl, hR2, Ty.by_trans g1 (Ty.by_trans (Ty.by_drewN _ _ _) g2)⟩
set_option maxHeartbeats 2000000 in
theorem Ty.peek_3 (r : Nat) (s : ByteArray) (a er : Nat) (ha : a < s.size) (hs : s.size ≤ 140737488351232) (h1 : s[a].toNat ≤ 192) (h2 : s[a].toNat / 64 = 3) (w : World) (h : Ty.RC r w s a er) :
 Calls Tryd.prog 82 #[.pointer (some ⟨r, 0, none⟩)] w (Ty.Peeked r s a er w) := by
 have e0 := Ty.at_drop s a 0 (by omega)
 simp only [Nat.add_zero] at e0
 have H0 : Hid (0 < (s.data.toList.drop a).length) := Lib.hid (by rw [Ty.len_drop]; omega)
 have Hb : Hid (¬ 192 < ((s.data.toList.drop a).getD 0 0).toNat) := Lib.hid (by rw [← e0]; omega)
 have Hf : Hid (((s.data.toList.drop a).getD 0 0).toNat / 64 = 3) := Lib.hid (by rw [← e0]; exact h2)
 have hl8 := s[a].toNat_lt
 have HQ := Lib.hid h2
 have E0 := Lib.hid e0
 have hpos : (1 : Int) ≤ ((s.size - a : Nat) : Int) := by omega
 have hle : a ≤ s.size := by omega
 have hne : ((s[a].toNat : Int) != 192) = false := by rw [bne_eq_false_iff_eq]; omega
 clear h2 e0 h1
 obtain ⟨PV, HPV⟩ : ∃ f : Nat → Int, Hid (∀ k, f k = (Ty.pv (s.data.toList.drop a) k : Int)) := ⟨fun k => (Ty.pv (s.data.toList.drop a) k : Int), fun _ => rfl⟩
 have Hst : Hid (∀ k, 1 ≤ k → k < 9 → Ty.pv (s.data.toList.drop a) k < 72057594037927936) := Lib.hid fun k p b => Ty.pv_small8 _ (by have := Hb.out; have := Hf.out; omega) k p (by omega)
 by_cases h4 : (9 : Int) ≤ ((s.size - a : Nat) : Int)
 ·have Hl : Hid (¬ (s.data.toList.drop a).length < 1 + Ty.after 3) := Lib.hid (by rw [Ty.len_drop]; show ¬ s.size - a < 9; omega)
  go_enter Tryd.func82, Tryd.ntmps82
  go_wp2_with fail
  refine (Ty.rleft_o r s a er hle hs _ h).mono ?_
  rintro e w1 ⟨rfl, hR1, g1⟩
  obtain ⟨c0, c1, c2, _, _⟩ := hR1.cells
  go_wp2_with fail
  go_quiet ((go_at_call 101; exact Calls.quiet_of_same (Ty.size_c _ 3 HQ.out hl8 _)))
  have ea : ((1 + Ty.after 3 : Nat) : Int) = 9 := rfl
  rw [ea]
  go_wp2_with fail
  go_quiet (fail)
  go_wp2_with fail
  refine (Ty.rleft_o r s a er hle hs _ (hR1.drewN _)).mono ?_
  rintro e w2 ⟨rfl, hR2, g2⟩
  clear c0 c1 c2 ea
  obtain ⟨c0, c1, c2, _, _⟩ := hR2.cells
  go_wp2_with fail
  go_quiet (fail)
  have gg : w.grownBy (w2.drewN nq) none := Ty.by_then (Ty.by_trans g1 (Ty.by_trans (Ty.by_drewN _ _ _) g2)) nq
  have hR3 := hR2.drewN nq
  generalize w2.drewN nq = w3 at gg hR3 ⊢
  clear c0 c1 c2 g1 g2 hR1 hR2
  go_wp2_with fail
  go_loopw [6, 7] (fun x i wr => ∃ k : Nat, 1 ≤ k ∧ k ≤ 9 ∧ i = .int .i64 k ∧ x = .int .u64 (PV k) ∧ Ty.RC r wr s a er ∧ w.grownBy wr none) (fun _ i _ => 9 - (intOf i).toNat)
  case atStart => exact ⟨1, by omega, by omega, rfl, by rw [HPV.out]; simp [Ty.pv, E0.out], hR3, gg⟩
  case round =>
  obtain ⟨k, hk1, hk2, rfl, rfl, hR, hg⟩ := hrel
  obtain ⟨c0, c1, c2, _, _⟩ := hR.cells
  by_cases hk : k < 9
  ·have hks : a + k < s.size := by omega
   have e1 : IntKind.i64.wrap ((a : Int) + (k : Int)) = (a : Int) + (k : Int) := IntWalk.i64_in _ (by omega)
   have e2 : 0 ≤ (a : Int) + (k : Int) := by omega
   have e3 : ((a : Int) + (k : Int)).toNat = a + k := by omega
   have e4 : (a : Int) + (k : Int) < (s.size : Int) := by omega
   have hix : ∀ wx : World, (Instr.index 9 (.string s) (.int .i64 ((a : Int) + (k : Int)))).run Tryd.prog wx = .ok (.int .u8 (s[a + k].toNat : Int)) wx := fun wx => by
    simp [go_sem, Tryd.underlying9, e2, e3, e4]
   clear e2 e3 e4
   go_wp2_with fail
   go_quiet (fail)
   go_wp2_with fail
   go_roundw
   case rel => exact ⟨k + 1, by omega, by omega, by simp, by rw [HPV.out, HPV.out]; exact congrArg (Value.int .u64) (Ty.rstep _ _ k hk1 (Hst.out k hk1 hk) (Ty.at_drop s a k hks)), hR.drewN _, Ty.by_then hg _⟩
   case measure => simp [intOf]; omega
  ·obtain rfl : k = 9 := by omega
   by_cases h5 : PV 9 < 1073741824
   ·have HN := Lib.hid (Ty.num_less H0.out Hb.out Hf.out Hl.out (by show Ty.pv _ 9 < 1073741824; have := HPV.out 9; omega))
    have hq : (((Ty.S (Ty.encU (Ty.pv (s.data.toList.drop a) 9))).size : Int) != 9) = true := by
     have := Ty.len_small (Ty.pv (s.data.toList.drop a) 9) 3 (by omega) (by show _ < 1073741824; have := HPV.out 9; omega)
     rw [bne_iff_ne, Ty.size_S]
     intro e
     exact this (by simp only [Ty.after]; omega)
    clear h5
    go_wp2_with fail
    rw [HPV.out]
    refine (Ty.ruint_nat _ _).mono ?_
    rintro e w5 ⟨rfl, hb5⟩
    go_wp2
    go_ret3
    exact ⟨by unfold Ty.numV; rw [HN.out]; rfl, hR.below hb5 hR.lt, Ty.by_trans hg (Ty.by_below hb5)⟩
   ·have HN := Lib.hid (Ty.num_whole H0.out Hb.out Hf.out Hl.out (by show ¬ Ty.pv _ 9 < 1073741824; have := HPV.out 9; omega))
    have hq : (((Ty.S (Ty.encU (Ty.pv (s.data.toList.drop a) 9))).size : Int) != 9) = false := by
     have hfm := Ty.pv_form (s.data.toList.drop a) 3 (by omega) (by intro h3; have := Hb.out; have := Hf.out; omega) (by show 1073741824 ≤ Ty.pv _ 9; have := HPV.out 9; omega)
     have hen := Ty.encU_length (Ty.pv (s.data.toList.drop a) 9)
     rw [show Ty.pv (s.data.toList.drop a) 9 = Ty.pv (s.data.toList.drop a) (1 + Ty.after 3) from rfl] at hen ⊢
     rw [hfm] at hen
     rw [bne_eq_false_iff_eq, Ty.size_S, hen]
     rfl
    clear h5
    go_wp2_with fail
    rw [HPV.out]
    refine (Ty.ruint_nat _ _).mono ?_
    rintro e w5 ⟨rfl, hb5⟩
    go_wp2
    go_ret3
    exact ⟨by unfold Ty.numV; rw [HN.out]; rfl, hR.below hb5 hR.lt, Ty.by_trans hg (Ty.by_below hb5)⟩
 ·have HN := Lib.hid (Ty.num_cut H0.out Hb.out Hf.out (by rw [Ty.len_drop]; show s.size - a < 9; omega))
  go_enter Tryd.func82, Tryd.ntmps82
  go_wp2_with fail
  refine (Ty.rleft_o r s a er hle hs _ h).mono ?_
  rintro e w1 ⟨rfl, hR1, g1⟩
  obtain ⟨c0, c1, c2, _, _⟩ := hR1.cells
  go_wp2_with fail
  go_quiet ((go_at_call 101; exact Calls.quiet_of_same (Ty.size_c _ 3 HQ.out hl8 _)))
  have ea : ((1 + Ty.after 3 : Nat) : Int) = 9 := rfl
  rw [ea]
  go_wp2_with fail
  go_quiet (fail)
  go_wp2_with fail
  refine (Ty.rleft_o r s a er hle hs _ (hR1.drewN _)).mono ?_
  rintro e w2 ⟨rfl, hR2, g2⟩
  go_wp2
  go_ret3
  exact ⟨by unfold Ty.numV; rw [HN.out]; rfl, hR2, Ty.by_trans g1 (Ty.by_trans (Ty.by_drewN _ _ _) g2)⟩
theorem Ty.peek_c (r : Nat) (s : ByteArray) (a er : Nat) (ha : a ≤ s.size) (hs : s.size ≤ 140737488351232) (w : World) (h : Ty.RC r w s a er) :
 Calls Tryd.prog 82 #[.pointer (some ⟨r, 0, none⟩)] w (Ty.Peeked r s a er w) := by
 rcases Nat.lt_or_eq_of_le ha with hl | he
 ·by_cases h1 : s[a].toNat ≤ 192
  ·rcases (by omega : s[a].toNat / 64 = 0 ∨ s[a].toNat / 64 = 1 ∨ s[a].toNat / 64 = 2 ∨ s[a].toNat / 64 = 3) with h2 | h2 | h2 | h2
   ·exact Ty.peek_0 r s a er hl hs h1 h2 w h
   ·exact Ty.peek_1 r s a er hl hs h1 h2 w h
   ·exact Ty.peek_2 r s a er hl hs h1 h2 w h
   ·exact Ty.peek_3 r s a er hl hs h1 h2 w h
  ·exact Ty.peek_high r s a er hl hs (by omega) w h
 ·exact Ty.peek_end r s a er he hs w h
end
section
open Go.RowKit
def Ty.RS (r : Nat) (s : ByteArray) (w : World) (l : List UInt8) (e : Nat) : Prop := ∃ a, a ≤ s.size ∧ s.data.toList.drop a = l ∧ Ty.RC r w s a e
def Ty.RLeft (r : Nat) (s : ByteArray) (w : World) (v : Value) (l : List UInt8) (e' : Nat) (e : Ending) (w' : World) : Prop := e = .returned v ∧ Ty.RS r s w' l e' ∧ w.grownBy w' (some r)
theorem Ty.by_some {w w' : World} (h : w.grownBy w' none) (r : Nat) : w.grownBy w' (some r) := ⟨h.os, h.tape, h.output, h.size, fun k hk _ => h.block k hk (by intro e; cases e)⟩
theorem Ty.drop_at (s : ByteArray) (a k : Nat) : s.data.toList.drop (a + k) = (s.data.toList.drop a).drop k := by rw [List.drop_drop]
set_option maxHeartbeats 400000 in
theorem Ty.ruint_m (r : Nat) (s : ByteArray) (hs : s.size ≤ 140737488351232) (l : List UInt8) (er : Nat) (w : World) (h : Ty.RS r s w l er) :
 Calls Tryd.prog 58 #[.pointer (some ⟨r, 0, none⟩)] w (Ty.RLeft r s w (.int .u64 ((Ty.rdU l er).1 : Int)) (Ty.rdU l er).2.1 (Ty.rdU l er).2.2) := by
 obtain ⟨a, ha, hl, hR⟩ := h
 obtain ⟨c0, c1, c2, _, _⟩ := hR.cells
 by_cases he : er = 0
 ·subst he
  obtain ⟨n, sz, e1, hn⟩ : ∃ n sz e1, Ty.num l = (n, sz, e1) := ⟨_, _, _, rfl⟩
  have hz : a + sz ≤ s.size := by have := Ty.num_size l; rw [hn, ← hl, Ty.len_drop] at this; simp only at this; omega
  have HE : Hid (e1 ≠ 0 → n = 0 ∧ sz = 0) := Lib.hid (by have := Ty.num_err l; rw [hn] at this; exact this)
  have HR := Lib.hid (Ty.rdU_of hn)
  have HL := Lib.hid hl
  have HN := Lib.hid hn
  rw [HR.out]
  clear hn hl
  go_enter Tryd.func58, Tryd.ntmps58
  go_wp2_with fail
  refine (Ty.peek_c r s a 0 ha hs _ hR).mono ?_
  rintro e w1 ⟨rfl, hR1, g1⟩
  rw [HL.out]
  unfold Ty.numV
  rw [HN.out]
  clear c0 c1 c2
  by_cases h1 : e1 = 0
  ·subst h1
   obtain ⟨c0, c1, c2, f1, _⟩ := hR1.cells
   have ew : IntKind.i64.wrap ((a : Int) + (sz : Int)) = ((a + sz : Nat) : Int) := by rw [IntWalk.i64_in _ (by omega)]; omega
   go_wp2
   go_ret
   refine ⟨rfl, ⟨a + sz, hz, by rw [Ty.drop_at, HL.out], ?_⟩, Ty.by_trans (Ty.by_some g1 r) (Ty.by_set _ _ _ _)⟩
   first | exact Ty.rc_set1 hR1 | (have hq := Ty.rc_set1 (a' := a + sz) hR1; simpa using hq)
  ·have hne : ((e1 : Int) != 0) = true := by rw [bne_iff_ne]; omega
   have HZ := Lib.hid (HE.out h1)
   clear h1
   go_wp2_with fail
   refine (Ty.fail_c r s a e1 _ hR1).mono ?_
   rintro e w2 ⟨rfl, hR2, g2⟩
   go_wp2
   go_ret
   exact ⟨by rw [HZ.out.1]; rfl, ⟨a, ha, by rw [HZ.out.2]; exact HL.out, hR2⟩, Ty.by_trans (Ty.by_some g1 r) g2⟩
 ·have hne : ((er : Int) != 0) = true := by rw [bne_iff_ne]; omega
  have HR : Hid (Ty.rdU l er = (0, l, er)) := Lib.hid (by simp [Ty.rdU, he])
  rw [HR.out]
  clear he
  have HL := Lib.hid hl
  clear hl
  go_enter Tryd.func58, Tryd.ntmps58
  go_wp2
  go_ret
  exact ⟨rfl, ⟨a, ha, HL.out, hR⟩, Ty.by_refl _ _⟩
set_option maxHeartbeats 400000 in
theorem Ty.rint_m (r : Nat) (s : ByteArray) (hs : s.size ≤ 140737488351232) (l : List UInt8) (er : Nat) (w : World) (h : Ty.RS r s w l er) :
 Calls Tryd.prog 59 #[.pointer (some ⟨r, 0, none⟩)] w (Ty.RLeft r s w (.int .i64 (Ty.zag ((Ty.rdU l er).1 : Int))) (Ty.rdU l er).2.1 (Ty.rdU l er).2.2) := by
 have hu := Ty.rdU_u64 l er
 go_enter Tryd.func59, Tryd.ntmps59
 go_wp2_with fail
 refine (Ty.ruint_m r s hs l er _ h).mono ?_
 rintro e w1 ⟨rfl, hS, hg⟩
 go_wp2_with fail
 refine (Ty.open_nat _ _ hu).mono ?_
 rintro e w2 ⟨rfl, rfl⟩
 go_wp2
 go_ret
 exact ⟨rfl, hS, hg⟩
set_option maxHeartbeats 400000 in
theorem Ty.rdone_m (r : Nat) (s : ByteArray) (hs : s.size ≤ 140737488351232) (l : List UInt8) (er : Nat) (w : World) (h : Ty.RS r s w l er) :
 Calls Tryd.prog 39 #[.pointer (some ⟨r, 0, none⟩)] w (Ty.RLeft r s w (.int .i64 (Ty.fin l er : Int)) l er) := by
 obtain ⟨a, ha, hl, hR⟩ := h
 obtain ⟨c0, c1, c2, _, _⟩ := hR.cells
 have hll : l.length = s.size - a := by rw [← hl, Ty.len_drop]
 have HL := Lib.hid hl
 clear hl
 by_cases he : er = 0
 ·subst he
  by_cases hl : (0 : Int) < ((s.size - a : Nat) : Int)
  ·have HF : Hid (Ty.fin l 0 = 5) := Lib.hid (by unfold Ty.fin; rw [if_pos ⟨rfl, by intro e; subst e; simp at hll; omega⟩])
   clear hll
   go_enter Tryd.func39, Tryd.ntmps39
   go_wp2_with fail
   refine (Ty.rleft_o r s a 0 ha hs _ hR).mono ?_
   rintro e w1 ⟨rfl, hR1, g1⟩
   go_wp2
   go_ret
   exact ⟨by rw [HF.out]; rfl, ⟨a, ha, HL.out, hR1⟩, Ty.by_some g1 r⟩
  ·have HF : Hid (Ty.fin l 0 = 0) := Lib.hid (by unfold Ty.fin; rw [if_neg (by rintro ⟨_, h2⟩; exact h2 (List.eq_nil_of_length_eq_zero (by omega)))])
   clear hll
   go_enter Tryd.func39, Tryd.ntmps39
   go_wp2_with fail
   refine (Ty.rleft_o r s a 0 ha hs _ hR).mono ?_
   rintro e w1 ⟨rfl, hR1, g1⟩
   clear c0 c1 c2
   obtain ⟨c0, c1, c2, _, _⟩ := hR1.cells
   go_wp2
   go_ret
   exact ⟨by rw [HF.out]; rfl, ⟨a, ha, HL.out, hR1⟩, Ty.by_some g1 r⟩
 ·have hne : ((er : Int) == 0) = false := by rw [beq_eq_false_iff_ne]; omega
  have HF : Hid (Ty.fin l er = er) := Lib.hid (by unfold Ty.fin; rw [if_neg (by rintro ⟨h1, _⟩; exact he h1)])
  clear he hll
  go_enter Tryd.func39, Tryd.ntmps39
  go_wp2
  go_ret
  exact ⟨by rw [HF.out]; rfl, ⟨a, ha, HL.out, hR⟩, Ty.by_refl _ _⟩
end
section
open Go.RowKit
def Bt.Row (w : World) (g sz : Nat) (F : Nat → Bool) : Prop := w.rowIs g 5 sz (fun i => .int .u8 ((Bt.oct F i : Nat) : Int))
set_option maxRecDepth 100000 in
theorem Bt.Row.string {w : World} {g sz c : Nat} {F : Nat → Bool} (h : Bt.Row w g sz F) : (convert 89 9 (.slice (some ⟨g, 0, none⟩) sz c)).run Tryd.prog w = .ok (.string (Bt.bytes sz F)) w := by
 have := run_convert_bytes_arg (P := Tryd.prog) w 89 _ Tryd.underlying89 Tryd.underlying5 g 0 sz c ((List.range sz).map fun i => ((Bt.oct F i : Nat) : Int)) (by simp) (fun i hi => by
  have hc := h.cell hi
  have ea : (⟨g, 0 + i, none⟩ : Addr) = ⟨g, i, none⟩ := by rw [Nat.zero_add]
  rw [ea, hc]
  simp [List.getD, hi]) 9 Tryd.underlying9
 rw [this]
 have e : strOfNums ((List.range sz).map fun i => ((Bt.oct F i : Nat) : Int)) = Bt.bytes sz F := by
  unfold strOfNums Bt.bytes
  congr 1
  rw [List.map_map]
  rfl
 rw [e]
theorem Bt.by_trans {a b c : World} {r : Option Nat} (h : a.grownBy b r) (k : b.grownBy c r) : a.grownBy c r :=
 ⟨k.os.trans h.os, k.tape.trans h.tape, k.output.trans h.output, Nat.le_trans h.size k.size, fun i hi hn => (k.block i (Nat.lt_of_lt_of_le hi h.size) hn).trans (h.block i hi hn)⟩
theorem Bt.by_set (w : World) (b o : Nat) (u : Value) : w.grownBy (w.setCell ⟨b, o, none⟩ u) (some b) :=
 ⟨rfl, rfl, rfl, by simp [World.setCell], fun k _ hk => Below.heap_setCell _ _ _ _ (fun e => hk (by rw [e]))⟩
def Bt.Put (g sz : Nat) (F : Nat → Bool) (w w' : World) : Prop := Bt.Row w' g sz F ∧ w.grownBy w' (some g)
theorem Bt.or_byte (G : Nat → Bool) (a m q r : Nat) (hq : q = a / 8) (hr : r = a % 8) :
 bits .or .u8 ((Bt.oct G q : Nat) : Int) (IntKind.u64.wrap ((m : Int) * 2 ^ r) % 256) = ((Bt.oct (Bt.laid G a m) q : Nat) : Int) := by
 subst hq hr
 have e : IntKind.u64.wrap ((m : Int) * 2 ^ (a % 8)) % 256 = ((m * 2 ^ (a % 8) % 256 : Nat) : Int) := by
  rw [IntKind.wrap_u64]
  have e1 : (m : Int) * 2 ^ (a % 8) = ((m * 2 ^ (a % 8) : Nat) : Int) := by simp
  rw [e1]
  omega
 rw [e, (bits_nat .u8 8 (by decide) wraps_u8 _ _ (Bt.oct_lt G (a / 8)) (Nat.mod_lt _ (by decide))).2, Bt.laid_here]
theorem Bt.Put.next {g sz a m q r : Nat} {G : Nat → Bool} {w wr : World} (h : Bt.Put g sz G w wr) (hq : q = a / 8) (hr : r = a % 8) :
 Bt.Put g sz (Bt.laid G a m) w (wr.setCell ⟨g, q, none⟩ (.int .u8 (bits .or .u8 ((Bt.oct G q : Nat) : Int) (IntKind.u64.wrap ((m : Int) * 2 ^ r) % 256)))).drew := by
 obtain ⟨hR, hB⟩ := h
 rw [Bt.or_byte G a m q r hq hr]
 refine ⟨World.rowIs.drew (World.rowIs.congr (World.rowIs.set hR q _) fun i _ => ?_), ?_⟩
 ·by_cases e : i = q
  ·subst e
   rw [if_pos rfl]
  ·rw [if_neg e, Bt.laid_far G a m i (by rw [← hq]; exact e)]
 ·have h2 := Bt.by_trans hB (Bt.by_set wr g q (.int .u8 ((Bt.oct (Bt.laid G a m) q : Nat) : Int)))
  exact ⟨h2.os, h2.tape, h2.output, h2.size, h2.block⟩
end
section
open Go.RowKit
end
end Go.Proofs.YteaglaijkafphaaDoor
