import Derived.Test.YthfgcilaikjhpaaDoorYAAG
import Derived.Test.YthfgcilaikjhpaaDoorYAAA
import Derived.Test.YthfgcilaikjhpaaDoorYAAF
import Derived.RegionCalls
import Derived.Deep.RegionWith
import Derived.Test.YthfgcilaikjhpaaDoorYAAB
import Derived.Laws.BitsAllLaws
import Derived.BigQuiet
namespace Go.Proofs.YthfgcilaikjhpaaDoor
open Go.RowKit
def Ty.fin (l : List UInt8) (e : Nat) : Nat := if e = 0 ∧ l ≠ [] then 5 else e
end Go.Proofs.YthfgcilaikjhpaaDoor
namespace Go.Proofs.YthfgcilaikjhpaaDoor
open Go
open Ty (num txt encU U64 I64)
open Ig (rest sg)
open Tx (encT restT)
def Mf.encN (n : Int) : List UInt8 := encU n.toNat
def Mf.encV (v : Kn.V) : List UInt8 := Ig.encI v.n ++ encT v.s.data.toList
def Mf.encP (p : Mf.P) : List UInt8 := Mf.encN p.id ++ Mf.encN p.lv ++ Mf.encV p.lo ++ Mf.encV p.hi
def Mf.enc (e : Mf.E) : List UInt8 :=
 Mf.encN e.drop.length ++ e.drop.flatMap Mf.encN ++ Mf.encN e.add.length ++ e.add.flatMap Mf.encP ++ Mf.encN e.floor ++ Mf.encN e.next
def Mf.rdC (most : Nat) (l : List UInt8) : Option (Int × List UInt8) := if (num l).2.2 = 0 ∧ (num l).1 ≤ most then some (((num l).1 : Int), rest l) else none
def Mf.rdV (l : List UInt8) : Option (Kn.V × List UInt8) :=
 if (num l).2.2 = 0 ∧ (txt (rest l) 64).2.2 = 0 then some (⟨false, sg l, Ty.S (txt (rest l) 64).1⟩, restT (rest l)) else none
def Mf.bd {α β : Type} (f : List UInt8 → Option (α × List UInt8)) (g : α → List UInt8 → Option (β × List UInt8)) (l : List UInt8) : Option (β × List UInt8) :=
 match f l with | none => none | some (x, r) => g x r
def Mf.pr {α : Type} (x : α) (l : List UInt8) : Option (α × List UInt8) := some (x, l)
def Mf.rdP : List UInt8 → Option (Mf.P × List UInt8) :=
 Mf.bd (Mf.rdC 999999999) fun i => Mf.bd (Mf.rdC 3) fun v => Mf.bd Mf.rdV fun a => Mf.bd Mf.rdV fun b => Mf.pr ⟨i, v, a, b⟩
def Mf.rdL {α : Type} (f : List UInt8 → Option (α × List UInt8)) : Nat → List UInt8 → Option (List α × List UInt8)
 | 0 => Mf.pr []
 | n + 1 => Mf.bd f fun x => Mf.bd (Mf.rdL f n) fun xs => Mf.pr (x :: xs)
def Mf.rdX : List UInt8 → Option ((Int × Int × Mf.E) × List UInt8) :=
 Mf.bd (Mf.rdC 1000) fun n => Mf.bd (Mf.rdL (Mf.rdC 999999999) n.toNat) fun ds => Mf.bd (Mf.rdC 1000) fun m => Mf.bd (Mf.rdL Mf.rdP m.toNat) fun ps =>
  Mf.bd (Mf.rdC 999999999) fun a => Mf.bd (Mf.rdC 999999999) fun b => Mf.pr (n, m, ⟨ds, ps, a, b⟩)
def Mf.rd (l : List UInt8) : Option Mf.E := match Mf.rdX l with | some ((_, _, e), []) => some e | _ => none
structure Mf.Sim {σ α : Type} (em : List UInt8 → σ) (ok : σ → Prop) (V : α → Prop) (st : σ → α × σ) (f : List UInt8 → Option (α × List UInt8)) : Prop where
 mono : ∀ s, ok (st s).2 → ok s
 good : ∀ l x r, f l = some (x, r) → st (em l) = (x, em r)
 back : ∀ l, ok (st (em l)).2 → V (st (em l)).1 → f l ≠ none
def Mf.sb {σ α β : Type} (a : σ → α × σ) (b : α → σ → β × σ) (s : σ) : β × σ := b (a s).1 (a s).2
def Mf.sp {σ α : Type} (x : α) (s : σ) : α × σ := (x, s)
section
variable {σ α β : Type} {em : List UInt8 → σ} {ok : σ → Prop}
def Mf.sL (st : σ → α × σ) : Nat → σ → List α × σ
 | 0 => Mf.sp []
 | n + 1 => Mf.sb st fun x => Mf.sb (Mf.sL st n) fun xs => Mf.sp (x :: xs)
def Mf.gL (go : σ → Bool) (st : σ → α × σ) : Nat → σ → List α × σ
 | 0, s => ([], s)
 | n + 1, s => if go s = true then Mf.sb st (fun x => Mf.sb (Mf.gL go st n) fun xs => Mf.sp (x :: xs)) s else ([], s)
end
structure Mf.St where
 l : List UInt8
 e : Nat
 wr : Bool
def Mf.em (l : List UInt8) : Mf.St := ⟨l, 0, false⟩
def Mf.St.ok (s : Mf.St) : Prop := s.e = 0 ∧ s.wr = false
def Mf.sC (most : Nat) (s : Mf.St) : Int × Mf.St :=
 if most < (Ty.rdU s.l s.e).1 then (0, ⟨(Ty.rdU s.l s.e).2.1, (Ty.rdU s.l s.e).2.2, true⟩) else (((Ty.rdU s.l s.e).1 : Int), ⟨(Ty.rdU s.l s.e).2.1, (Ty.rdU s.l s.e).2.2, s.wr⟩)
def Mf.sI (s : Mf.St) : Int × Mf.St := (Ty.zag ((Ty.rdU s.l s.e).1 : Int), ⟨(Ty.rdU s.l s.e).2.1, (Ty.rdU s.l s.e).2.2, s.wr⟩)
def Mf.sT (s : Mf.St) : List UInt8 × Mf.St := ((Ty.rdT 64 s.l s.e).1, ⟨(Ty.rdT 64 s.l s.e).2.1, (Ty.rdT 64 s.l s.e).2.2, s.wr⟩)
def Mf.sV : Mf.St → Kn.V × Mf.St := Mf.sb Mf.sI fun n => Mf.sb Mf.sT fun t => Mf.sp ⟨false, n, Ty.S t⟩
def Mf.sP : Mf.St → Mf.P × Mf.St := Mf.sb (Mf.sC 999999999) fun i => Mf.sb (Mf.sC 3) fun v => Mf.sb Mf.sV fun a => Mf.sb Mf.sV fun b => Mf.sp ⟨i, v, a, b⟩
def Mf.sX : Mf.St → (Int × Int × Mf.E) × Mf.St :=
 Mf.sb (Mf.sC 1000) fun n => Mf.sb (Mf.sL (Mf.sC 999999999) n.toNat) fun ds => Mf.sb (Mf.sC 1000) fun m => Mf.sb (Mf.sL Mf.sP m.toNat) fun ps =>
  Mf.sb (Mf.sC 999999999) fun a => Mf.sb (Mf.sC 999999999) fun b => Mf.sp (n, m, ⟨ds, ps, a, b⟩)
abbrev Mf.Ct := List UInt8 × Nat
def Mf.ec (l : List UInt8) : Mf.Ct := (l, 0)
def Mf.okc (c : Mf.Ct) : Prop := c.2 = 0
def Mf.go (c : Mf.Ct) : Bool := c.2 == 0
def Mf.dC (c : Mf.Ct) : Int × Mf.Ct := (if 999999999 < (Ty.rdU c.1 c.2).1 then -1 else ((Ty.rdU c.1 c.2).1 : Int), (Ty.rdU c.1 c.2).2)
def Mf.dI (c : Mf.Ct) : Int × Mf.Ct := (Ty.zag ((Ty.rdU c.1 c.2).1 : Int), (Ty.rdU c.1 c.2).2)
def Mf.dT (c : Mf.Ct) : List UInt8 × Mf.Ct := ((Ty.rdT 64 c.1 c.2).1, (Ty.rdT 64 c.1 c.2).2)
def Mf.dV : Mf.Ct → Kn.V × Mf.Ct := Mf.sb Mf.dI fun n => Mf.sb Mf.dT fun t => Mf.sp ⟨false, n, Ty.S t⟩
def Mf.dP : Mf.Ct → Mf.P × Mf.Ct := Mf.sb Mf.dC fun i => Mf.sb Mf.dC fun v => Mf.sb Mf.dV fun a => Mf.sb Mf.dV fun b => Mf.sp ⟨i, v, a, b⟩
def Mf.dX : Mf.Ct → (Int × Int × Mf.E) × Mf.Ct :=
 Mf.sb Mf.dC fun n => Mf.sb (Mf.gL Mf.go Mf.dC n.toNat) fun ds => Mf.sb Mf.dC fun m => Mf.sb (Mf.gL Mf.go Mf.dP m.toNat) fun ps =>
  Mf.sb Mf.dC fun a => Mf.sb Mf.dC fun b => Mf.sp (n, m, ⟨ds, ps, a, b⟩)
def Mf.dok (x : (Int × Int × Mf.E) × Mf.Ct) : Bool := decide (0 ≤ x.1.1) && decide (0 ≤ x.1.2.1) && (Ty.fin x.2.1 x.2.2 == 0) && Mf.right x.1.2.2
end Go.Proofs.YthfgcilaikjhpaaDoor
namespace Go.Proofs.YthfgcilaikjhpaaDoor.Fr
open Go
def P : Nat := 2197175160
def T (r : Nat) : Nat := (r / 2) ^^^ (if r % 2 = 1 then P else 0)
theorem xor_half (a b : Nat) : (a ^^^ b) / 2 = (a / 2) ^^^ (b / 2) := by
 have := Nat.shiftRight_xor_distrib (a := a) (b := b) (i := 1)
 simpa [Nat.shiftRight_eq_div_pow] using this
theorem xor_odd (a b : Nat) : (a ^^^ b) % 2 = (a + b) % 2 := by
 have h := Nat.testBit_xor a b 0
 simp only [Nat.testBit_zero] at h
 rcases Nat.mod_two_eq_zero_or_one a with ha | ha <;> rcases Nat.mod_two_eq_zero_or_one b with hb | hb <;> rcases Nat.mod_two_eq_zero_or_one (a ^^^ b) with hc | hc <;> simp [ha, hb, hc] at h <;> omega
theorem T_xor (a b : Nat) : T (a ^^^ b) = T a ^^^ T b := by
 unfold T
 rw [xor_half, xor_odd]
 rcases Nat.mod_two_eq_zero_or_one a with ha | ha <;> rcases Nat.mod_two_eq_zero_or_one b with hb | hb
 ·rw [if_neg (by omega), if_neg (by omega), if_neg (by omega)]; simp
 ·rw [if_pos (by omega), if_neg (by omega), if_pos hb]; simp [Nat.xor_assoc]
 ·rw [if_pos (by omega), if_pos ha, if_neg (by omega)]
  rw [Nat.xor_zero, Nat.xor_assoc, Nat.xor_assoc, Nat.xor_comm P]
 ·rw [if_neg (by omega), if_pos ha, if_pos hb, Nat.xor_zero]
  have e : (a / 2 ^^^ P) ^^^ (b / 2 ^^^ P) = (a / 2 ^^^ b / 2) ^^^ (P ^^^ P) := by
   rw [Nat.xor_assoc, Nat.xor_assoc, ← Nat.xor_assoc P, Nat.xor_comm P, Nat.xor_assoc]
  rw [e, Nat.xor_self, Nat.xor_zero]
theorem T_double (r : Nat) : T (2 * r) = r := by
 unfold T
 rw [if_neg (by omega), Nat.xor_zero]
 omega
theorem T_lt {r : Nat} (h : r < 2 ^ 32) : T r < 2 ^ 32 := by
 unfold T
 refine Nat.xor_lt_two_pow (by omega) ?_
 split
 ·decide
 ·decide
def Tn : Nat → Nat → Nat
 | 0, r => r
 | k + 1, r => Tn k (T r)
theorem Tn_add (j k r : Nat) : Tn (j + k) r = Tn k (Tn j r) := by
 induction j generalizing r with
 | zero => rw [Nat.zero_add]; rfl
 | succ j ih => rw [Nat.succ_add]; exact ih (T r)
theorem Tn_xor (k a b : Nat) : Tn k (a ^^^ b) = Tn k a ^^^ Tn k b := by
 induction k generalizing a b with
 | zero => rfl
 | succ k ih =>
   show Tn k (T (a ^^^ b)) = _
   rw [T_xor]
   exact ih (T a) (T b)
theorem Tn_shift (k r : Nat) : Tn k (2 ^ k * r) = r := by
 induction k generalizing r with
 | zero => simp [Tn]
 | succ k ih =>
   show Tn k (T (2 ^ (k + 1) * r)) = r
   have e : 2 ^ (k + 1) * r = 2 * (2 ^ k * r) := by rw [Nat.pow_succ, Nat.mul_comm (2 ^ k) 2, Nat.mul_assoc]
   rw [e, T_double, ih]
theorem Tn_lt {k r : Nat} (h : r < 2 ^ 32) : Tn k r < 2 ^ 32 := by
 induction k generalizing r with
 | zero => exact h
 | succ k ih => exact ih (T_lt h)
theorem Tn_split (k r : Nat) : Tn k r = (r / 2 ^ k) ^^^ Tn k (r % 2 ^ k) := by
 have e : r = (2 ^ k * (r / 2 ^ k)) ^^^ (r % 2 ^ k) := by
  have h := Nat.div_add_mod r (2 ^ k)
  have h2 := Nat.mod_lt r (Nat.two_pow_pos k)
  refine Nat.eq_of_testBit_eq fun i => ?_
  rw [Nat.testBit_xor, Nat.testBit_two_pow_mul, Nat.testBit_mod_two_pow, Nat.testBit_div_two_pow]
  by_cases hi : k ≤ i
  ·have h3 : ¬ i < k := by omega
   have h4 : i - k + k = i := by omega
   simp [hi, h3, h4]
  ·have h3 : i < k := by omega
   simp [hi, h3]
 conv => lhs; rw [e]
 rw [Tn_xor, Tn_shift]
def reg : Nat → List UInt8 → Nat
 | r, [] => r
 | r, b :: l => reg (Tn 8 (r ^^^ b.toNat)) l
def val : List UInt8 → Nat
 | [] => 0
 | b :: l => 256 * val l + b.toNat
theorem reg_append (a b : List UInt8) (r : Nat) : reg r (a ++ b) = reg (reg r a) b := by
 induction a generalizing r with
 | nil => rfl
 | cons x a ih => exact ih _
theorem reg_lt (l : List UInt8) : ∀ r, r < 2 ^ 32 → reg r l < 2 ^ 32 := by
 induction l with
 | nil => intro r h; exact h
 | cons b l ih =>
   intro r h
   exact ih _ (Tn_lt (Nat.xor_lt_two_pow h (Nat.lt_of_lt_of_le b.toNat_lt (by decide))))
def ones : Nat := 4294967295
def sum (l : List UInt8) : Nat := reg ones l ^^^ ones
theorem sum_lt (l : List UInt8) : sum l < 2 ^ 32 := Nat.xor_lt_two_pow (reg_lt l ones (by decide)) (by decide)
end Go.Proofs.YthfgcilaikjhpaaDoor.Fr
namespace Go.Proofs.YthfgcilaikjhpaaDoor.Fr
open Go
abbrev Str := List UInt8
def four (n : Nat) : List UInt8 := [UInt8.ofNat (n % 256), UInt8.ofNat (n / 256 % 256), UInt8.ofNat (n / 65536 % 256), UInt8.ofNat (n / 16777216 % 256)]
def frm (t : Str) : List UInt8 := four t.length ++ (t ++ four (sum t))
def scanF : Nat → List UInt8 → Nat × List Str × Nat
 | 0, _ => (0, [], 0)
 | f + 1, l =>
   if l.length < 4 then (0, [], 0)
   else if 1048576 < val (l.take 4) then (8, [], 0)
   else if l.length < val (l.take 4) + 8 then (0, [], 0)
   else if val ((l.drop (4 + val (l.take 4))).take 4) ≠ sum ((l.drop 4).take (val (l.take 4))) then (8, [], 0)
   else if (scanF f (l.drop (val (l.take 4) + 8))).1 ≠ 0 then (8, [], 0)
   else (0, (l.drop 4).take (val (l.take 4)) :: (scanF f (l.drop (val (l.take 4) + 8))).2.1, val (l.take 4) + 8 + (scanF f (l.drop (val (l.take 4) + 8))).2.2)
theorem scanF_any : ∀ (f g : Nat) (l : List UInt8), l.length < f → l.length < g → scanF f l = scanF g l
 | 0, _, l, h, _ => by omega
 | _ + 1, 0, l, _, h => by omega
 | f + 1, g + 1, l, h1, h2 => by
   simp only [scanF]
   by_cases a : l.length < 4
   ·rw [if_pos a, if_pos a]
   ·have e : scanF f (l.drop (val (l.take 4) + 8)) = scanF g (l.drop (val (l.take 4) + 8)) := scanF_any f g _ (by rw [List.length_drop]; omega) (by rw [List.length_drop]; omega)
    rw [e]
def scan (l : List UInt8) : Nat × List Str × Nat := scanF (l.length + 1) l
theorem scan_is (l : List UInt8) : scan l =
 if l.length < 4 then (0, [], 0)
 else if 1048576 < val (l.take 4) then (8, [], 0)
 else if l.length < val (l.take 4) + 8 then (0, [], 0)
 else if val ((l.drop (4 + val (l.take 4))).take 4) ≠ sum ((l.drop 4).take (val (l.take 4))) then (8, [], 0)
 else if (scan (l.drop (val (l.take 4) + 8))).1 ≠ 0 then (8, [], 0)
 else (0, (l.drop 4).take (val (l.take 4)) :: (scan (l.drop (val (l.take 4) + 8))).2.1, val (l.take 4) + 8 + (scan (l.drop (val (l.take 4) + 8))).2.2) := by
 by_cases a : l.length < 4
 ·rw [if_pos a]
  show scanF (l.length + 1) l = _
  simp only [scanF]
  rw [if_pos a]
 ·have e : scanF l.length (l.drop (val (l.take 4) + 8)) = scan (l.drop (val (l.take 4) + 8)) := scanF_any _ _ _ (by rw [List.length_drop]; omega) (by omega)
  rw [← e]
  rfl
def more (t : Str) (q : Nat × List Str × Nat) : Nat × List Str × Nat := if q.1 ≠ 0 then (8, [], 0) else (0, t :: q.2.1, t.length + 8 + q.2.2)
def size (L : List Str) : Nat := (L.map fun t => t.length + 8).sum
def whole : List Str → Nat → Nat
 | [], _ => 0
 | t :: L, k => if t.length + 8 ≤ k then whole L (k - (t.length + 8)) + 1 else 0
def both (a : List UInt8) (p q : Nat × List Str × Nat) : Nat × List Str × Nat := if p.1 ≠ 0 then (8, [], 0) else if q.1 ≠ 0 then (8, [], 0) else (0, p.2.1 ++ q.2.1, a.length + q.2.2)
end Go.Proofs.YthfgcilaikjhpaaDoor.Fr
namespace Go.Proofs.YthfgcilaikjhpaaDoor
open Go.RowKit
theorem Ty.Tabs.below {w w' : World} (h : Ty.Tabs w) {b : Nat} (hb : Below b w w') (hG : Ty.G ≤ b) : Ty.Tabs w' := h.kept hb.size fun k hk => hb.block k (by omega)
theorem Ty.below_by {w w' : World} {B : Nat} {r : Option Nat} (hg : w.grownBy w' r) (hB : B ≤ w.heap.size) (hr : ∀ k, r = some k → B ≤ k) : Below B w w' :=
 (Below.refl B w).grown hg hB hr
theorem Ty.Cur.by {b : Nat} {w w' : World} {l : List UInt8} {e : Nat} (h : Ty.Cur b w l e) {r : Option Nat} (hg : w.grownBy w' r) (hr : r ≠ some b) : Ty.Cur b w' l e := by
 unfold Ty.Cur at h ⊢
 rw [hg.block b (lt_of_block h) (fun e => hr e.symm)]
 exact h
theorem Ty.Tabs.alloc {w : World} (h : Ty.Tabs w) (o : Obj) : Ty.Tabs (w.alloc o) := h.below ((Below.refl w.heap.size w).alloc (Nat.le_refl _) o) h.two
end Go.Proofs.YthfgcilaikjhpaaDoor
namespace Go.Proofs.YthfgcilaikjhpaaDoor
open Go.RowKit
theorem Ty.Tabs.drew {w : World} (h : Ty.Tabs w) : Ty.Tabs w.drew := h.kept (Nat.le_refl _) fun _ _ => rfl
theorem Ty.Buf.later {base : Nat} {w w' : World} {v : Value} {bs : List UInt8} (h : Ty.Buf base w v bs) (hb : Below w.heap.size w w') : Ty.Buf base w' v bs :=
 h.kept fun k hk => hb.block k (h.lt k hk).2
theorem Ty.Buf.str {base : Nat} {w : World} {v : Value} {bs : List UInt8} (h : Ty.Buf base w v bs) : (convert 66 9 v).run Tryd.prog w = .ok (.string (Ty.S bs)) w :=
 h.string 66 9 Tryd.underlying66 Tryd.underlying5 Tryd.underlying9
def Ty.Fresh (w : World) (bs : List UInt8) (e : Ending) (w' : World) : Prop := ∃ v', e = .returned v' ∧ Ty.Buf w.heap.size w' v' bs ∧ Ty.Tabs w' ∧ Below w.heap.size w w'
theorem Ty.Written.fresh {w : World} {bs : List UInt8} {e : Ending} {w' : World} (h : Ty.Written w.heap.size w (.slice none 0 0) bs e w') (hw : Ty.Tabs w) : Ty.Fresh w bs e w' := by
 obtain ⟨v', rfl, hB, hG⟩ := h
 have hb := Ty.below_by hG.by_ (Nat.le_refl w.heap.size) (by intro k hk; cases hk)
 exact ⟨v', rfl, hB, hw.below hb hw.two, hb⟩
theorem Ty.Tabs.at_ {w w' : World} {b : Nat} (h : Ty.Tabs w) (hg : w.grownBy w' (some b)) (hb : Ty.G ≤ b) : Ty.Tabs w' := h.by hg (by intro k hk; cases hk; exact hb)
theorem Ty.Cur.none_ {b : Nat} {w w' : World} {l : List UInt8} {e : Nat} (h : Ty.Cur b w l e) (hg : w.grownBy w' none) : Ty.Cur b w' l e := h.by hg (by intro h; cases h)
theorem Ty.Cur.at_ {b c : Nat} {w w' : World} {l : List UInt8} {e : Nat} (h : Ty.Cur b w l e) (hg : w.grownBy w' (some c)) (hb : c ≠ b) : Ty.Cur b w' l e := h.by hg (by intro h; exact hb (Option.some.inj h))
theorem Ty.Cur.below {b : Nat} {w w' : World} {l : List UInt8} {e B : Nat} (h : Ty.Cur b w l e) (hb : Below B w w') (hB : b < B) : Ty.Cur b w' l e := by
 unfold Ty.Cur at h ⊢
 rw [hb.block b hB]
 exact h
end Go.Proofs.YthfgcilaikjhpaaDoor
namespace Go.Proofs.YthfgcilaikjhpaaDoor
open Go.RowKit
theorem Fr.Tn_last (j r : Nat) : Fr.Tn (j + 1) r = Fr.T (Fr.Tn j r) := Fr.Tn_add j 1 r
theorem Fr.T_odd {r : Nat} (h : r % 2 = 1) : Fr.T r = r / 2 ^^^ 2197175160 := by unfold Fr.T; rw [if_pos h]; rfl
theorem Fr.T_even {r : Nat} (h : r % 2 = 0) : Fr.T r = r / 2 := by unfold Fr.T; rw [if_neg (by omega), Nat.xor_zero]
theorem Fr.reg_snoc (l : List UInt8) (b : UInt8) (r : Nat) : Fr.reg r (l ++ [b]) = Fr.Tn 8 (Fr.reg r l ^^^ b.toNat) := by
 rw [Fr.reg_append]
 rfl
theorem Fr.reg_step {s : ByteArray} {k : Nat} (h : k < s.size) (r : Nat) : Fr.reg r (s.data.toList.take (k + 1)) = Fr.Tn 8 (Fr.reg r (s.data.toList.take k) ^^^ (s[k]).toNat) := by
 have hl : k < s.data.toList.length := by rw [Ty.length_data]; exact h
 rw [List.take_succ_eq_append_getElem hl, Fr.reg_snoc]
 rfl
set_option maxHeartbeats 4000000 in
set_option maxRecDepth 100000 in
theorem Fr.rsum_c (s : ByteArray) (hs : s.size ≤ 9223372036854775807) (w : World) :
 Calls Tryd.prog 43 #[.string s] w fun e w' => e = .returned (.int .u32 ((Fr.sum s.data.toList : Nat) : Int)) ∧ w' = w := by
 have HS := Lib.hid hs
 have HST : Hid (∀ k (h : k < s.size), Fr.reg Fr.ones (s.data.toList.take (k + 1)) = Fr.Tn 8 (Fr.reg Fr.ones (s.data.toList.take k) ^^^ (s[k]).toNat)) := Lib.hid fun k h => Fr.reg_step h _
 have HLT : Hid (∀ l, Fr.reg Fr.ones l < 4294967296) := Lib.hid fun l => Fr.reg_lt l Fr.ones (by decide)
 go_enter Tryd.func43, Tryd.ntmps43
 go_wp2
 go_loop [3, 4] (fun r i => ∃ k : Nat, k ≤ s.size ∧ i = .int .i64 k ∧ r = .int .u32 (Fr.reg Fr.ones (s.data.toList.take k) : Nat)) (fun _ i => s.size - (intOf i).toNat)
 case atStart => exact ⟨0, by omega, rfl, rfl⟩
 case round =>
  obtain ⟨k, hk, rfl, rfl⟩ := hrel
  have hk0 : (0 : Int) ≤ (k : Int) := by omega
  have hr := HLT.out (s.data.toList.take k)
  by_cases hl : k < s.size
  ·have hki : (k : Int) < (s.size : Int) := by omega
   have hks : (k : Int) < 9223372036854775807 := by have := HS.out; omega
   have HN := Lib.hid (HST.out k hl)
   have hb := (s[k]).toNat_lt
   generalize Fr.reg Fr.ones (s.data.toList.take k) = R at hr HN ⊢
   generalize hbb : s[k] = b at hb HN
   obtain ⟨X, hX⟩ : ∃ X, X = R ^^^ b.toNat := ⟨_, rfl⟩
   have hx : bits .xor .u32 (R : Int) (b.toNat : Int) = (X : Int) := by rw [hX]; exact u32_xor_nat R b.toNat hr (by omega)
   have hXl : X < 4294967296 := by rw [hX]; exact Nat.xor_lt_two_pow (n := 32) hr (by omega)
   rw [← hX] at HN
   have HTL : Hid (∀ j, Fr.Tn j X < 4294967296) := Lib.hid fun j => Fr.Tn_lt hXl
   clear hX
   go_wp2_with fail
   go_loop [3, 5] (fun r j => ∃ i : Nat, i ≤ 8 ∧ j = .int .i64 i ∧ r = .int .u32 (Fr.Tn i X : Nat)) (fun _ j => 8 - (intOf j).toNat)
   case atStart => exact ⟨0, by omega, rfl, rfl⟩
   case round =>
    obtain ⟨i, hi, rfl, rfl⟩ := hrel
    have hi0 : (0 : Int) ≤ (i : Int) := by omega
    by_cases hi8 : i < 8
    ·have hii : (i : Int) < 8 := by omega
     have hT := HTL.out i
     have HTN := Lib.hid (Fr.Tn_last i X)
     generalize Fr.Tn i X = Y at hT HTN ⊢
     obtain ⟨Z, hZ⟩ : ∃ Z, Z = Y / 2 := ⟨_, rfl⟩
     have hd : (Y : Int) / 2 = (Z : Int) := by omega
     have hZl : Z < 4294967296 := by omega
     rcases Nat.mod_two_eq_zero_or_one Y with hm | hm
     ·have hmi : (Y : Int) % 2 = 0 := by omega
      have HE := Lib.hid (HTN.out.trans (Fr.T_even hm))
      rw [← hZ] at HE
      clear hZ hm
      go_wp2
      go_round
      case rel => exact ⟨i + 1, by omega, by simp, by rw [HE.out]⟩
      case measure => simp [intOf]; omega
     ·have hmi : (Y : Int) % 2 = 1 := by omega
      have HE := Lib.hid (HTN.out.trans (Fr.T_odd hm))
      rw [← hZ] at HE
      have hx2 : bits .xor .u32 (Z : Int) 2197175160 = ((Z ^^^ 2197175160 : Nat) : Int) := u32_xor_nat Z 2197175160 hZl (by decide)
      clear hZ hm
      go_wp2
      go_round
      case rel => exact ⟨i + 1, by omega, by simp, by rw [HE.out]⟩
      case measure => simp [intOf]; omega
    ·obtain rfl : i = 8 := by omega
     go_wp2
     go_round
     case rel => exact ⟨k + 1, by omega, by simp, by rw [HN.out]⟩
     case measure => simp [intOf]; omega
  ·obtain rfl : k = s.size := by omega
   have hki : ¬ (s.size : Int) < (s.size : Int) := by omega
   have hta : s.data.toList.take s.size = s.data.toList := List.take_of_length_le (by rw [Ty.length_data]; exact Nat.le_refl _)
   have HSM : Hid (Fr.sum s.data.toList = Fr.reg Fr.ones (s.data.toList.take s.size) ^^^ 4294967295) := Lib.hid (by rw [hta]; rfl)
   generalize Fr.reg Fr.ones (s.data.toList.take s.size) = R at hr HSM ⊢
   have hx : bits .xor .u32 IntKind.u32.max (R : Int) = ((4294967295 ^^^ R : Nat) : Int) := u32_xor_nat 4294967295 R (by decide) hr
   go_wp2
   go_ret
   exact ⟨by rw [HSM.out, Nat.xor_comm]; rfl, rfl⟩
theorem Fr.four_buf (n : Nat) (hn : n < 4294967296) (w : World) : Ty.Buf w.heap.size (w.alloc (.cells #[.int .u8 ((n : Int) % 256), .int .u8 ((n : Int) / 256 % 256), .int .u8 ((n : Int) / 65536 % 256), .int .u8 ((n : Int) / 16777216)] 5)) (.slice (some ⟨w.heap.size, 0, none⟩) 4 4) (Fr.four n) := by
 refine ⟨by simp, .inr ⟨w.heap.size, 4, _, rfl, Nat.le_refl _, heap_alloc_new w _, Nat.le_refl _, by unfold maxLen; omega, by simp, ?_⟩⟩
 have e0 := Ty.toNat_ofNat8 (n % 256) (by omega)
 have e1 := Ty.toNat_ofNat8 (n / 256 % 256) (by omega)
 have e2 := Ty.toNat_ofNat8 (n / 65536 % 256) (by omega)
 have e3 := Ty.toNat_ofNat8 (n / 16777216 % 256) (by omega)
 have i3 : ((n / 16777216 % 256 : Nat) : Int) = (n : Int) / 16777216 := by omega
 simp only [Fr.four, List.map_cons, List.map_nil, Ty.B, e0, e1, e2, e3, i3]
 simp
set_option maxHeartbeats 1000000 in
set_option maxRecDepth 100000 in
theorem Fr.rfour_c (n : Nat) (hn : n < 4294967296) (w : World) :
 Calls Tryd.prog 42 #[.int .u32 (n : Int)] w fun e w' => e = .returned (.string (Ty.S (Fr.four n))) ∧ Below w.heap.size w w' := by
 have hcv := (Fr.four_buf n hn w).str
 go_enter Tryd.func42, Tryd.ntmps42
 go_wp2
 go_ret
 exact ⟨rfl, (Below.refl _ _).alloc (Nat.le_refl _) _⟩
def Fr.at4 (s : ByteArray) : Nat := Fr.val (s.data.toList.take 4)
theorem Fr.S_add (a b : List UInt8) : Ty.S a ++ Ty.S b = Ty.S (a ++ b) := by
 apply ByteArray.ext
 apply Array.toList_inj.1
 rw [ByteArray.data_append, Array.toList_append]
 simp [Ty.S]
theorem Fr.four_mod (n : Nat) : Fr.four (n % 4294967296) = Fr.four n := by
 unfold Fr.four
 rw [show n % 4294967296 % 256 = n % 256 by omega, show n % 4294967296 / 256 % 256 = n / 256 % 256 by omega, show n % 4294967296 / 65536 % 256 = n / 65536 % 256 by omega, show n % 4294967296 / 16777216 % 256 = n / 16777216 % 256 by omega]
set_option maxHeartbeats 2000000 in
set_option maxRecDepth 100000 in
theorem Fr.rwrite_c (s : ByteArray) (hs : s.size ≤ 9223372036854775000) (w : World) :
 Calls Tryd.prog 21 #[.string s] w fun e w' => e = .returned (.string (Ty.S (Fr.frm s.data.toList))) ∧ Below w.heap.size w w' := by
 have hN : s.size % 4294967296 < 4294967296 := Nat.mod_lt _ (by decide)
 have hw : IntKind.u32.wrap (s.size : Int) = ((s.size % 4294967296 : Nat) : Int) := by rw [IntKind.wrap_u32]; omega
 have c1 := fun wz => Fr.rfour_c (s.size % 4294967296) hN wz
 have c2 := fun wz => Fr.rsum_c s (by omega) wz
 have c3 := fun wz => Fr.rfour_c (Fr.sum s.data.toList) (Fr.sum_lt _) wz
 have HF : Hid (Ty.S (Fr.frm s.data.toList) = (Ty.S (Fr.four (s.size % 4294967296)) ++ s) ++ Ty.S (Fr.four (Fr.sum s.data.toList))) := Lib.hid (by
  unfold Fr.frm
  rw [Fr.four_mod, Ty.length_data]
  conv => rhs; lhs; rhs; rw [← Ty.S_data s]
  rw [Fr.S_add, Fr.S_add, List.append_assoc])
 have e1 : (Ty.S (Fr.four (s.size % 4294967296))).size = 4 := rfl
 have e3 : (Ty.S (Fr.four (Fr.sum s.data.toList))).size = 4 := rfl
 obtain ⟨A, hA⟩ : ∃ A, A = Ty.S (Fr.four (s.size % 4294967296)) := ⟨_, rfl⟩
 obtain ⟨B, hB⟩ : ∃ B, B = Ty.S (Fr.four (Fr.sum s.data.toList)) := ⟨_, rfl⟩
 rw [← hA] at c1 HF e1
 rw [← hB] at c3 HF e3
 generalize Fr.sum s.data.toList = M at c2 c3
 generalize s.size % 4294967296 = N at c1 hw
 have n1 : ¬ 9223372036854775807 < A.size + s.size := by omega
 have n2 : ¬ 9223372036854775807 < A.size + s.size + B.size := by omega
 clear hA hB e1 e3 hN
 go_enter Tryd.func21, Tryd.ntmps21
 go_wp2_with fail
 with_reducible refine (c1 _).mono ?_
 rintro e w1 ⟨rfl, g1⟩
 have HB1 := Lib.hid g1
 clear g1 c1
 go_wp2_with fail
 with_reducible refine (c2 _).mono ?_
 rintro e w2 ⟨rfl, h2⟩
 subst w2
 clear c2
 go_wp2_with fail
 with_reducible refine (c3 _).mono ?_
 rintro e w3 ⟨rfl, g3⟩
 have HB3 := Lib.hid (HB1.out.trans (g3.mono HB1.out.size))
 clear g3 c3
 go_wp2
 go_ret
 exact ⟨by rw [HF.out]; rfl, HB3.out⟩
end Go.Proofs.YthfgcilaikjhpaaDoor
