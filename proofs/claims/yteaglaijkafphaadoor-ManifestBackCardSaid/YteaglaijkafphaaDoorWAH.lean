import Derived.Test.YteaglaijkafphaaDoorWAG
import Derived.Test.YteaglaijkafphaaDoorWAA
import Derived.Test.YteaglaijkafphaaDoorWAF
import Derived.RegionCalls
import Derived.Deep.RegionWith
import Derived.Test.YteaglaijkafphaaDoorWAB
import Derived.Laws.BitsAllLaws
import Derived.BigQuiet
namespace Go.Proofs.YteaglaijkafphaaDoor
open Go.RowKit
theorem Ty.rdU_u64 (l : List UInt8) (e : Nat) : Ty.U64 (Ty.rdU l e).1 := by
 unfold Ty.rdU
 split
 ·show (0 : Nat) < 2 ^ 64; omega
 ·exact Ty.num_u64 l
set_option maxHeartbeats 400000 in
theorem Ty.cint_c (b : Nat) (l : List UInt8) (er : Nat) (w : World) (hw : Ty.Tabs w) (h : Ty.Cur b w l er) (hl : l.length ≤ 9223372036854775807) :
 Calls Tryd.prog 94 #[.pointer (some ⟨b, 0, none⟩)] w (Ty.Left b w (.int .i64 (Ty.zag ((Ty.rdU l er).1 : Int))) (Ty.rdU l er).2.1 (Ty.rdU l er).2.2) := by
 have hu := Ty.rdU_u64 l er
 go_enter Tryd.func94, Tryd.ntmps94
 go_wp2_with fail
 refine (Ty.cuint_c b l er _ hw h hl).mono ?_
 rintro e w1 ⟨rfl, hc, hg⟩
 go_wp2_with fail
 refine (Ty.signed_nat _ _ hu).mono ?_
 rintro e w2 ⟨rfl, rfl⟩
 go_wp2
 go_ret
 exact ⟨rfl, hc, hg⟩
set_option maxHeartbeats 400000 in
theorem Ty.ctext_c (b : Nat) (l : List UInt8) (er : Nat) (most : Int) (hm : -9223372036854775808 ≤ most ∧ most ≤ 9223372036854775807) (w : World) (hw : Ty.Tabs w) (h : Ty.Cur b w l er) (hl : l.length ≤ 9223372036854775807) :
 Calls Tryd.prog 95 #[.pointer (some ⟨b, 0, none⟩), .int .i64 most] w (Ty.Left b w (.string (Ty.S (Ty.rdT most l er).1)) (Ty.rdT most l er).2.1 (Ty.rdT most l er).2.2) := by
 obtain ⟨c0, c1, f0, f1⟩ := h.cells
 by_cases he : er = 0
 ·subst he
  have hsz := Ty.txt_size l most
  have HR : Hid (Ty.rdT most l 0 = ((Ty.txt l most).1, l.drop (Ty.txt l most).2.1, (Ty.txt l most).2.2)) := Lib.hid (by simp [Ty.rdT])
  rw [HR.out]
  go_enter Tryd.func95, Tryd.ntmps95
  go_wp2_with fail
  refine (Ty.err_c b l 0 _ h).mono ?_
  rintro e w' ⟨rfl, rfl⟩
  go_wp2_with fail
  refine (Ty.text_r (Ty.S l) most _ hw hl hm).mono ?_
  rintro e w2 ⟨rfl, rfl⟩
  unfold Ty.txtV
  rw [Ty.data_S]
  go_wp2_with fail
  refine (Ty.advance_c b l 0 _ _ _ h hsz hl).mono ?_
  rintro e w3 ⟨rfl, hc, hg⟩
  go_wp2
  go_ret
  exact ⟨rfl, hc, hg⟩
 ·have hne : ((er : Int) != 0) = true := by rw [bne_iff_ne]; omega
  have HR : Hid (Ty.rdT most l er = ([], l, er)) := Lib.hid (by simp [Ty.rdT, he])
  rw [HR.out]
  clear he
  go_enter Tryd.func95, Tryd.ntmps95
  go_wp2_with fail
  refine (Ty.err_c b l er _ h).mono ?_
  rintro e w' ⟨rfl, rfl⟩
  go_wp2
  go_ret
  exact ⟨rfl, h, Ty.by_refl _ _⟩
def Ty.fin (l : List UInt8) (e : Nat) : Nat := if e = 0 ∧ l ≠ [] then 5 else e
set_option maxHeartbeats 400000 in
theorem Ty.done_c (b : Nat) (l : List UInt8) (er : Nat) (w : World) (h : Ty.Cur b w l er) :
 Calls Tryd.prog 30 #[.pointer (some ⟨b, 0, none⟩)] w fun e w' => e = .returned (.int .i64 (Ty.fin l er : Int)) ∧ w' = w := by
 by_cases he : er = 0
 ·subst he
  by_cases hl : (0 : Int) < l.length
  ·have HF : Hid (Ty.fin l 0 = 5) := Lib.hid (by unfold Ty.fin; rw [if_pos ⟨rfl, by intro e; subst e; simp at hl⟩])
   go_enter Tryd.func30, Tryd.ntmps30
   go_wp2_with fail
   refine (Ty.err_c b l 0 _ h).mono ?_
   rintro e w' ⟨rfl, rfl⟩
   go_wp2_with fail
   refine (Ty.left_c b l 0 _ h).mono ?_
   rintro e w' ⟨rfl, rfl⟩
   go_wp2
   go_ret
   exact ⟨by rw [HF.out]; rfl, rfl⟩
  ·have HF : Hid (Ty.fin l 0 = 0) := Lib.hid (by unfold Ty.fin; rw [if_neg (by rintro ⟨_, h2⟩; exact h2 (List.eq_nil_of_length_eq_zero (by omega)))])
   go_enter Tryd.func30, Tryd.ntmps30
   go_wp2_with fail
   refine (Ty.err_c b l 0 _ h).mono ?_
   rintro e w' ⟨rfl, rfl⟩
   go_wp2_with fail
   refine (Ty.left_c b l 0 _ h).mono ?_
   rintro e w' ⟨rfl, rfl⟩
   go_wp2_with fail
   refine (Ty.err_c b l 0 _ h).mono ?_
   rintro e w' ⟨rfl, rfl⟩
   go_wp2
   go_ret
   exact ⟨by rw [HF.out]; rfl, rfl⟩
 ·have hne : ((er : Int) == 0) = false := by rw [beq_eq_false_iff_ne]; omega
  have HF : Hid (Ty.fin l er = er) := Lib.hid (by unfold Ty.fin; rw [if_neg (by rintro ⟨h1, _⟩; exact he h1)])
  clear he
  go_enter Tryd.func30, Tryd.ntmps30
  go_wp2_with fail
  refine (Ty.err_c b l er _ h).mono ?_
  rintro e w' ⟨rfl, rfl⟩
  go_wp2_with fail
  refine (Ty.err_c b l er _ h).mono ?_
  rintro e w' ⟨rfl, rfl⟩
  go_wp2
  go_ret
  exact ⟨by rw [HF.out]; rfl, rfl⟩
end Go.Proofs.YteaglaijkafphaaDoor
namespace Go.Proofs.YteaglaijkafphaaDoor
open Go
open Ty (num txt encU U64 I64)
open Ig (rest sg)
open Tx (encT restT)
def Mf.encN (n : Int) : List UInt8 := encU n.toNat
def Mf.encV (v : Kn.V) : List UInt8 := Ig.encI v.n ++ encT v.s.data.toList
def Mf.encP (p : Mf.P) : List UInt8 := Mf.encN p.id ++ Mf.encN p.lv ++ Mf.encV p.lo ++ Mf.encV p.hi
def Mf.enc (e : Mf.E) : List UInt8 :=
 Mf.encN e.drop.length ++ e.drop.flatMap Mf.encN ++ Mf.encN e.add.length ++ e.add.flatMap Mf.encP ++ Mf.encN e.floor ++ Mf.encN e.next
def Mf.rdC (most : Nat) (l : List UInt8) : Option (Int × List UInt8) := if (num l).2.2 = 0 ∧ (num l).1 ≤ most then some (((num l).1 : Int), rest l) else none
def Mf.rdV (l : List UInt8) : Option (Kn.V × List UInt8) :=
 if (num l).2.2 = 0 ∧ (txt (rest l) 64).2.2 = 0 then some (⟨false, sg l, Ty.S (txt (rest l) 64).1⟩, restT (rest l)) else none
def Mf.bd {α β : Type} (f : List UInt8 → Option (α × List UInt8)) (g : α → List UInt8 → Option (β × List UInt8)) (l : List UInt8) : Option (β × List UInt8) :=
 match f l with | none => none | some (x, r) => g x r
def Mf.pr {α : Type} (x : α) (l : List UInt8) : Option (α × List UInt8) := some (x, l)
def Mf.rdP : List UInt8 → Option (Mf.P × List UInt8) :=
 Mf.bd (Mf.rdC 999999999) fun i => Mf.bd (Mf.rdC 3) fun v => Mf.bd Mf.rdV fun a => Mf.bd Mf.rdV fun b => Mf.pr ⟨i, v, a, b⟩
def Mf.rdL {α : Type} (f : List UInt8 → Option (α × List UInt8)) : Nat → List UInt8 → Option (List α × List UInt8)
 | 0 => Mf.pr []
 | n + 1 => Mf.bd f fun x => Mf.bd (Mf.rdL f n) fun xs => Mf.pr (x :: xs)
def Mf.rdX : List UInt8 → Option ((Int × Int × Mf.E) × List UInt8) :=
 Mf.bd (Mf.rdC 1000) fun n => Mf.bd (Mf.rdL (Mf.rdC 999999999) n.toNat) fun ds => Mf.bd (Mf.rdC 1000) fun m => Mf.bd (Mf.rdL Mf.rdP m.toNat) fun ps =>
  Mf.bd (Mf.rdC 999999999) fun a => Mf.bd (Mf.rdC 999999999) fun b => Mf.pr (n, m, ⟨ds, ps, a, b⟩)
def Mf.rd (l : List UInt8) : Option Mf.E := match Mf.rdX l with | some ((_, _, e), []) => some e | _ => none
structure Mf.Sim {σ α : Type} (em : List UInt8 → σ) (ok : σ → Prop) (V : α → Prop) (st : σ → α × σ) (f : List UInt8 → Option (α × List UInt8)) : Prop where
 mono : ∀ s, ok (st s).2 → ok s
 good : ∀ l x r, f l = some (x, r) → st (em l) = (x, em r)
 back : ∀ l, ok (st (em l)).2 → V (st (em l)).1 → f l ≠ none
def Mf.sb {σ α β : Type} (a : σ → α × σ) (b : α → σ → β × σ) (s : σ) : β × σ := b (a s).1 (a s).2
def Mf.sp {σ α : Type} (x : α) (s : σ) : α × σ := (x, s)
section
variable {σ α β : Type} {em : List UInt8 → σ} {ok : σ → Prop}
theorem Mf.Sim.pure {V : α → Prop} (x : α) : Mf.Sim em ok V (Mf.sp x) (Mf.pr x) :=
 ⟨fun _ h => h, fun l y r h => by
  unfold Mf.pr at h
  simp only [Option.some.injEq, Prod.mk.injEq] at h
  obtain ⟨rfl, rfl⟩ := h
  rfl, fun l _ _ h => by cases h⟩
theorem Mf.Sim.bind {V : α → Prop} {V2 : β → Prop} {a : σ → α × σ} {b : α → σ → β × σ} {f : List UInt8 → Option (α × List UInt8)} {g : α → List UInt8 → Option (β × List UInt8)} (h1 : Mf.Sim em ok V a f) (h2 : ∀ x, Mf.Sim em ok V2 (b x) (g x))
 (hV : ∀ x s, ok (b x s).2 → V2 (b x s).1 → V x) : Mf.Sim em ok V2 (Mf.sb a b) (Mf.bd f g) := by
 refine ⟨fun s h => h1.mono s ((h2 _).mono _ h), fun l y r h => ?_, fun l h hv e => ?_⟩
 ·unfold Mf.bd at h
  cases hf : f l with
  | none => rw [hf] at h; cases h
  | some p =>
    obtain ⟨x, r1⟩ := p
    rw [hf] at h
    unfold Mf.sb
    rw [h1.good l x r1 hf]
    exact (h2 x).good r1 y r h
 ·unfold Mf.bd at e
  unfold Mf.sb at h hv
  cases hf : f l with
  | none => exact h1.back l ((h2 _).mono _ h) (hV _ _ h hv) hf
  | some p =>
    obtain ⟨x, r1⟩ := p
    rw [hf] at e
    rw [h1.good l x r1 hf] at h hv
    exact (h2 x).back r1 h hv e
def Mf.sL (st : σ → α × σ) : Nat → σ → List α × σ
 | 0 => Mf.sp []
 | n + 1 => Mf.sb st fun x => Mf.sb (Mf.sL st n) fun xs => Mf.sp (x :: xs)
theorem Mf.Sim.loop {V : α → Prop} {st : σ → α × σ} {f : List UInt8 → Option (α × List UInt8)} (h : Mf.Sim em ok V st f) : ∀ n, Mf.Sim em ok (fun xs => ∀ x ∈ xs, V x) (Mf.sL st n) (Mf.rdL f n)
 | 0 => .pure []
 | n + 1 => h.bind (fun x => (Mf.Sim.loop h n).bind (fun xs => .pure (x :: xs)) fun xs s _ hv y hy => hv y (by show y ∈ x :: xs; simp [hy])) fun x s _ hv => hv x (by simp [Mf.sb, Mf.sp])
def Mf.gL (go : σ → Bool) (st : σ → α × σ) : Nat → σ → List α × σ
 | 0, s => ([], s)
 | n + 1, s => if go s = true then Mf.sb st (fun x => Mf.sb (Mf.gL go st n) fun xs => Mf.sp (x :: xs)) s else ([], s)
theorem Mf.sL_step (st : σ → α × σ) {n k : Nat} (h : k < n) (s : σ) (M : List α) : (M ++ (Mf.sL st (n - k) s).1, (Mf.sL st (n - k) s).2) = ((M ++ [(st s).1]) ++ (Mf.sL st (n - (k + 1)) (st s).2).1, (Mf.sL st (n - (k + 1)) (st s).2).2) := by
 obtain ⟨m, hm⟩ : ∃ m, n - k = m + 1 := ⟨n - k - 1, by omega⟩
 rw [hm, show n - (k + 1) = m by omega, List.append_assoc]
 rfl
end
structure Mf.St where
 l : List UInt8
 e : Nat
 wr : Bool
def Mf.em (l : List UInt8) : Mf.St := ⟨l, 0, false⟩
def Mf.St.ok (s : Mf.St) : Prop := s.e = 0 ∧ s.wr = false
def Mf.sC (most : Nat) (s : Mf.St) : Int × Mf.St :=
 if most < (Ty.rdU s.l s.e).1 then (0, ⟨(Ty.rdU s.l s.e).2.1, (Ty.rdU s.l s.e).2.2, true⟩) else (((Ty.rdU s.l s.e).1 : Int), ⟨(Ty.rdU s.l s.e).2.1, (Ty.rdU s.l s.e).2.2, s.wr⟩)
def Mf.sI (s : Mf.St) : Int × Mf.St := (Ty.zag ((Ty.rdU s.l s.e).1 : Int), ⟨(Ty.rdU s.l s.e).2.1, (Ty.rdU s.l s.e).2.2, s.wr⟩)
def Mf.sT (s : Mf.St) : List UInt8 × Mf.St := ((Ty.rdT 64 s.l s.e).1, ⟨(Ty.rdT 64 s.l s.e).2.1, (Ty.rdT 64 s.l s.e).2.2, s.wr⟩)
def Mf.sV : Mf.St → Kn.V × Mf.St := Mf.sb Mf.sI fun n => Mf.sb Mf.sT fun t => Mf.sp ⟨false, n, Ty.S t⟩
def Mf.sP : Mf.St → Mf.P × Mf.St := Mf.sb (Mf.sC 999999999) fun i => Mf.sb (Mf.sC 3) fun v => Mf.sb Mf.sV fun a => Mf.sb Mf.sV fun b => Mf.sp ⟨i, v, a, b⟩
def Mf.sX : Mf.St → (Int × Int × Mf.E) × Mf.St :=
 Mf.sb (Mf.sC 1000) fun n => Mf.sb (Mf.sL (Mf.sC 999999999) n.toNat) fun ds => Mf.sb (Mf.sC 1000) fun m => Mf.sb (Mf.sL Mf.sP m.toNat) fun ps =>
  Mf.sb (Mf.sC 999999999) fun a => Mf.sb (Mf.sC 999999999) fun b => Mf.sp (n, m, ⟨ds, ps, a, b⟩)
theorem Mf.rdU_0 (l : List UInt8) : Ty.rdU l 0 = ((num l).1, rest l, (num l).2.2) := by unfold Ty.rdU; rw [if_neg (by omega)]; rfl
theorem Mf.rdT_0 (l : List UInt8) : Ty.rdT 64 l 0 = ((txt l 64).1, restT l, (txt l 64).2.2) := by unfold Ty.rdT; rw [if_neg (by omega)]; rfl
theorem Mf.rdU_err {l : List UInt8} {e : Nat} (h : (Ty.rdU l e).2.2 = 0) : e = 0 := by
 unfold Ty.rdU at h
 split at h
 ·exact h
 ·rename_i he
  exact Decidable.not_not.1 he
theorem Mf.rdT_err {l : List UInt8} {e : Nat} (h : (Ty.rdT 64 l e).2.2 = 0) : e = 0 := by
 unfold Ty.rdT at h
 split at h
 ·exact h
 ·rename_i he
  exact Decidable.not_not.1 he
theorem Mf.sC_sim (most : Nat) (V : Int → Prop) : Mf.Sim Mf.em Mf.St.ok V (Mf.sC most) (Mf.rdC most) := by
 refine ⟨fun s h => ?_, fun l x r h => ?_, fun l h _ e => ?_⟩
 ·unfold Mf.sC at h
  split at h
  ·exact Bool.noConfusion h.2
  ·exact ⟨Mf.rdU_err h.1, h.2⟩
 ·unfold Mf.rdC at h
  split at h
  ·rename_i h0
   simp only [Option.some.injEq, Prod.mk.injEq] at h
   obtain ⟨rfl, rfl⟩ := h
   unfold Mf.sC Mf.em
   simp only [Mf.rdU_0]
   rw [if_neg (by omega), h0.1]
  ·cases h
 ·unfold Mf.sC Mf.em at h
  simp only [Mf.rdU_0] at h
  unfold Mf.rdC at e
  split at h
  ·exact Bool.noConfusion h.2
  ·rw [if_pos ⟨h.1, by omega⟩] at e; cases e
theorem Mf.sV_sim : Mf.Sim Mf.em Mf.St.ok (fun _ => True) Mf.sV Mf.rdV := by
 refine ⟨fun s h => ⟨Mf.rdU_err (Mf.rdT_err h.1), h.2⟩, fun l x r h => ?_, fun l h _ e => ?_⟩
 ·unfold Mf.rdV at h
  split at h
  ·rename_i h0
   simp only [Option.some.injEq, Prod.mk.injEq] at h
   obtain ⟨rfl, rfl⟩ := h
   unfold Mf.sV Mf.sb Mf.sI Mf.sT Mf.sp Mf.em
   simp only [Mf.rdU_0, h0.1, Mf.rdT_0, h0.2]
   rfl
  ·cases h
 ·unfold Mf.sV Mf.sb Mf.sI Mf.sT Mf.sp Mf.em at h
  simp only [Mf.rdU_0] at h
  have h1 := Mf.rdT_err h.1
  rw [h1] at h
  simp only [Mf.rdT_0] at h
  unfold Mf.rdV at e
  rw [if_pos ⟨h1, h.1⟩] at e
  cases e
theorem Mf.sP_sim : Mf.Sim Mf.em Mf.St.ok (fun _ => True) Mf.sP Mf.rdP :=
 (Mf.sC_sim _ (fun _ => True)).bind (fun _ => (Mf.sC_sim _ (fun _ => True)).bind (fun _ => Mf.sV_sim.bind (fun _ => Mf.sV_sim.bind (fun _ => .pure _) fun _ _ _ _ => trivial) fun _ _ _ _ => trivial) fun _ _ _ _ => trivial) fun _ _ _ _ => trivial
abbrev Mf.Ct := List UInt8 × Nat
def Mf.ec (l : List UInt8) : Mf.Ct := (l, 0)
def Mf.okc (c : Mf.Ct) : Prop := c.2 = 0
def Mf.go (c : Mf.Ct) : Bool := c.2 == 0
def Mf.dC (c : Mf.Ct) : Int × Mf.Ct := (if 999999999 < (Ty.rdU c.1 c.2).1 then -1 else ((Ty.rdU c.1 c.2).1 : Int), (Ty.rdU c.1 c.2).2)
def Mf.dI (c : Mf.Ct) : Int × Mf.Ct := (Ty.zag ((Ty.rdU c.1 c.2).1 : Int), (Ty.rdU c.1 c.2).2)
def Mf.dT (c : Mf.Ct) : List UInt8 × Mf.Ct := ((Ty.rdT 64 c.1 c.2).1, (Ty.rdT 64 c.1 c.2).2)
def Mf.dV : Mf.Ct → Kn.V × Mf.Ct := Mf.sb Mf.dI fun n => Mf.sb Mf.dT fun t => Mf.sp ⟨false, n, Ty.S t⟩
def Mf.dP : Mf.Ct → Mf.P × Mf.Ct := Mf.sb Mf.dC fun i => Mf.sb Mf.dC fun v => Mf.sb Mf.dV fun a => Mf.sb Mf.dV fun b => Mf.sp ⟨i, v, a, b⟩
def Mf.dX : Mf.Ct → (Int × Int × Mf.E) × Mf.Ct :=
 Mf.sb Mf.dC fun n => Mf.sb (Mf.gL Mf.go Mf.dC n.toNat) fun ds => Mf.sb Mf.dC fun m => Mf.sb (Mf.gL Mf.go Mf.dP m.toNat) fun ps =>
  Mf.sb Mf.dC fun a => Mf.sb Mf.dC fun b => Mf.sp (n, m, ⟨ds, ps, a, b⟩)
def Mf.dok (x : (Int × Int × Mf.E) × Mf.Ct) : Bool := decide (0 ≤ x.1.1) && decide (0 ≤ x.1.2.1) && (Ty.fin x.2.1 x.2.2 == 0) && Mf.right x.1.2.2
end Go.Proofs.YteaglaijkafphaaDoor
namespace Go.Proofs.YteaglaijkafphaaDoor.Fr
open Go
def P : Nat := 2197175160
def T (r : Nat) : Nat := (r / 2) ^^^ (if r % 2 = 1 then P else 0)
theorem xor_half (a b : Nat) : (a ^^^ b) / 2 = (a / 2) ^^^ (b / 2) := by
 have := Nat.shiftRight_xor_distrib (a := a) (b := b) (i := 1)
 simpa [Nat.shiftRight_eq_div_pow] using this
theorem xor_odd (a b : Nat) : (a ^^^ b) % 2 = (a + b) % 2 := by
 have h := Nat.testBit_xor a b 0
 simp only [Nat.testBit_zero] at h
 rcases Nat.mod_two_eq_zero_or_one a with ha | ha <;> rcases Nat.mod_two_eq_zero_or_one b with hb | hb <;> rcases Nat.mod_two_eq_zero_or_one (a ^^^ b) with hc | hc <;> simp [ha, hb, hc] at h <;> omega
theorem T_xor (a b : Nat) : T (a ^^^ b) = T a ^^^ T b := by
 unfold T
 rw [xor_half, xor_odd]
 rcases Nat.mod_two_eq_zero_or_one a with ha | ha <;> rcases Nat.mod_two_eq_zero_or_one b with hb | hb
 ·rw [if_neg (by omega), if_neg (by omega), if_neg (by omega)]; simp
 ·rw [if_pos (by omega), if_neg (by omega), if_pos hb]; simp [Nat.xor_assoc]
 ·rw [if_pos (by omega), if_pos ha, if_neg (by omega)]
  rw [Nat.xor_zero, Nat.xor_assoc, Nat.xor_assoc, Nat.xor_comm P]
 ·rw [if_neg (by omega), if_pos ha, if_pos hb, Nat.xor_zero]
  have e : (a / 2 ^^^ P) ^^^ (b / 2 ^^^ P) = (a / 2 ^^^ b / 2) ^^^ (P ^^^ P) := by
   rw [Nat.xor_assoc, Nat.xor_assoc, ← Nat.xor_assoc P, Nat.xor_comm P, Nat.xor_assoc]
  rw [e, Nat.xor_self, Nat.xor_zero]
theorem T_double (r : Nat) : T (2 * r) = r := by
 unfold T
 rw [if_neg (by omega), Nat.xor_zero]
 omega
theorem T_lt {r : Nat} (h : r < 2 ^ 32) : T r < 2 ^ 32 := by
 unfold T
 refine Nat.xor_lt_two_pow (by omega) ?_
 split
 ·decide
 ·decide
def Tn : Nat → Nat → Nat
 | 0, r => r
 | k + 1, r => Tn k (T r)
theorem Tn_add (j k r : Nat) : Tn (j + k) r = Tn k (Tn j r) := by
 induction j generalizing r with
 | zero => rw [Nat.zero_add]; rfl
 | succ j ih => rw [Nat.succ_add]; exact ih (T r)
theorem Tn_xor (k a b : Nat) : Tn k (a ^^^ b) = Tn k a ^^^ Tn k b := by
 induction k generalizing a b with
 | zero => rfl
 | succ k ih =>
   show Tn k (T (a ^^^ b)) = _
   rw [T_xor]
   exact ih (T a) (T b)
theorem Tn_shift (k r : Nat) : Tn k (2 ^ k * r) = r := by
 induction k generalizing r with
 | zero => simp [Tn]
 | succ k ih =>
   show Tn k (T (2 ^ (k + 1) * r)) = r
   have e : 2 ^ (k + 1) * r = 2 * (2 ^ k * r) := by rw [Nat.pow_succ, Nat.mul_comm (2 ^ k) 2, Nat.mul_assoc]
   rw [e, T_double, ih]
theorem Tn_lt {k r : Nat} (h : r < 2 ^ 32) : Tn k r < 2 ^ 32 := by
 induction k generalizing r with
 | zero => exact h
 | succ k ih => exact ih (T_lt h)
theorem Tn_split (k r : Nat) : Tn k r = (r / 2 ^ k) ^^^ Tn k (r % 2 ^ k) := by
 have e : r = (2 ^ k * (r / 2 ^ k)) ^^^ (r % 2 ^ k) := by
  have h := Nat.div_add_mod r (2 ^ k)
  have h2 := Nat.mod_lt r (Nat.two_pow_pos k)
  refine Nat.eq_of_testBit_eq fun i => ?_
  rw [Nat.testBit_xor, Nat.testBit_two_pow_mul, Nat.testBit_mod_two_pow, Nat.testBit_div_two_pow]
  by_cases hi : k ≤ i
  ·have h3 : ¬ i < k := by omega
   have h4 : i - k + k = i := by omega
   simp [hi, h3, h4]
  ·have h3 : i < k := by omega
   simp [hi, h3]
 conv => lhs; rw [e]
 rw [Tn_xor, Tn_shift]
def reg : Nat → List UInt8 → Nat
 | r, [] => r
 | r, b :: l => reg (Tn 8 (r ^^^ b.toNat)) l
def val : List UInt8 → Nat
 | [] => 0
 | b :: l => 256 * val l + b.toNat
theorem val_lt (l : List UInt8) : val l < 2 ^ (8 * l.length) := by
 induction l with
 | nil => simp [val]
 | cons b l ih =>
   have hb := b.toNat_lt
   have e : 2 ^ (8 * (b :: l).length) = 256 * 2 ^ (8 * l.length) := by
    rw [List.length_cons, Nat.mul_add, Nat.pow_add, Nat.mul_comm]
   rw [e]
   unfold val
   omega
theorem reg_append (a b : List UInt8) (r : Nat) : reg r (a ++ b) = reg (reg r a) b := by
 induction a generalizing r with
 | nil => rfl
 | cons x a ih => exact ih _
theorem reg_lt (l : List UInt8) : ∀ r, r < 2 ^ 32 → reg r l < 2 ^ 32 := by
 induction l with
 | nil => intro r h; exact h
 | cons b l ih =>
   intro r h
   exact ih _ (Tn_lt (Nat.xor_lt_two_pow h (Nat.lt_of_lt_of_le b.toNat_lt (by decide))))
def ones : Nat := 4294967295
def sum (l : List UInt8) : Nat := reg ones l ^^^ ones
theorem sum_lt (l : List UInt8) : sum l < 2 ^ 32 := Nat.xor_lt_two_pow (reg_lt l ones (by decide)) (by decide)
end Go.Proofs.YteaglaijkafphaaDoor.Fr
namespace Go.Proofs.YteaglaijkafphaaDoor.Fr
open Go
abbrev Str := List UInt8
def four (n : Nat) : List UInt8 := [UInt8.ofNat (n % 256), UInt8.ofNat (n / 256 % 256), UInt8.ofNat (n / 65536 % 256), UInt8.ofNat (n / 16777216 % 256)]
theorem four_len (n : Nat) : (four n).length = 4 := rfl
theorem val_four (n : Nat) (h : n < 2 ^ 32) : val (four n) = n := by
 unfold four val val val val val
 simp only [UInt8.toNat_ofNat']
 omega
def frm (t : Str) : List UInt8 := four t.length ++ (t ++ four (sum t))
theorem frm_len (t : Str) : (frm t).length = t.length + 8 := by simp [frm, four_len]; omega
def scanF : Nat → List UInt8 → Nat × List Str × Nat
 | 0, _ => (0, [], 0)
 | f + 1, l =>
   if l.length < 4 then (0, [], 0)
   else if 1048576 < val (l.take 4) then (8, [], 0)
   else if l.length < val (l.take 4) + 8 then (0, [], 0)
   else if val ((l.drop (4 + val (l.take 4))).take 4) ≠ sum ((l.drop 4).take (val (l.take 4))) then (8, [], 0)
   else if (scanF f (l.drop (val (l.take 4) + 8))).1 ≠ 0 then (8, [], 0)
   else (0, (l.drop 4).take (val (l.take 4)) :: (scanF f (l.drop (val (l.take 4) + 8))).2.1, val (l.take 4) + 8 + (scanF f (l.drop (val (l.take 4) + 8))).2.2)
theorem scanF_any : ∀ (f g : Nat) (l : List UInt8), l.length < f → l.length < g → scanF f l = scanF g l
 | 0, _, l, h, _ => by omega
 | _ + 1, 0, l, _, h => by omega
 | f + 1, g + 1, l, h1, h2 => by
   simp only [scanF]
   by_cases a : l.length < 4
   ·rw [if_pos a, if_pos a]
   ·have e : scanF f (l.drop (val (l.take 4) + 8)) = scanF g (l.drop (val (l.take 4) + 8)) := scanF_any f g _ (by rw [List.length_drop]; omega) (by rw [List.length_drop]; omega)
    rw [e]
def scan (l : List UInt8) : Nat × List Str × Nat := scanF (l.length + 1) l
theorem scan_is (l : List UInt8) : scan l =
 if l.length < 4 then (0, [], 0)
 else if 1048576 < val (l.take 4) then (8, [], 0)
 else if l.length < val (l.take 4) + 8 then (0, [], 0)
 else if val ((l.drop (4 + val (l.take 4))).take 4) ≠ sum ((l.drop 4).take (val (l.take 4))) then (8, [], 0)
 else if (scan (l.drop (val (l.take 4) + 8))).1 ≠ 0 then (8, [], 0)
 else (0, (l.drop 4).take (val (l.take 4)) :: (scan (l.drop (val (l.take 4) + 8))).2.1, val (l.take 4) + 8 + (scan (l.drop (val (l.take 4) + 8))).2.2) := by
 by_cases a : l.length < 4
 ·rw [if_pos a]
  show scanF (l.length + 1) l = _
  simp only [scanF]
  rw [if_pos a]
 ·have e : scanF l.length (l.drop (val (l.take 4) + 8)) = scan (l.drop (val (l.take 4) + 8)) := scanF_any _ _ _ (by rw [List.length_drop]; omega) (by omega)
  rw [← e]
  rfl
def more (t : Str) (q : Nat × List Str × Nat) : Nat × List Str × Nat := if q.1 ≠ 0 then (8, [], 0) else (0, t :: q.2.1, t.length + 8 + q.2.2)
theorem scan_frm (t : Str) (h : t.length ≤ 1048576) (r : List UInt8) : scan (frm t ++ r) = more t (scan r) := by
 have e1 : (frm t ++ r).take 4 = four t.length := by
  unfold frm
  rw [List.append_assoc, List.take_append_of_le_length (by rw [four_len]; omega)]
  rfl
 have e2 : val ((frm t ++ r).take 4) = t.length := by rw [e1, val_four _ (by omega)]
 have e3 : (frm t ++ r).drop 4 = t ++ (four (sum t) ++ r) := by unfold frm; simp [four]
 have e4 : ((frm t ++ r).drop 4).take t.length = t := by rw [e3]; simp
 have e5 : ((frm t ++ r).drop (4 + t.length)).take 4 = four (sum t) := by
  rw [← List.drop_drop, e3]
  simp [four]
 have e6 : (frm t ++ r).drop (t.length + 8) = r := by
  rw [← frm_len]; simp
 have e7 : (frm t ++ r).length = t.length + 8 + r.length := by rw [List.length_append, frm_len]
 rw [scan_is, e2, e4, e5, e6, e7, if_neg (by omega), if_neg (by omega), if_neg (by omega), if_neg (by rw [val_four _ (sum_lt t)]; simp)]
 rfl
theorem scan_nil : scan [] = (0, [], 0) := by rw [scan_is]; simp
def size (L : List Str) : Nat := (L.map fun t => t.length + 8).sum
theorem size_is (L : List Str) : (L.flatMap frm).length = size L := by
 induction L with
 | nil => rfl
 | cons t L ih =>
   rw [List.flatMap_cons, List.length_append, ih, frm_len]
   simp [size]
def whole : List Str → Nat → Nat
 | [], _ => 0
 | t :: L, k => if t.length + 8 ≤ k then whole L (k - (t.length + 8)) + 1 else 0
theorem scan_torn : ∀ (L : List Str) (k : Nat), (∀ t ∈ L, t.length ≤ 1048576) → scan ((L.flatMap frm).take k) = (0, L.take (whole L k), size (L.take (whole L k)))
 | [], k, _ => by simp [whole, scan_nil, size]
 | t :: L, k, h => by
   have ht := h t (by simp)
   unfold whole
   by_cases hk : t.length + 8 ≤ k
   ·rw [if_pos hk]
    have e : ((t :: L).flatMap frm).take k = frm t ++ (L.flatMap frm).take (k - (t.length + 8)) := by
     rw [List.flatMap_cons, List.take_append, frm_len, List.take_of_length_le (by rw [frm_len]; omega)]
    rw [e, scan_frm t ht, scan_torn L _ fun y hy => h y (by simp [hy])]
    simp [more, size]
   ·rw [if_neg hk]
    have e : ((t :: L).flatMap frm).take k = (frm t).take k := by
     rw [List.flatMap_cons, List.take_append_of_le_length (by rw [frm_len]; omega)]
    have hl : ((frm t).take k).length = k := by rw [List.length_take, frm_len]; omega
    rw [e, scan_is, hl]
    by_cases h4 : k < 4
    ·rw [if_pos h4]
     simp [size]
    ·have e2 : ((frm t).take k).take 4 = four t.length := by
      rw [List.take_take, Nat.min_eq_left (by omega)]
      unfold frm
      rw [List.take_append_of_le_length (by rw [four_len]; omega)]
      rfl
     rw [if_neg h4, e2, val_four _ (by omega), if_neg (by omega), if_pos (by omega)]
     simp [size]
theorem scan_err (l : List UInt8) : (scan l).1 = 0 ∨ scan l = (8, [], 0) := by
 rw [scan_is]
 repeat' split
 all_goals first | exact .inl rfl | exact .inr rfl
def both (a : List UInt8) (p q : Nat × List Str × Nat) : Nat × List Str × Nat := if p.1 ≠ 0 then (8, [], 0) else if q.1 ≠ 0 then (8, [], 0) else (0, p.2.1 ++ q.2.1, a.length + q.2.2)
end Go.Proofs.YteaglaijkafphaaDoor.Fr
namespace Go.Proofs.YteaglaijkafphaaDoor
open Go.RowKit
theorem Ty.Tabs.below {w w' : World} (h : Ty.Tabs w) {b : Nat} (hb : Below b w w') (hG : Ty.G ≤ b) : Ty.Tabs w' := h.kept hb.size fun k hk => hb.block k (by omega)
theorem Ty.below_by {w w' : World} {B : Nat} {r : Option Nat} (hg : w.grownBy w' r) (hB : B ≤ w.heap.size) (hr : ∀ k, r = some k → B ≤ k) : Below B w w' :=
 (Below.refl B w).grown hg hB hr
theorem Ty.Cur.by {b : Nat} {w w' : World} {l : List UInt8} {e : Nat} (h : Ty.Cur b w l e) {r : Option Nat} (hg : w.grownBy w' r) (hr : r ≠ some b) : Ty.Cur b w' l e := by
 unfold Ty.Cur at h ⊢
 rw [hg.block b (lt_of_block h) (fun e => hr e.symm)]
 exact h
theorem Ty.Tabs.alloc {w : World} (h : Ty.Tabs w) (o : Obj) : Ty.Tabs (w.alloc o) := h.below ((Below.refl w.heap.size w).alloc (Nat.le_refl _) o) h.two
end Go.Proofs.YteaglaijkafphaaDoor
namespace Go.Proofs.YteaglaijkafphaaDoor
open Go.RowKit
theorem Ty.Tabs.drew {w : World} (h : Ty.Tabs w) : Ty.Tabs w.drew := h.kept (Nat.le_refl _) fun _ _ => rfl
theorem Ty.Buf.later {base : Nat} {w w' : World} {v : Value} {bs : List UInt8} (h : Ty.Buf base w v bs) (hb : Below w.heap.size w w') : Ty.Buf base w' v bs :=
 h.kept fun k hk => hb.block k (h.lt k hk).2
theorem Ty.Buf.str {base : Nat} {w : World} {v : Value} {bs : List UInt8} (h : Ty.Buf base w v bs) : (convert 89 9 v).run Tryd.prog w = .ok (.string (Ty.S bs)) w :=
 h.string 89 9 Tryd.underlying89 Tryd.underlying5 Tryd.underlying9
def Ty.Fresh (w : World) (bs : List UInt8) (e : Ending) (w' : World) : Prop := ∃ v', e = .returned v' ∧ Ty.Buf w.heap.size w' v' bs ∧ Ty.Tabs w' ∧ Below w.heap.size w w'
theorem Ty.Written.fresh {w : World} {bs : List UInt8} {e : Ending} {w' : World} (h : Ty.Written w.heap.size w (.slice none 0 0) bs e w') (hw : Ty.Tabs w) : Ty.Fresh w bs e w' := by
 obtain ⟨v', rfl, hB, hG⟩ := h
 have hb := Ty.below_by hG.by_ (Nat.le_refl w.heap.size) (by intro k hk; cases hk)
 exact ⟨v', rfl, hB, hw.below hb hw.two, hb⟩
theorem Ty.Tabs.at_ {w w' : World} {b : Nat} (h : Ty.Tabs w) (hg : w.grownBy w' (some b)) (hb : Ty.G ≤ b) : Ty.Tabs w' := h.by hg (by intro k hk; cases hk; exact hb)
theorem Ty.Cur.none_ {b : Nat} {w w' : World} {l : List UInt8} {e : Nat} (h : Ty.Cur b w l e) (hg : w.grownBy w' none) : Ty.Cur b w' l e := h.by hg (by intro h; cases h)
theorem Ty.Cur.at_ {b c : Nat} {w w' : World} {l : List UInt8} {e : Nat} (h : Ty.Cur b w l e) (hg : w.grownBy w' (some c)) (hb : c ≠ b) : Ty.Cur b w' l e := h.by hg (by intro h; exact hb (Option.some.inj h))
theorem Ty.Cur.below {b : Nat} {w w' : World} {l : List UInt8} {e B : Nat} (h : Ty.Cur b w l e) (hb : Below B w w') (hB : b < B) : Ty.Cur b w' l e := by
 unfold Ty.Cur at h ⊢
 rw [hb.block b hB]
 exact h
end Go.Proofs.YteaglaijkafphaaDoor
namespace Go.Proofs.YteaglaijkafphaaDoor
open Go.RowKit
theorem Fr.Tn_last (j r : Nat) : Fr.Tn (j + 1) r = Fr.T (Fr.Tn j r) := Fr.Tn_add j 1 r
theorem Fr.T_odd {r : Nat} (h : r % 2 = 1) : Fr.T r = r / 2 ^^^ 2197175160 := by unfold Fr.T; rw [if_pos h]; rfl
theorem Fr.T_even {r : Nat} (h : r % 2 = 0) : Fr.T r = r / 2 := by unfold Fr.T; rw [if_neg (by omega), Nat.xor_zero]
theorem Fr.reg_snoc (l : List UInt8) (b : UInt8) (r : Nat) : Fr.reg r (l ++ [b]) = Fr.Tn 8 (Fr.reg r l ^^^ b.toNat) := by
 rw [Fr.reg_append]
 rfl
theorem Fr.reg_step {s : ByteArray} {k : Nat} (h : k < s.size) (r : Nat) : Fr.reg r (s.data.toList.take (k + 1)) = Fr.Tn 8 (Fr.reg r (s.data.toList.take k) ^^^ (s[k]).toNat) := by
 have hl : k < s.data.toList.length := by rw [Ty.length_data]; exact h
 rw [List.take_succ_eq_append_getElem hl, Fr.reg_snoc]
 rfl
theorem Fr.four_buf (n : Nat) (hn : n < 4294967296) (w : World) : Ty.Buf w.heap.size (w.alloc (.cells #[.int .u8 ((n : Int) % 256), .int .u8 ((n : Int) / 256 % 256), .int .u8 ((n : Int) / 65536 % 256), .int .u8 ((n : Int) / 16777216)] 5)) (.slice (some ⟨w.heap.size, 0, none⟩) 4 4) (Fr.four n) := by
 refine ⟨by simp, .inr ⟨w.heap.size, 4, _, rfl, Nat.le_refl _, heap_alloc_new w _, Nat.le_refl _, by unfold maxLen; omega, by simp, ?_⟩⟩
 have e0 := Ty.toNat_ofNat8 (n % 256) (by omega)
 have e1 := Ty.toNat_ofNat8 (n / 256 % 256) (by omega)
 have e2 := Ty.toNat_ofNat8 (n / 65536 % 256) (by omega)
 have e3 := Ty.toNat_ofNat8 (n / 16777216 % 256) (by omega)
 have i3 : ((n / 16777216 % 256 : Nat) : Int) = (n : Int) / 16777216 := by omega
 simp only [Fr.four, List.map_cons, List.map_nil, Ty.B, e0, e1, e2, e3, i3]
 simp
def Fr.at4 (s : ByteArray) : Nat := Fr.val (s.data.toList.take 4)
theorem Fr.val4 {s : ByteArray} (h : 4 ≤ s.size) : Fr.val (s.data.toList.take 4) = s[0].toNat + s[1].toNat * 256 + s[2].toNat * 65536 + s[3].toNat * 16777216 := by
 have hl : 4 ≤ s.data.toList.length := by rw [Ty.length_data]; exact h
 have e : s.data.toList.take 4 = [s[0], s[1], s[2], s[3]] := by
  refine List.ext_getElem (by rw [List.length_take]; simp; omega) fun i h1 h2 => ?_
  have hi : i < 4 := by simpa using h2
  rw [List.getElem_take]
  rcases (by omega : i = 0 ∨ i = 1 ∨ i = 2 ∨ i = 3) with rfl | rfl | rfl | rfl <;> rfl
 rw [e]
 simp only [Fr.val]
 omega
theorem Fr.S_add (a b : List UInt8) : Ty.S a ++ Ty.S b = Ty.S (a ++ b) := by
 apply ByteArray.ext
 apply Array.toList_inj.1
 rw [ByteArray.data_append, Array.toList_append]
 simp [Ty.S]
theorem Fr.four_mod (n : Nat) : Fr.four (n % 4294967296) = Fr.four n := by
 unfold Fr.four
 rw [show n % 4294967296 % 256 = n % 256 by omega, show n % 4294967296 / 256 % 256 = n / 256 % 256 by omega, show n % 4294967296 / 65536 % 256 = n / 65536 % 256 by omega, show n % 4294967296 / 16777216 % 256 = n / 16777216 % 256 by omega]
end Go.Proofs.YteaglaijkafphaaDoor
namespace Go.Proofs.YteaglaijkafphaaDoor
open Go.RowKit
def Ty.RMid (base n sz k : Nat) (wr : World) (v : Value) : Prop :=
 (k = sz ∧ Ty.Buf base wr v []) ∨ (k < sz ∧ ∃ done, Ty.encU n = done ++ Ty.low k n ∧ done.length + k ≤ 9 ∧ Ty.Buf base wr v done)
theorem Ty.Buf.base {base : Nat} {w : World} {v : Value} {bs : List UInt8} (h : Ty.Buf base w v bs) : ∀ k, v.ownBlock = some k → base ≤ k := fun k hk => (h.lt k hk).1
def Ty.Str (w : World) (bs : List UInt8) (e : Ending) (w' : World) : Prop := e = .returned (.string (Ty.S bs)) ∧ Below w.heap.size w w'
theorem Ty.RMid.first {base n sz k : Nat} {w1 : World} {v1 : Value} (hk : k = Ty.after (Ty.form n)) (hs : sz = k + 1) {X : Int} (hX : X = ((Ty.head n).toNat : Int)) (h1 : ∀ u : UInt8, X = (u.toNat : Int) → Ty.Buf base w1 v1 ([] ++ [u])) : Ty.RMid base n sz k w1 v1 :=
 .inr ⟨by omega, [Ty.head n], by rw [hk]; exact Ty.encU_split n, by have := Ty.after_le n; simp; omega, h1 _ hX⟩
theorem Ty.RMid.next {base n sz k : Nat} {done : List UInt8} {w1 : World} {v1 : Value} (hd : Ty.encU n = done ++ Ty.low (k + 1) n) (hl : done.length + (k + 1) ≤ 9) (hk : k + 1 < sz)
 (h1 : ∀ u : UInt8, ((n : Int) / 2 ^ (8 * k) % 256) = (u.toNat : Int) → Ty.Buf base w1 v1 (done ++ [u])) : Ty.RMid base n sz k w1 v1 :=
 .inr ⟨by omega, done ++ [UInt8.ofNat (n / 256 ^ k % 256)], by rw [hd, Ty.low_succ]; simp, by simp; omega, h1 _ (Ty.low_byte n k)⟩
end Go.Proofs.YteaglaijkafphaaDoor
namespace Go.Proofs.YteaglaijkafphaaDoor
open Go.RowKit
end Go.Proofs.YteaglaijkafphaaDoor
