import Derived.Test.YteaglaijkafphaaDoorZAA
import Derived.Test.YteaglaijkafphaaDoorZAB
import Derived.Test.YteaglaijkafphaaDoorZAC
import Derived.RegionCalls
import Derived.Deep.RegionWith
import Derived.Laws.BitsAllLaws
import Derived.BigQuiet
import Derived.WalkKit
import Derived.WalkSpells
import Derived.WalkLawsBesides
import Derived.Laws.StructEq
import Derived.Lib.QuietBelow
import Derived.Deep.DeepCutAuto
import Derived.StillTailTactics
import Derived.Lib.Hide
import Derived.Deep.QuietTactic
import Derived.IntWalk
namespace Go.Proofs.YteaglaijkafphaaDoor
open Go
open Ty (num txt encU U64 I64)
open Ig (rest sg)
open Tx (encT restT)
def Mf.encN (n : Int) : List UInt8 := encU n.toNat
def Mf.encV (v : Kn.V) : List UInt8 := Ig.encI v.n ++ encT v.s.data.toList
def Mf.encP (p : Mf.P) : List UInt8 := Mf.encN p.id ++ Mf.encN p.lv ++ Mf.encV p.lo ++ Mf.encV p.hi
def Mf.enc (e : Mf.E) : List UInt8 :=
 Mf.encN e.drop.length ++ e.drop.flatMap Mf.encN ++ Mf.encN e.add.length ++ e.add.flatMap Mf.encP ++ Mf.encN e.floor ++ Mf.encN e.next
def Mf.rdC (most : Nat) (l : List UInt8) : Option (Int × List UInt8) := if (num l).2.2 = 0 ∧ (num l).1 ≤ most then some (((num l).1 : Int), rest l) else none
def Mf.rdV (l : List UInt8) : Option (Kn.V × List UInt8) :=
 if (num l).2.2 = 0 ∧ (txt (rest l) 64).2.2 = 0 then some (⟨false, sg l, Ty.S (txt (rest l) 64).1⟩, restT (rest l)) else none
def Mf.bd {α β : Type} (f : List UInt8 → Option (α × List UInt8)) (g : α → List UInt8 → Option (β × List UInt8)) (l : List UInt8) : Option (β × List UInt8) :=
 match f l with | none => none | some (x, r) => g x r
def Mf.pr {α : Type} (x : α) (l : List UInt8) : Option (α × List UInt8) := some (x, l)
def Mf.rdP : List UInt8 → Option (Mf.P × List UInt8) :=
 Mf.bd (Mf.rdC 999999999) fun i => Mf.bd (Mf.rdC 3) fun v => Mf.bd Mf.rdV fun a => Mf.bd Mf.rdV fun b => Mf.pr ⟨i, v, a, b⟩
def Mf.rdL {α : Type} (f : List UInt8 → Option (α × List UInt8)) : Nat → List UInt8 → Option (List α × List UInt8)
 | 0 => Mf.pr []
 | n + 1 => Mf.bd f fun x => Mf.bd (Mf.rdL f n) fun xs => Mf.pr (x :: xs)
def Mf.rdX : List UInt8 → Option ((Int × Int × Mf.E) × List UInt8) :=
 Mf.bd (Mf.rdC 1000) fun n => Mf.bd (Mf.rdL (Mf.rdC 999999999) n.toNat) fun ds => Mf.bd (Mf.rdC 1000) fun m => Mf.bd (Mf.rdL Mf.rdP m.toNat) fun ps =>
  Mf.bd (Mf.rdC 999999999) fun a => Mf.bd (Mf.rdC 999999999) fun b => Mf.pr (n, m, ⟨ds, ps, a, b⟩)
def Mf.rd (l : List UInt8) : Option Mf.E := match Mf.rdX l with | some ((_, _, e), []) => some e | _ => none
structure Mf.Sim {σ α : Type} (em : List UInt8 → σ) (ok : σ → Prop) (V : α → Prop) (st : σ → α × σ) (f : List UInt8 → Option (α × List UInt8)) : Prop where
 mono : ∀ s, ok (st s).2 → ok s
 good : ∀ l x r, f l = some (x, r) → st (em l) = (x, em r)
 back : ∀ l, ok (st (em l)).2 → V (st (em l)).1 → f l ≠ none
def Mf.sb {σ α β : Type} (a : σ → α × σ) (b : α → σ → β × σ) (s : σ) : β × σ := b (a s).1 (a s).2
def Mf.sp {σ α : Type} (x : α) (s : σ) : α × σ := (x, s)
section
variable {σ α β : Type} {em : List UInt8 → σ} {ok : σ → Prop}
theorem Mf.Sim.pure {V : α → Prop} (x : α) : Mf.Sim em ok V (Mf.sp x) (Mf.pr x) :=
 ⟨fun _ h => h, fun l y r h => by
  unfold Mf.pr at h
  simp only [Option.some.injEq, Prod.mk.injEq] at h
  obtain ⟨rfl, rfl⟩ := h
  rfl, fun l _ _ h => by cases h⟩
theorem Mf.Sim.bind {V : α → Prop} {V2 : β → Prop} {a : σ → α × σ} {b : α → σ → β × σ} {f : List UInt8 → Option (α × List UInt8)} {g : α → List UInt8 → Option (β × List UInt8)} (h1 : Mf.Sim em ok V a f) (h2 : ∀ x, Mf.Sim em ok V2 (b x) (g x))
 (hV : ∀ x s, ok (b x s).2 → V2 (b x s).1 → V x) : Mf.Sim em ok V2 (Mf.sb a b) (Mf.bd f g) := by
 refine ⟨fun s h => h1.mono s ((h2 _).mono _ h), fun l y r h => ?_, fun l h hv e => ?_⟩
 ·unfold Mf.bd at h
  cases hf : f l with
  | none => rw [hf] at h; cases h
  | some p =>
    obtain ⟨x, r1⟩ := p
    rw [hf] at h
    unfold Mf.sb
    rw [h1.good l x r1 hf]
    exact (h2 x).good r1 y r h
 ·unfold Mf.bd at e
  unfold Mf.sb at h hv
  cases hf : f l with
  | none => exact h1.back l ((h2 _).mono _ h) (hV _ _ h hv) hf
  | some p =>
    obtain ⟨x, r1⟩ := p
    rw [hf] at e
    rw [h1.good l x r1 hf] at h hv
    exact (h2 x).back r1 h hv e
def Mf.sL (st : σ → α × σ) : Nat → σ → List α × σ
 | 0 => Mf.sp []
 | n + 1 => Mf.sb st fun x => Mf.sb (Mf.sL st n) fun xs => Mf.sp (x :: xs)
theorem Mf.Sim.loop {V : α → Prop} {st : σ → α × σ} {f : List UInt8 → Option (α × List UInt8)} (h : Mf.Sim em ok V st f) : ∀ n, Mf.Sim em ok (fun xs => ∀ x ∈ xs, V x) (Mf.sL st n) (Mf.rdL f n)
 | 0 => .pure []
 | n + 1 => h.bind (fun x => (Mf.Sim.loop h n).bind (fun xs => .pure (x :: xs)) fun xs s _ hv y hy => hv y (by show y ∈ x :: xs; simp [hy])) fun x s _ hv => hv x (by simp [Mf.sb, Mf.sp])
def Mf.gL (go : σ → Bool) (st : σ → α × σ) : Nat → σ → List α × σ
 | 0, s => ([], s)
 | n + 1, s => if go s = true then Mf.sb st (fun x => Mf.sb (Mf.gL go st n) fun xs => Mf.sp (x :: xs)) s else ([], s)
theorem Mf.Sim.gloop {V : α → Prop} {st : σ → α × σ} {f : List UInt8 → Option (α × List UInt8)} {go : σ → Bool} (hgo : ∀ s, go s = true ↔ ok s) (hem : ∀ l, ok (em l)) (h : Mf.Sim em ok V st f) : ∀ n, Mf.Sim em ok (fun xs => ∀ x ∈ xs, V x) (Mf.gL go st n) (Mf.rdL f n) ∧ ∀ s, ok (Mf.gL go st n s).2 → (Mf.gL go st n s).1.length = n
 | 0 => ⟨.pure [], fun _ _ => rfl⟩
 | n + 1 => by
   obtain ⟨ih, il⟩ := Mf.Sim.gloop hgo hem h n
   have hs : Mf.Sim em ok (fun xs : List α => ∀ x ∈ xs, V x) (Mf.sb st fun x => Mf.sb (Mf.gL go st n) fun xs => Mf.sp (x :: xs)) (Mf.rdL f (n + 1)) :=
    h.bind (fun x => ih.bind (fun xs => .pure (x :: xs)) fun xs s _ hv y hy => hv y (by show y ∈ x :: xs; simp [hy])) fun x s _ hv => hv x (by simp [Mf.sb, Mf.sp])
   have e : ∀ s, ok s → Mf.gL go st (n + 1) s = Mf.sb st (fun x => Mf.sb (Mf.gL go st n) fun xs => Mf.sp (x :: xs)) s := fun s h => if_pos ((hgo s).2 h)
   have e2 : ∀ s, ¬ ok s → Mf.gL go st (n + 1) s = ([], s) := fun s h => if_neg fun h2 => h ((hgo s).1 h2)
   refine ⟨⟨fun s hk => ?_, fun l x r hf => ?_, fun l h1 h2 => ?_⟩, fun s hk => ?_⟩
   ·by_cases hok : ok s
    ·exact hok
    ·rw [e2 s hok] at hk; exact hk
   ·rw [e _ (hem l)]; exact hs.good l x r hf
   ·rw [e _ (hem l)] at h1 h2; exact hs.back l h1 h2
   ·by_cases hok : ok s
    ·rw [e s hok] at hk ⊢
     show ((st s).1 :: (Mf.gL go st n (st s).2).1).length = n + 1
     rw [List.length_cons, il _ hk]
    ·rw [e2 s hok] at hk; exact absurd hk hok
theorem Mf.sL_step (st : σ → α × σ) {n k : Nat} (h : k < n) (s : σ) (M : List α) : (M ++ (Mf.sL st (n - k) s).1, (Mf.sL st (n - k) s).2) = ((M ++ [(st s).1]) ++ (Mf.sL st (n - (k + 1)) (st s).2).1, (Mf.sL st (n - (k + 1)) (st s).2).2) := by
 obtain ⟨m, hm⟩ : ∃ m, n - k = m + 1 := ⟨n - k - 1, by omega⟩
 rw [hm, show n - (k + 1) = m by omega, List.append_assoc]
 rfl
theorem Mf.gL_step {go : σ → Bool} (st : σ → α × σ) {n k : Nat} (h : k < n) (s : σ) (hs : go s = true) (M : List α) : (M ++ (Mf.gL go st (n - k) s).1, (Mf.gL go st (n - k) s).2) = ((M ++ [(st s).1]) ++ (Mf.gL go st (n - (k + 1)) (st s).2).1, (Mf.gL go st (n - (k + 1)) (st s).2).2) := by
 obtain ⟨m, hm⟩ : ∃ m, n - k = m + 1 := ⟨n - k - 1, by omega⟩
 rw [hm, show n - (k + 1) = m by omega, List.append_assoc]
 rw [show Mf.gL go st (m + 1) s = Mf.sb st (fun x => Mf.sb (Mf.gL go st m) fun xs => Mf.sp (x :: xs)) s from if_pos hs]
 rfl
theorem Mf.gL_stop {go : σ → Bool} (st : σ → α × σ) (n : Nat) (s : σ) (hs : go s = false) : Mf.gL go st n s = ([], s) := by
 cases n with
 | zero => rfl
 | succ n => exact if_neg (by rw [hs]; decide)
end
structure Mf.St where
 l : List UInt8
 e : Nat
 wr : Bool
def Mf.em (l : List UInt8) : Mf.St := ⟨l, 0, false⟩
def Mf.St.ok (s : Mf.St) : Prop := s.e = 0 ∧ s.wr = false
def Mf.sC (most : Nat) (s : Mf.St) : Int × Mf.St :=
 if most < (Ty.rdU s.l s.e).1 then (0, ⟨(Ty.rdU s.l s.e).2.1, (Ty.rdU s.l s.e).2.2, true⟩) else (((Ty.rdU s.l s.e).1 : Int), ⟨(Ty.rdU s.l s.e).2.1, (Ty.rdU s.l s.e).2.2, s.wr⟩)
def Mf.sI (s : Mf.St) : Int × Mf.St := (Ty.zag ((Ty.rdU s.l s.e).1 : Int), ⟨(Ty.rdU s.l s.e).2.1, (Ty.rdU s.l s.e).2.2, s.wr⟩)
def Mf.sT (s : Mf.St) : List UInt8 × Mf.St := ((Ty.rdT 64 s.l s.e).1, ⟨(Ty.rdT 64 s.l s.e).2.1, (Ty.rdT 64 s.l s.e).2.2, s.wr⟩)
def Mf.sV : Mf.St → Kn.V × Mf.St := Mf.sb Mf.sI fun n => Mf.sb Mf.sT fun t => Mf.sp ⟨false, n, Ty.S t⟩
def Mf.sP : Mf.St → Mf.P × Mf.St := Mf.sb (Mf.sC 999999999) fun i => Mf.sb (Mf.sC 3) fun v => Mf.sb Mf.sV fun a => Mf.sb Mf.sV fun b => Mf.sp ⟨i, v, a, b⟩
def Mf.sX : Mf.St → (Int × Int × Mf.E) × Mf.St :=
 Mf.sb (Mf.sC 1000) fun n => Mf.sb (Mf.sL (Mf.sC 999999999) n.toNat) fun ds => Mf.sb (Mf.sC 1000) fun m => Mf.sb (Mf.sL Mf.sP m.toNat) fun ps =>
  Mf.sb (Mf.sC 999999999) fun a => Mf.sb (Mf.sC 999999999) fun b => Mf.sp (n, m, ⟨ds, ps, a, b⟩)
theorem Mf.rdU_0 (l : List UInt8) : Ty.rdU l 0 = ((num l).1, rest l, (num l).2.2) := by unfold Ty.rdU; rw [if_neg (by omega)]; rfl
theorem Mf.rdT_0 (l : List UInt8) : Ty.rdT 64 l 0 = ((txt l 64).1, restT l, (txt l 64).2.2) := by unfold Ty.rdT; rw [if_neg (by omega)]; rfl
theorem Mf.rdU_err {l : List UInt8} {e : Nat} (h : (Ty.rdU l e).2.2 = 0) : e = 0 := by
 unfold Ty.rdU at h
 split at h
 ·exact h
 ·rename_i he
  exact Decidable.not_not.1 he
theorem Mf.rdT_err {l : List UInt8} {e : Nat} (h : (Ty.rdT 64 l e).2.2 = 0) : e = 0 := by
 unfold Ty.rdT at h
 split at h
 ·exact h
 ·rename_i he
  exact Decidable.not_not.1 he
theorem Mf.sC_sim (most : Nat) (V : Int → Prop) : Mf.Sim Mf.em Mf.St.ok V (Mf.sC most) (Mf.rdC most) := by
 refine ⟨fun s h => ?_, fun l x r h => ?_, fun l h _ e => ?_⟩
 ·unfold Mf.sC at h
  split at h
  ·exact Bool.noConfusion h.2
  ·exact ⟨Mf.rdU_err h.1, h.2⟩
 ·unfold Mf.rdC at h
  split at h
  ·rename_i h0
   simp only [Option.some.injEq, Prod.mk.injEq] at h
   obtain ⟨rfl, rfl⟩ := h
   unfold Mf.sC Mf.em
   simp only [Mf.rdU_0]
   rw [if_neg (by omega), h0.1]
  ·cases h
 ·unfold Mf.sC Mf.em at h
  simp only [Mf.rdU_0] at h
  unfold Mf.rdC at e
  split at h
  ·exact Bool.noConfusion h.2
  ·rw [if_pos ⟨h.1, by omega⟩] at e; cases e
theorem Mf.sV_sim : Mf.Sim Mf.em Mf.St.ok (fun _ => True) Mf.sV Mf.rdV := by
 refine ⟨fun s h => ⟨Mf.rdU_err (Mf.rdT_err h.1), h.2⟩, fun l x r h => ?_, fun l h _ e => ?_⟩
 ·unfold Mf.rdV at h
  split at h
  ·rename_i h0
   simp only [Option.some.injEq, Prod.mk.injEq] at h
   obtain ⟨rfl, rfl⟩ := h
   unfold Mf.sV Mf.sb Mf.sI Mf.sT Mf.sp Mf.em
   simp only [Mf.rdU_0, h0.1, Mf.rdT_0, h0.2]
   rfl
  ·cases h
 ·unfold Mf.sV Mf.sb Mf.sI Mf.sT Mf.sp Mf.em at h
  simp only [Mf.rdU_0] at h
  have h1 := Mf.rdT_err h.1
  rw [h1] at h
  simp only [Mf.rdT_0] at h
  unfold Mf.rdV at e
  rw [if_pos ⟨h1, h.1⟩] at e
  cases e
theorem Mf.sP_sim : Mf.Sim Mf.em Mf.St.ok (fun _ => True) Mf.sP Mf.rdP :=
 (Mf.sC_sim _ (fun _ => True)).bind (fun _ => (Mf.sC_sim _ (fun _ => True)).bind (fun _ => Mf.sV_sim.bind (fun _ => Mf.sV_sim.bind (fun _ => .pure _) fun _ _ _ _ => trivial) fun _ _ _ _ => trivial) fun _ _ _ _ => trivial) fun _ _ _ _ => trivial
abbrev Mf.Ct := List UInt8 × Nat
def Mf.ec (l : List UInt8) : Mf.Ct := (l, 0)
def Mf.okc (c : Mf.Ct) : Prop := c.2 = 0
def Mf.go (c : Mf.Ct) : Bool := c.2 == 0
def Mf.dC (c : Mf.Ct) : Int × Mf.Ct := (if 999999999 < (Ty.rdU c.1 c.2).1 then -1 else ((Ty.rdU c.1 c.2).1 : Int), (Ty.rdU c.1 c.2).2)
def Mf.dI (c : Mf.Ct) : Int × Mf.Ct := (Ty.zag ((Ty.rdU c.1 c.2).1 : Int), (Ty.rdU c.1 c.2).2)
def Mf.dT (c : Mf.Ct) : List UInt8 × Mf.Ct := ((Ty.rdT 64 c.1 c.2).1, (Ty.rdT 64 c.1 c.2).2)
def Mf.dV : Mf.Ct → Kn.V × Mf.Ct := Mf.sb Mf.dI fun n => Mf.sb Mf.dT fun t => Mf.sp ⟨false, n, Ty.S t⟩
def Mf.dP : Mf.Ct → Mf.P × Mf.Ct := Mf.sb Mf.dC fun i => Mf.sb Mf.dC fun v => Mf.sb Mf.dV fun a => Mf.sb Mf.dV fun b => Mf.sp ⟨i, v, a, b⟩
def Mf.dX : Mf.Ct → (Int × Int × Mf.E) × Mf.Ct :=
 Mf.sb Mf.dC fun n => Mf.sb (Mf.gL Mf.go Mf.dC n.toNat) fun ds => Mf.sb Mf.dC fun m => Mf.sb (Mf.gL Mf.go Mf.dP m.toNat) fun ps =>
  Mf.sb Mf.dC fun a => Mf.sb Mf.dC fun b => Mf.sp (n, m, ⟨ds, ps, a, b⟩)
def Mf.dok (x : (Int × Int × Mf.E) × Mf.Ct) : Bool := decide (0 ≤ x.1.1) && decide (0 ≤ x.1.2.1) && (Ty.fin x.2.1 x.2.2 == 0) && Mf.right x.1.2.2
theorem Mf.dC_sim (m : Nat) (hm : m ≤ 999999999) : Mf.Sim Mf.ec Mf.okc (fun x : Int => 0 ≤ x ∧ x ≤ m) Mf.dC (Mf.rdC m) := by
 refine ⟨fun s h => Mf.rdU_err h, fun l x r h => ?_, fun l h hv e => ?_⟩
 ·unfold Mf.rdC at h
  split at h
  ·rename_i h0
   simp only [Option.some.injEq, Prod.mk.injEq] at h
   obtain ⟨rfl, rfl⟩ := h
   unfold Mf.dC Mf.ec
   simp only [Mf.rdU_0]
   rw [if_neg (by omega), h0.1]
  ·cases h
 ·unfold Mf.dC Mf.ec Mf.okc at h
  unfold Mf.dC Mf.ec at hv
  simp only [Mf.rdU_0] at h hv
  unfold Mf.rdC at e
  split at hv
  ·omega
  ·rw [if_pos ⟨h, by omega⟩] at e; cases e
theorem Mf.dV_sim : Mf.Sim Mf.ec Mf.okc (fun _ => True) Mf.dV Mf.rdV := by
 refine ⟨fun s h => Mf.rdU_err (Mf.rdT_err h), fun l x r h => ?_, fun l h _ e => ?_⟩
 ·unfold Mf.rdV at h
  split at h
  ·rename_i h0
   simp only [Option.some.injEq, Prod.mk.injEq] at h
   obtain ⟨rfl, rfl⟩ := h
   unfold Mf.dV Mf.sb Mf.dI Mf.dT Mf.sp Mf.ec
   simp only [Mf.rdU_0, h0.1, Mf.rdT_0, h0.2]
   rfl
  ·cases h
 ·unfold Mf.dV Mf.sb Mf.dI Mf.dT Mf.sp Mf.ec Mf.okc at h
  simp only [Mf.rdU_0] at h
  have h1 := Mf.rdT_err h
  rw [h1] at h
  simp only [Mf.rdT_0] at h
  unfold Mf.rdV at e
  rw [if_pos ⟨h1, h⟩] at e
  cases e
theorem Mf.dP_sim : Mf.Sim Mf.ec Mf.okc (fun p => Mf.part p = true) Mf.dP Mf.rdP :=
 (Mf.dC_sim _ (by decide)).bind (fun i => (Mf.dC_sim 3 (by decide)).bind (fun v => Mf.dV_sim.bind (fun a => Mf.dV_sim.bind (fun b => .pure _) fun _ _ _ _ => trivial) fun _ _ _ _ => trivial) fun v s _ h => by
  have h : Mf.part ⟨i, v, _, _⟩ = true := h
  unfold Mf.part at h
  simp only [Bool.and_eq_true, decide_eq_true_iff] at h
  exact ⟨h.1.1.1.2.1, by have := h.1.1.1.2.2; omega⟩) fun i s _ h => by
  have h : Mf.part ⟨i, _, _, _⟩ = true := h
  unfold Mf.part at h
  simp only [Bool.and_eq_true] at h
  have := (Mf.nm_iff _).1 h.1.1.1.1
  exact ⟨this.1, by have := this.2; omega⟩
theorem Mf.go_iff (c : Mf.Ct) : Mf.go c = true ↔ Mf.okc c := by unfold Mf.go Mf.okc; simp
end Go.Proofs.YteaglaijkafphaaDoor
namespace Go.Proofs.YteaglaijkafphaaDoor.Fr
open Go
def P : Nat := 2197175160
def T (r : Nat) : Nat := (r / 2) ^^^ (if r % 2 = 1 then P else 0)
theorem xor_half (a b : Nat) : (a ^^^ b) / 2 = (a / 2) ^^^ (b / 2) := by
 have := Nat.shiftRight_xor_distrib (a := a) (b := b) (i := 1)
 simpa [Nat.shiftRight_eq_div_pow] using this
theorem xor_odd (a b : Nat) : (a ^^^ b) % 2 = (a + b) % 2 := by
 have h := Nat.testBit_xor a b 0
 simp only [Nat.testBit_zero] at h
 rcases Nat.mod_two_eq_zero_or_one a with ha | ha <;> rcases Nat.mod_two_eq_zero_or_one b with hb | hb <;> rcases Nat.mod_two_eq_zero_or_one (a ^^^ b) with hc | hc <;> simp [ha, hb, hc] at h <;> omega
theorem T_xor (a b : Nat) : T (a ^^^ b) = T a ^^^ T b := by
 unfold T
 rw [xor_half, xor_odd]
 rcases Nat.mod_two_eq_zero_or_one a with ha | ha <;> rcases Nat.mod_two_eq_zero_or_one b with hb | hb
 ·rw [if_neg (by omega), if_neg (by omega), if_neg (by omega)]; simp
 ·rw [if_pos (by omega), if_neg (by omega), if_pos hb]; simp [Nat.xor_assoc]
 ·rw [if_pos (by omega), if_pos ha, if_neg (by omega)]
  rw [Nat.xor_zero, Nat.xor_assoc, Nat.xor_assoc, Nat.xor_comm P]
 ·rw [if_neg (by omega), if_pos ha, if_pos hb, Nat.xor_zero]
  have e : (a / 2 ^^^ P) ^^^ (b / 2 ^^^ P) = (a / 2 ^^^ b / 2) ^^^ (P ^^^ P) := by
   rw [Nat.xor_assoc, Nat.xor_assoc, ← Nat.xor_assoc P, Nat.xor_comm P, Nat.xor_assoc]
  rw [e, Nat.xor_self, Nat.xor_zero]
theorem T_double (r : Nat) : T (2 * r) = r := by
 unfold T
 rw [if_neg (by omega), Nat.xor_zero]
 omega
theorem T_lt {r : Nat} (h : r < 2 ^ 32) : T r < 2 ^ 32 := by
 unfold T
 refine Nat.xor_lt_two_pow (by omega) ?_
 split
 ·decide
 ·decide
def Tn : Nat → Nat → Nat
 | 0, r => r
 | k + 1, r => Tn k (T r)
theorem Tn_add (j k r : Nat) : Tn (j + k) r = Tn k (Tn j r) := by
 induction j generalizing r with
 | zero => rw [Nat.zero_add]; rfl
 | succ j ih => rw [Nat.succ_add]; exact ih (T r)
theorem Tn_xor (k a b : Nat) : Tn k (a ^^^ b) = Tn k a ^^^ Tn k b := by
 induction k generalizing a b with
 | zero => rfl
 | succ k ih =>
   show Tn k (T (a ^^^ b)) = _
   rw [T_xor]
   exact ih (T a) (T b)
theorem Tn_shift (k r : Nat) : Tn k (2 ^ k * r) = r := by
 induction k generalizing r with
 | zero => simp [Tn]
 | succ k ih =>
   show Tn k (T (2 ^ (k + 1) * r)) = r
   have e : 2 ^ (k + 1) * r = 2 * (2 ^ k * r) := by rw [Nat.pow_succ, Nat.mul_comm (2 ^ k) 2, Nat.mul_assoc]
   rw [e, T_double, ih]
theorem Tn_lt {k r : Nat} (h : r < 2 ^ 32) : Tn k r < 2 ^ 32 := by
 induction k generalizing r with
 | zero => exact h
 | succ k ih => exact ih (T_lt h)
theorem Tn_split (k r : Nat) : Tn k r = (r / 2 ^ k) ^^^ Tn k (r % 2 ^ k) := by
 have e : r = (2 ^ k * (r / 2 ^ k)) ^^^ (r % 2 ^ k) := by
  have h := Nat.div_add_mod r (2 ^ k)
  have h2 := Nat.mod_lt r (Nat.two_pow_pos k)
  refine Nat.eq_of_testBit_eq fun i => ?_
  rw [Nat.testBit_xor, Nat.testBit_two_pow_mul, Nat.testBit_mod_two_pow, Nat.testBit_div_two_pow]
  by_cases hi : k ≤ i
  ·have h3 : ¬ i < k := by omega
   have h4 : i - k + k = i := by omega
   simp [hi, h3, h4]
  ·have h3 : i < k := by omega
   simp [hi, h3]
 conv => lhs; rw [e]
 rw [Tn_xor, Tn_shift]
def reg : Nat → List UInt8 → Nat
 | r, [] => r
 | r, b :: l => reg (Tn 8 (r ^^^ b.toNat)) l
def val : List UInt8 → Nat
 | [] => 0
 | b :: l => 256 * val l + b.toNat
theorem val_lt (l : List UInt8) : val l < 2 ^ (8 * l.length) := by
 induction l with
 | nil => simp [val]
 | cons b l ih =>
   have hb := b.toNat_lt
   have e : 2 ^ (8 * (b :: l).length) = 256 * 2 ^ (8 * l.length) := by
    rw [List.length_cons, Nat.mul_add, Nat.pow_add, Nat.mul_comm]
   rw [e]
   unfold val
   omega
theorem reg_append (a b : List UInt8) (r : Nat) : reg r (a ++ b) = reg (reg r a) b := by
 induction a generalizing r with
 | nil => rfl
 | cons x a ih => exact ih _
theorem reg_lt (l : List UInt8) : ∀ r, r < 2 ^ 32 → reg r l < 2 ^ 32 := by
 induction l with
 | nil => intro r h; exact h
 | cons b l ih =>
   intro r h
   exact ih _ (Tn_lt (Nat.xor_lt_two_pow h (Nat.lt_of_lt_of_le b.toNat_lt (by decide))))
def ones : Nat := 4294967295
def sum (l : List UInt8) : Nat := reg ones l ^^^ ones
end Go.Proofs.YteaglaijkafphaaDoor.Fr
namespace Go.Proofs.YteaglaijkafphaaDoor.Fr
open Go
abbrev Str := List UInt8
def four (n : Nat) : List UInt8 := [UInt8.ofNat (n % 256), UInt8.ofNat (n / 256 % 256), UInt8.ofNat (n / 65536 % 256), UInt8.ofNat (n / 16777216 % 256)]
def frm (t : Str) : List UInt8 := four t.length ++ (t ++ four (sum t))
def scanF : Nat → List UInt8 → Nat × List Str × Nat
 | 0, _ => (0, [], 0)
 | f + 1, l =>
   if l.length < 4 then (0, [], 0)
   else if 1048576 < val (l.take 4) then (8, [], 0)
   else if l.length < val (l.take 4) + 8 then (0, [], 0)
   else if val ((l.drop (4 + val (l.take 4))).take 4) ≠ sum ((l.drop 4).take (val (l.take 4))) then (8, [], 0)
   else if (scanF f (l.drop (val (l.take 4) + 8))).1 ≠ 0 then (8, [], 0)
   else (0, (l.drop 4).take (val (l.take 4)) :: (scanF f (l.drop (val (l.take 4) + 8))).2.1, val (l.take 4) + 8 + (scanF f (l.drop (val (l.take 4) + 8))).2.2)
theorem scanF_any : ∀ (f g : Nat) (l : List UInt8), l.length < f → l.length < g → scanF f l = scanF g l
 | 0, _, l, h, _ => by omega
 | _ + 1, 0, l, _, h => by omega
 | f + 1, g + 1, l, h1, h2 => by
   simp only [scanF]
   by_cases a : l.length < 4
   ·rw [if_pos a, if_pos a]
   ·have e : scanF f (l.drop (val (l.take 4) + 8)) = scanF g (l.drop (val (l.take 4) + 8)) := scanF_any f g _ (by rw [List.length_drop]; omega) (by rw [List.length_drop]; omega)
    rw [e]
def scan (l : List UInt8) : Nat × List Str × Nat := scanF (l.length + 1) l
theorem scan_is (l : List UInt8) : scan l =
 if l.length < 4 then (0, [], 0)
 else if 1048576 < val (l.take 4) then (8, [], 0)
 else if l.length < val (l.take 4) + 8 then (0, [], 0)
 else if val ((l.drop (4 + val (l.take 4))).take 4) ≠ sum ((l.drop 4).take (val (l.take 4))) then (8, [], 0)
 else if (scan (l.drop (val (l.take 4) + 8))).1 ≠ 0 then (8, [], 0)
 else (0, (l.drop 4).take (val (l.take 4)) :: (scan (l.drop (val (l.take 4) + 8))).2.1, val (l.take 4) + 8 + (scan (l.drop (val (l.take 4) + 8))).2.2) := by
 by_cases a : l.length < 4
 ·rw [if_pos a]
  show scanF (l.length + 1) l = _
  simp only [scanF]
  rw [if_pos a]
 ·have e : scanF l.length (l.drop (val (l.take 4) + 8)) = scan (l.drop (val (l.take 4) + 8)) := scanF_any _ _ _ (by rw [List.length_drop]; omega) (by omega)
  rw [← e]
  rfl
def more (t : Str) (q : Nat × List Str × Nat) : Nat × List Str × Nat := if q.1 ≠ 0 then (8, [], 0) else (0, t :: q.2.1, t.length + 8 + q.2.2)
theorem scan_nil : scan [] = (0, [], 0) := by rw [scan_is]; simp
def size (L : List Str) : Nat := (L.map fun t => t.length + 8).sum
def whole : List Str → Nat → Nat
 | [], _ => 0
 | t :: L, k => if t.length + 8 ≤ k then whole L (k - (t.length + 8)) + 1 else 0
theorem scan_err (l : List UInt8) : (scan l).1 = 0 ∨ scan l = (8, [], 0) := by
 rw [scan_is]
 repeat' split
 all_goals first | exact .inl rfl | exact .inr rfl
def both (a : List UInt8) (p q : Nat × List Str × Nat) : Nat × List Str × Nat := if p.1 ≠ 0 then (8, [], 0) else if q.1 ≠ 0 then (8, [], 0) else (0, p.2.1 ++ q.2.1, a.length + q.2.2)
end Go.Proofs.YteaglaijkafphaaDoor.Fr
namespace Go.Proofs.YteaglaijkafphaaDoor
open Go.RowKit
theorem Ty.Tabs.below {w w' : World} (h : Ty.Tabs w) {b : Nat} (hb : Below b w w') (hG : Ty.G ≤ b) : Ty.Tabs w' := h.kept hb.size fun k hk => hb.block k (by omega)
theorem Ty.below_by {w w' : World} {B : Nat} {r : Option Nat} (hg : w.grownBy w' r) (hB : B ≤ w.heap.size) (hr : ∀ k, r = some k → B ≤ k) : Below B w w' :=
 (Below.refl B w).grown hg hB hr
theorem Ty.Cur.by {b : Nat} {w w' : World} {l : List UInt8} {e : Nat} (h : Ty.Cur b w l e) {r : Option Nat} (hg : w.grownBy w' r) (hr : r ≠ some b) : Ty.Cur b w' l e := by
 unfold Ty.Cur at h ⊢
 rw [hg.block b (lt_of_block h) (fun e => hr e.symm)]
 exact h
theorem Ty.Tabs.alloc {w : World} (h : Ty.Tabs w) (o : Obj) : Ty.Tabs (w.alloc o) := h.below ((Below.refl w.heap.size w).alloc (Nat.le_refl _) o) h.two
end Go.Proofs.YteaglaijkafphaaDoor
namespace Go.Proofs.YteaglaijkafphaaDoor
open Go.RowKit
theorem Ty.Tabs.drew {w : World} (h : Ty.Tabs w) : Ty.Tabs w.drew := h.kept (Nat.le_refl _) fun _ _ => rfl
theorem Ty.Buf.later {base : Nat} {w w' : World} {v : Value} {bs : List UInt8} (h : Ty.Buf base w v bs) (hb : Below w.heap.size w w') : Ty.Buf base w' v bs :=
 h.kept fun k hk => hb.block k (h.lt k hk).2
theorem Ty.Buf.str {base : Nat} {w : World} {v : Value} {bs : List UInt8} (h : Ty.Buf base w v bs) : (convert 89 9 v).run Tryd.prog w = .ok (.string (Ty.S bs)) w :=
 h.string 89 9 Tryd.underlying89 Tryd.underlying5 Tryd.underlying9
def Ty.Fresh (w : World) (bs : List UInt8) (e : Ending) (w' : World) : Prop := ∃ v', e = .returned v' ∧ Ty.Buf w.heap.size w' v' bs ∧ Ty.Tabs w' ∧ Below w.heap.size w w'
theorem Ty.Written.fresh {w : World} {bs : List UInt8} {e : Ending} {w' : World} (h : Ty.Written w.heap.size w (.slice none 0 0) bs e w') (hw : Ty.Tabs w) : Ty.Fresh w bs e w' := by
 obtain ⟨v', rfl, hB, hG⟩ := h
 have hb := Ty.below_by hG.by_ (Nat.le_refl w.heap.size) (by intro k hk; cases hk)
 exact ⟨v', rfl, hB, hw.below hb hw.two, hb⟩
theorem Ty.Tabs.at_ {w w' : World} {b : Nat} (h : Ty.Tabs w) (hg : w.grownBy w' (some b)) (hb : Ty.G ≤ b) : Ty.Tabs w' := h.by hg (by intro k hk; cases hk; exact hb)
theorem Ty.Cur.none_ {b : Nat} {w w' : World} {l : List UInt8} {e : Nat} (h : Ty.Cur b w l e) (hg : w.grownBy w' none) : Ty.Cur b w' l e := h.by hg (by intro h; cases h)
theorem Ty.Cur.at_ {b c : Nat} {w w' : World} {l : List UInt8} {e : Nat} (h : Ty.Cur b w l e) (hg : w.grownBy w' (some c)) (hb : c ≠ b) : Ty.Cur b w' l e := h.by hg (by intro h; exact hb (Option.some.inj h))
theorem Ty.Cur.below {b : Nat} {w w' : World} {l : List UInt8} {e B : Nat} (h : Ty.Cur b w l e) (hb : Below B w w') (hB : b < B) : Ty.Cur b w' l e := by
 unfold Ty.Cur at h ⊢
 rw [hb.block b hB]
 exact h
end Go.Proofs.YteaglaijkafphaaDoor
namespace Go.Proofs.YteaglaijkafphaaDoor
open Go.RowKit
theorem Fr.Tn_last (j r : Nat) : Fr.Tn (j + 1) r = Fr.T (Fr.Tn j r) := Fr.Tn_add j 1 r
theorem Fr.T_odd {r : Nat} (h : r % 2 = 1) : Fr.T r = r / 2 ^^^ 2197175160 := by unfold Fr.T; rw [if_pos h]; rfl
theorem Fr.T_even {r : Nat} (h : r % 2 = 0) : Fr.T r = r / 2 := by unfold Fr.T; rw [if_neg (by omega), Nat.xor_zero]
theorem Fr.reg_snoc (l : List UInt8) (b : UInt8) (r : Nat) : Fr.reg r (l ++ [b]) = Fr.Tn 8 (Fr.reg r l ^^^ b.toNat) := by
 rw [Fr.reg_append]
 rfl
theorem Fr.reg_step {s : ByteArray} {k : Nat} (h : k < s.size) (r : Nat) : Fr.reg r (s.data.toList.take (k + 1)) = Fr.Tn 8 (Fr.reg r (s.data.toList.take k) ^^^ (s[k]).toNat) := by
 have hl : k < s.data.toList.length := by rw [Ty.length_data]; exact h
 rw [List.take_succ_eq_append_getElem hl, Fr.reg_snoc]
 rfl
set_option maxHeartbeats 4000000 in
set_option maxRecDepth 100000 in
theorem Fr.rsum_c (s : ByteArray) (hs : s.size ≤ 9223372036854775807) (w : World) :
 Calls Tryd.prog 36 #[.string s] w fun e w' => e = .returned (.int .u32 ((Fr.sum s.data.toList : Nat) : Int)) ∧ w' = w := by
 have HS := Lib.hid hs
 have HST : Hid (∀ k (h : k < s.size), Fr.reg Fr.ones (s.data.toList.take (k + 1)) = Fr.Tn 8 (Fr.reg Fr.ones (s.data.toList.take k) ^^^ (s[k]).toNat)) := Lib.hid fun k h => Fr.reg_step h _
 have HLT : Hid (∀ l, Fr.reg Fr.ones l < 4294967296) := Lib.hid fun l => Fr.reg_lt l Fr.ones (by decide)
 go_enter Tryd.func36, Tryd.ntmps36
 go_wp2
 go_loop [3, 4] (fun r i => ∃ k : Nat, k ≤ s.size ∧ i = .int .i64 k ∧ r = .int .u32 (Fr.reg Fr.ones (s.data.toList.take k) : Nat)) (fun _ i => s.size - (intOf i).toNat)
 case atStart => exact ⟨0, by omega, rfl, rfl⟩
 case round =>
  obtain ⟨k, hk, rfl, rfl⟩ := hrel
  have hk0 : (0 : Int) ≤ (k : Int) := by omega
  have hr := HLT.out (s.data.toList.take k)
  by_cases hl : k < s.size
  ·have hki : (k : Int) < (s.size : Int) := by omega
   have hks : (k : Int) < 9223372036854775807 := by have := HS.out; omega
   have HN := Lib.hid (HST.out k hl)
   have hb := (s[k]).toNat_lt
   generalize Fr.reg Fr.ones (s.data.toList.take k) = R at hr HN ⊢
   generalize hbb : s[k] = b at hb HN
   obtain ⟨X, hX⟩ : ∃ X, X = R ^^^ b.toNat := ⟨_, rfl⟩
   have hx : bits .xor .u32 (R : Int) (b.toNat : Int) = (X : Int) := by rw [hX]; exact u32_xor_nat R b.toNat hr (by omega)
   have hXl : X < 4294967296 := by rw [hX]; exact Nat.xor_lt_two_pow (n := 32) hr (by omega)
   rw [← hX] at HN
   have HTL : Hid (∀ j, Fr.Tn j X < 4294967296) := Lib.hid fun j => Fr.Tn_lt hXl
   clear hX
   go_wp2_with fail
   go_loop [3, 5] (fun r j => ∃ i : Nat, i ≤ 8 ∧ j = .int .i64 i ∧ r = .int .u32 (Fr.Tn i X : Nat)) (fun _ j => 8 - (intOf j).toNat)
   case atStart => exact ⟨0, by omega, rfl, rfl⟩
   case round =>
    obtain ⟨i, hi, rfl, rfl⟩ := hrel
    have hi0 : (0 : Int) ≤ (i : Int) := by omega
    by_cases hi8 : i < 8
    ·have hii : (i : Int) < 8 := by omega
     have hT := HTL.out i
     have HTN := Lib.hid (Fr.Tn_last i X)
     generalize Fr.Tn i X = Y at hT HTN ⊢
     obtain ⟨Z, hZ⟩ : ∃ Z, Z = Y / 2 := ⟨_, rfl⟩
     have hd : (Y : Int) / 2 = (Z : Int) := by omega
     have hZl : Z < 4294967296 := by omega
     rcases Nat.mod_two_eq_zero_or_one Y with hm | hm
     ·have hmi : (Y : Int) % 2 = 0 := by omega
      have HE := Lib.hid (HTN.out.trans (Fr.T_even hm))
      rw [← hZ] at HE
      clear hZ hm
      go_wp2
      go_round
      case rel => exact ⟨i + 1, by omega, by simp, by rw [HE.out]⟩
      case measure => simp [intOf]; omega
     ·have hmi : (Y : Int) % 2 = 1 := by omega
      have HE := Lib.hid (HTN.out.trans (Fr.T_odd hm))
      rw [← hZ] at HE
      have hx2 : bits .xor .u32 (Z : Int) 2197175160 = ((Z ^^^ 2197175160 : Nat) : Int) := u32_xor_nat Z 2197175160 hZl (by decide)
      clear hZ hm
      go_wp2
      go_round
      case rel => exact ⟨i + 1, by omega, by simp, by rw [HE.out]⟩
      case measure => simp [intOf]; omega
    ·obtain rfl : i = 8 := by omega
     go_wp2
     go_round
     case rel => exact ⟨k + 1, by omega, by simp, by rw [HN.out]⟩
     case measure => simp [intOf]; omega
  ·obtain rfl : k = s.size := by omega
   have hki : ¬ (s.size : Int) < (s.size : Int) := by omega
   have hta : s.data.toList.take s.size = s.data.toList := List.take_of_length_le (by rw [Ty.length_data]; exact Nat.le_refl _)
   have HSM : Hid (Fr.sum s.data.toList = Fr.reg Fr.ones (s.data.toList.take s.size) ^^^ 4294967295) := Lib.hid (by rw [hta]; rfl)
   generalize Fr.reg Fr.ones (s.data.toList.take s.size) = R at hr HSM ⊢
   have hx : bits .xor .u32 IntKind.u32.max (R : Int) = ((4294967295 ^^^ R : Nat) : Int) := u32_xor_nat 4294967295 R (by decide) hr
   go_wp2
   go_ret
   exact ⟨by rw [HSM.out, Nat.xor_comm]; rfl, rfl⟩
def Fr.at4 (s : ByteArray) : Nat := Fr.val (s.data.toList.take 4)
theorem Fr.val4 {s : ByteArray} (h : 4 ≤ s.size) : Fr.val (s.data.toList.take 4) = s[0].toNat + s[1].toNat * 256 + s[2].toNat * 65536 + s[3].toNat * 16777216 := by
 have hl : 4 ≤ s.data.toList.length := by rw [Ty.length_data]; exact h
 have e : s.data.toList.take 4 = [s[0], s[1], s[2], s[3]] := by
  refine List.ext_getElem (by rw [List.length_take]; simp; omega) fun i h1 h2 => ?_
  have hi : i < 4 := by simpa using h2
  rw [List.getElem_take]
  rcases (by omega : i = 0 ∨ i = 1 ∨ i = 2 ∨ i = 3) with rfl | rfl | rfl | rfl <;> rfl
 rw [e]
 simp only [Fr.val]
 omega
set_option maxHeartbeats 2000000 in
set_option maxRecDepth 100000 in
theorem Fr.rnumber_c (s : ByteArray) (h : 4 ≤ s.size) (w : World) :
 Calls Tryd.prog 35 #[.string s] w fun e w' => e = .returned (.int .u32 ((Fr.val (s.data.toList.take 4) : Nat) : Int)) ∧ ∃ n, w' = w.drewN n := by
 have hv := Fr.val4 h
 have h0 := (s[0]).toNat_lt
 have h1 := (s[1]).toNat_lt
 have h2 := (s[2]).toNat_lt
 have h3 := (s[3]).toNat_lt
 have z0 : (0 : Int) < (s.size : Int) := by omega
 have z1 : (1 : Int) < (s.size : Int) := by omega
 have z2 : (2 : Int) < (s.size : Int) := by omega
 have z3 : (3 : Int) < (s.size : Int) := by omega
 have n0 : 0 < s.size := by omega
 have n1 : 1 < s.size := by omega
 have n2 : 2 < s.size := by omega
 have n3 : 3 < s.size := by omega
 have HV := Lib.hid hv
 clear hv
 go_enter Tryd.func35, Tryd.ntmps35
 go_wp2_with fail
 go_quiet (fail)
 go_wp2
 go_ret
 refine ⟨?_, _, rfl⟩
 rw [HV.out]
 exact congrArg (fun x : Int => Ending.returned (Value.int IntKind.u32 x)) (by omega)
end Go.Proofs.YteaglaijkafphaaDoor
namespace Go.Proofs.YteaglaijkafphaaDoor
open Go.RowKit
set_option maxRecDepth 100000 in
theorem Kn.isNaNi_c (a : Int) (w : World) : Calls Tryd.prog 104 #[.int .i64 a] w fun e w' => e = .returned (.bool false) ∧ w' = w := by
 go_enter Tryd.func104, Tryd.ntmps104
 go_wp2
 go_ret
 exact ⟨rfl, rfl⟩
set_option maxRecDepth 100000 in
theorem Kn.isNaNs_c (a : ByteArray) (w : World) : Calls Tryd.prog 105 #[.string a] w fun e w' => e = .returned (.bool false) ∧ w' = w := by
 go_enter Tryd.func105, Tryd.ntmps105
 go_wp2
 go_ret
 exact ⟨rfl, rfl⟩
set_option maxRecDepth 100000 in
theorem Kn.cmpi_c (a b : Int) (w : World) : Calls Tryd.prog 88 #[.int .i64 a, .int .i64 b] w fun e w' => e = .returned (.int .i64 (Kn.ncmp a b)) ∧ w' = w := by
 have hc : (a < b ∧ Kn.ncmp a b = -1) ∨ (¬ a < b ∧ b < a ∧ Kn.ncmp a b = 1) ∨ (¬ a < b ∧ ¬ b < a ∧ Kn.ncmp a b = 0) := by unfold Kn.ncmp; repeat' split <;> omega
 rcases hc with ⟨h1, h⟩ | ⟨h1, h2, h⟩ | ⟨h1, h2, h⟩
 all_goals
  rw [h]
  go_enter Tryd.func88, Tryd.ntmps88
  go_wp2_with fail
  refine (Kn.isNaNi_c _ _).mono ?_
  rintro e w1 ⟨rfl, rfl⟩
  go_wp2_with fail
  refine (Kn.isNaNi_c _ _).mono ?_
  rintro e w1 ⟨rfl, rfl⟩
  go_wp2
  go_ret
  exact ⟨rfl, rfl⟩
set_option maxRecDepth 100000 in
theorem Kn.cmps_c (a b : ByteArray) (w : World) : Calls Tryd.prog 89 #[.string a, .string b] w fun e w' => e = .returned (.int .i64 (Kn.scmp a b)) ∧ w' = w := by
 have hc : (Op.bytesLess a.toList b.toList = true ∧ Kn.scmp a b = -1) ∨ (Op.bytesLess a.toList b.toList = false ∧ (a.toList == b.toList) = false ∧ Kn.scmp a b = 1) ∨ (Op.bytesLess a.toList b.toList = false ∧ (a.toList == b.toList) = true ∧ Kn.scmp a b = 0) := by
  unfold Kn.scmp Kn.lcmp
  rcases Kn.bl_total a.toList b.toList with h | h | h
  ·left; rw [h]; exact ⟨rfl, rfl⟩
  ·right; right; rw [h, Kn.bl_irrefl]; exact ⟨rfl, by simp, rfl⟩
  ·right; left; rw [h, (Kn.bl_ne h).1]; exact ⟨rfl, by rw [beq_eq_false_iff_ne]; exact fun e => (Kn.bl_ne h).2 e.symm, rfl⟩
 rcases hc with ⟨h1, h⟩ | ⟨h1, h2, h⟩ | ⟨h1, h2, h⟩
 all_goals
  rw [h]
  go_enter Tryd.func89, Tryd.ntmps89
  go_wp2_with fail
  refine (Kn.isNaNs_c _ _).mono ?_
  rintro e w1 ⟨rfl, rfl⟩
  go_wp2_with fail
  refine (Kn.isNaNs_c _ _).mono ?_
  rintro e w1 ⟨rfl, rfl⟩
  go_wp2
  go_ret
  exact ⟨rfl, rfl⟩
set_option maxRecDepth 100000 in
theorem Kn.or_c (b : Nat) (x y : Int) (w : World) (h0 : w.cell? ⟨b, 0, none⟩ = some (.int .i64 x)) (h1 : w.cell? ⟨b, 1, none⟩ = some (.int .i64 y)) :
 Calls Tryd.prog 87 #[.slice (some ⟨b, 0, none⟩) 2 2] w fun e w' => e = .returned (.int .i64 (Kn.or2 x y)) ∧ w' = w := by
 have hc : ((x != 0) = true ∧ Kn.or2 x y = x) ∨ ((x != 0) = false ∧ (y != 0) = true ∧ Kn.or2 x y = y) ∨ ((x != 0) = false ∧ (y != 0) = false ∧ Kn.or2 x y = 0) := by
  unfold Kn.or2
  by_cases hx : x = 0 <;> by_cases hy : y = 0 <;> simp [hx, hy]
 rcases hc with ⟨h2, h⟩ | ⟨h2, h3, h⟩ | ⟨h2, h3, h⟩
 ·rw [h]
  go_enter Tryd.func87, Tryd.ntmps87
  go_wp2_with fail
  refine wp_loop_rounds 3 ?_; rw [rounds_succ]
  go_wp2
  go_ret
  exact ⟨rfl, rfl⟩
 ·rw [h]
  go_enter Tryd.func87, Tryd.ntmps87
  go_wp2_with fail
  refine wp_loop_rounds 3 ?_; rw [rounds_succ]
  go_wp2
  rw [rounds_succ]
  go_wp2
  go_ret
  exact ⟨rfl, rfl⟩
 ·rw [h]
  go_enter Tryd.func87, Tryd.ntmps87
  go_wp2_with fail
  refine wp_loop_rounds 3 ?_; rw [rounds_succ]
  go_wp2
  rw [rounds_succ]
  go_wp2
  rw [rounds_succ]
  go_wp2
  go_ret
  exact ⟨rfl, rfl⟩
set_option maxRecDepth 100000 in
theorem Kn.new2 (w : World) (x y : Value) (t : TypeId) (b : Nat) (hb : b = w.heap.size) : (w.alloc (.cells #[x, y] t)).drew.cell? ⟨b, 0, none⟩ = some x ∧ (w.alloc (.cells #[x, y] t)).drew.cell? ⟨b, 1, none⟩ = some y := by
 subst hb
 have h := heap_alloc_new w (.cells #[x, y] t)
 show (w.alloc (.cells #[x, y] t)).cell? ⟨w.heap.size, 0, none⟩ = some x ∧ (w.alloc (.cells #[x, y] t)).cell? ⟨w.heap.size, 1, none⟩ = some y
 unfold World.cell?
 simp only [h]
 exact ⟨rfl, rfl⟩
set_option maxRecDepth 100000 in
set_option maxHeartbeats 400000 in
theorem Kn.compare_c (a b : Kn.V) (w : World) : Calls Tryd.prog 65 #[a.val, b.val] w fun e w' => e = .returned (.int .i64 (Kn.cmp a b)) ∧ Below w.heap.size w w' := by
 obtain ⟨an, ai, sa⟩ := a
 obtain ⟨bn, bi, sb⟩ := b
 unfold Kn.V.val
 cases an <;> cases bn
 ·have h : Kn.cmp ⟨false, ai, sa⟩ ⟨false, bi, sb⟩ = Kn.or2 (Kn.ncmp ai bi) (Kn.scmp sa sb) := rfl
  rw [h]
  go_enter Tryd.func65, Tryd.ntmps65
  go_wp2_with fail
  refine wp_region_still_tail 10 (by kernel_rfl) (by kernel_rfl) ?_
  simp only [List.take_succ_cons, List.take_zero, List.drop_succ_cons, List.drop_zero]
  change wpStill _ _ (World.drew _) (fun a' => wpList _ _ _ _ a' (World.drew _)) _ _
  still_step
  still_step
  still_step
  still_step
  still_call (Kn.cmpi_c ai bi _)
  still_step
  still_step
  still_step
  still_step
  still_call (Kn.cmps_c sa sb _)
  refine wpStill_nil ?_
  go_wp2_with fail
  refine (Kn.or_c _ (Kn.ncmp ai bi) (Kn.scmp sa sb) _ (Kn.new2 _ _ _ _ _ (by simp)).1 (Kn.new2 _ _ _ _ _ (by simp)).2).mono ?_
  rintro e wc ⟨rfl, rfl⟩
  go_wp2
  go_ret
  exact ⟨rfl, ((((Below.refl _ w).alloc (Nat.le_refl _) _).alloc (by simp) _).alloc (by simp; omega) _).drew⟩
 all_goals
  go_enter Tryd.func65, Tryd.ntmps65
  go_wp2
  go_ret
  exact ⟨rfl, ((Below.refl _ w).alloc (Nat.le_refl _) _).alloc (by simp) _⟩
end Go.Proofs.YteaglaijkafphaaDoor
namespace Go.Proofs.YteaglaijkafphaaDoor
open Go.RowKit
theorem Kn.below_drewN {B : Nat} {w w' : World} (h : Below B w w') (n : Nat) : Below B w (w'.drewN n) := ⟨h.os, h.tape, h.output, h.size, h.block⟩
structure Kn.At (w : World) (b o : Nat) (v : Kn.V) : Prop where
 c0 : w.cell? ⟨b, o, none⟩ = some (.bool v.null)
 c1 : w.cell? ⟨b, o + 1, none⟩ = some (.int .i64 v.n)
 c2 : w.cell? ⟨b, o + 2, none⟩ = some (.string v.s)
theorem Kn.At.lt {w : World} {b o : Nat} {v : Kn.V} (h : Kn.At w b o v) : b < w.heap.size := World.block_lt_of_cell? w _ h.c0
theorem Kn.At.later {w w' : World} {b o : Nat} {v : Kn.V} (h : Kn.At w b o v) (g : Below w.heap.size w w') : Kn.At w' b o v :=
 ⟨(g.cell (p := ⟨b, o, none⟩) h.lt).trans h.c0, (g.cell (p := ⟨b, o + 1, none⟩) h.lt).trans h.c1, (g.cell (p := ⟨b, o + 2, none⟩) h.lt).trans h.c2⟩
theorem Kn.cell_new (w : World) (cs : Array Value) (t : TypeId) (i : Nat) (v : Value) (h : cs[i]? = some v) : (w.alloc (.cells cs t)).cell? ⟨w.heap.size, i, none⟩ = some v := by
 have e := heap_alloc_new w (.cells cs t)
 unfold World.cell?
 simp only [e]
 exact h
theorem Kn.At.new (w : World) (v : Kn.V) (t : TypeId) : Kn.At (w.alloc (.cells #[.bool v.null, .int .i64 v.n, .string v.s] t)) w.heap.size 0 v :=
 ⟨Kn.cell_new w _ t 0 _ rfl, Kn.cell_new w _ t 1 _ rfl, Kn.cell_new w _ t 2 _ rfl⟩
theorem Kn.At.alloc {w : World} {b o : Nat} {v : Kn.V} (h : Kn.At w b o v) (x : Obj) : Kn.At (w.alloc x) b o v := h.later ((Below.refl _ w).alloc (Nat.le_refl _) x)
def Kn.Z (a : Kn.V) : Prop := a.s.size ≤ 140737488351232
theorem Kn.len_toList (s : ByteArray) : s.toList.length = s.size := by
 rw [ByteArray.toList_eq]
 exact Array.length_toList
theorem Kn.at_toList (s : ByteArray) (k : Nat) (h : k < s.size) : s.toList.drop k = s[k] :: s.toList.drop (k + 1) := by
 have hl : k < s.toList.length := by rw [Kn.len_toList]; exact h
 rw [List.drop_eq_getElem_cons hl]
 congr 1
 rw [List.getElem_of_eq (ByteArray.toList_eq s)]
 rfl
theorem Kn.bl_step (x y : UInt8) (l m : List UInt8) : ((((x.toNat : Int) != (y.toNat : Int)) = true ∧ Op.bytesLess (x :: l) (y :: m) = decide (x.toNat < y.toNat)) ∨ (((x.toNat : Int) != (y.toNat : Int)) = false ∧ Op.bytesLess (x :: l) (y :: m) = Op.bytesLess l m)) := by
 by_cases h : x = y
 ·subst h
  right
  simp [Op.bytesLess]
 ·left
  have hn : x.toNat ≠ y.toNat := fun e => h (UInt8.toNat_inj.1 e)
  refine ⟨by rw [bne_iff_ne]; omega, ?_⟩
  simp [Op.bytesLess, h, UInt8.lt_iff_toNat_lt]
theorem Kn.bl_end (a b : ByteArray) (k : Nat) (ha : k ≤ a.size) (hb : k ≤ b.size) (h : ¬ k < a.size ∨ ¬ k < b.size) : Op.bytesLess (a.toList.drop k) (b.toList.drop k) = decide (a.size < b.size) := by
 by_cases h1 : k < b.size
 ·have e : a.toList.drop k = [] := List.drop_eq_nil_of_le (by rw [Kn.len_toList]; omega)
  rw [e, Kn.at_toList b k h1]
  rw [decide_eq_true (by omega)]
  rfl
 ·have e : b.toList.drop k = [] := List.drop_eq_nil_of_le (by rw [Kn.len_toList]; omega)
  rw [e, decide_eq_false (by omega)]
  cases List.drop k a.toList <;> rfl
set_option maxRecDepth 100000 in
set_option maxHeartbeats 1000000 in
theorem Kn.rahead_c (a b : ByteArray) (ha : a.size ≤ 140737488351232) (hb : b.size ≤ 140737488351232) (w : World) :
 Calls Tryd.prog 103 #[.string a, .string b] w fun e w' => e = .returned (.bool (Op.bytesLess a.toList b.toList)) ∧ ∃ n, w' = w.drewN n := by
 go_enter Tryd.func103, Tryd.ntmps103
 go_wp2
 go_loopw [5] (fun i wr => ∃ k : Nat, k ≤ a.size ∧ k ≤ b.size ∧ i = .int .i64 k ∧ Op.bytesLess a.toList b.toList = Op.bytesLess (a.toList.drop k) (b.toList.drop k) ∧ ∃ n, wr = w.drewN n) (fun i _ => a.size - (intOf i).toNat)
 case atStart => exact ⟨0, by omega, by omega, rfl, rfl, 0, rfl⟩
 case round =>
  obtain ⟨k, hka, hkb, rfl, hl, n, rfl⟩ := hrel
  by_cases h1 : k < a.size
  ·by_cases h2 : k < b.size
   ·have d1 : (k : Int) < (a.size : Int) := by omega
    have d2 : (k : Int) < (b.size : Int) := by omega
    have d0 : 0 ≤ (k : Int) := by omega
    rw [Kn.at_toList a k h1, Kn.at_toList b k h2] at hl
    have HL := Lib.hid hl
    clear hl
    rcases Kn.bl_step a[k] b[k] (a.toList.drop (k + 1)) (b.toList.drop (k + 1)) with ⟨h3, h4⟩ | ⟨h3, h4⟩
    ·have H4 := Lib.hid h4
     clear h4
     go_wp2_with fail
     go_quiet (fail)
     go_wp2_with fail
     go_quiet (fail)
     go_wp2
     go_ret
     exact ⟨congrArg (fun x => Ending.returned (.bool x)) (HL.out.trans H4.out).symm, _, by rw [World.drewN_drewN, World.drewN_drewN]⟩
    ·have H4 := Lib.hid h4
     clear h4
     go_wp2_with fail
     go_quiet (fail)
     go_wp2
     go_roundw
     case rel => exact ⟨k + 1, by omega, by omega, by simp, by rw [HL.out, H4.out], _, rfl⟩
     case measure => simp [intOf]; omega
   ·have d1 : (k : Int) < (a.size : Int) := by omega
    have d2 : ¬ (k : Int) < (b.size : Int) := by omega
    go_wp2
    go_ret
    exact ⟨congrArg (fun x => Ending.returned (.bool x)) (Kn.bl_end a b k hka hkb (.inr h2)).symm, _, rfl⟩
  ·have d1 : ¬ (k : Int) < (a.size : Int) := by omega
   go_wp2
   go_ret
   exact ⟨congrArg (fun x => Ending.returned (.bool x)) (Kn.bl_end a b k hka hkb (.inl h1)).symm, _, rfl⟩
theorem Kn.ahead_is (a b : Kn.V) : (decide (Kn.cmp a b < 0)) = (if a.null = true then !b.null else if b.null = true then false else if (a.n != b.n) = true then decide (a.n < b.n) else Op.bytesLess a.s.toList b.s.toList) := by
 unfold Kn.cmp
 cases a.null <;> cases b.null <;> simp only [Bool.false_eq_true, if_false, if_true]
 ·by_cases h : a.n = b.n
  ·rw [h]
   have e : Kn.ncmp b.n b.n = 0 := (Kn.ncmp_zero _ _).2 rfl
   rw [e]
   have e2 : (b.n != b.n) = false := by simp
   rw [e2, if_neg (by simp)]
   show decide (Kn.lcmp a.s.toList b.s.toList < 0) = _
   unfold Kn.lcmp
   cases Op.bytesLess a.s.toList b.s.toList
   ·cases Op.bytesLess b.s.toList a.s.toList <;> rfl
   ·rfl
  ·have e : Kn.ncmp a.n b.n ≠ 0 := fun e => h ((Kn.ncmp_zero _ _).1 e)
   have e2 : (a.n != b.n) = true := by rw [bne_iff_ne]; exact h
   rw [if_pos e2]
   unfold Kn.or2
   rw [if_neg e, Bool.eq_iff_iff, decide_eq_true_iff, decide_eq_true_iff]
   unfold Kn.ncmp
   repeat' split <;> omega
 all_goals rfl
set_option maxRecDepth 100000 in
set_option maxHeartbeats 1000000 in
theorem Kn.rAhead_c (a b : Kn.V) (ha : Kn.Z a) (hb : Kn.Z b) (w : World) :
 Calls Tryd.prog 86 #[a.val, b.val] w fun e w' => e = .returned (.bool (decide (Kn.cmp a b < 0))) ∧ Below w.heap.size w w' := by
 rw [Kn.ahead_is]
 obtain ⟨an, ai, sa⟩ := a
 obtain ⟨bn, bi, sb⟩ := b
 unfold Kn.V.val
 cases an <;> cases bn
 ·rcases Bool.eq_false_or_eq_true (ai != bi) with h | h
  ·show Calls _ _ _ _ fun e w' => e = .returned (.bool (if (ai != bi) = true then decide (ai < bi) else Op.bytesLess sa.toList sb.toList)) ∧ _
   rw [if_pos h]
   go_enter Tryd.func86, Tryd.ntmps86
   go_wp2
   go_ret
   exact ⟨rfl, ((Below.refl _ w).alloc (Nat.le_refl _) _).alloc (by simp) _⟩
  ·show Calls _ _ _ _ fun e w' => e = .returned (.bool (if (ai != bi) = true then decide (ai < bi) else Op.bytesLess sa.toList sb.toList)) ∧ _
   rw [if_neg (by rw [h]; simp)]
   go_enter Tryd.func86, Tryd.ntmps86
   go_wp2_with fail
   refine (Kn.rahead_c sa sb ha hb _).mono ?_
   rintro e w1 ⟨rfl, n, rfl⟩
   go_wp2
   go_ret
   exact ⟨rfl, Kn.below_drewN (((Below.refl _ w).alloc (Nat.le_refl _) _).alloc (by simp) _) n⟩
 all_goals
  go_enter Tryd.func86, Tryd.ntmps86
  go_wp2
  go_ret
  exact ⟨rfl, ((Below.refl _ w).alloc (Nat.le_refl _) _).alloc (by simp) _⟩
end Go.Proofs.YteaglaijkafphaaDoor
