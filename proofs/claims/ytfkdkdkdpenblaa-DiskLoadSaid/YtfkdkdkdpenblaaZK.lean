/-
  The plain mathematics of package disk: what the laws ask. No program.
  Lists of things of k cells each: slices that a call owns, slices that are read; an append of one thing, of many. No program beyond its types' sizes.
  The document's answers for package disk: where a name stands, a directory without a name.
-/
import Derived.Test.YtfkdkdkdpenblaaZJ
import Derived.Test.YtfkdkdkdpenblaaZA
import Derived.Test.YtfkdkdkdpenblaaZB
import Derived.Laws.AppendOwnNone
import Derived.OneCell
import Derived.Laws.OwnMore
import Derived.Deep.Onto
import Derived.Test.YtfkdkdkdpenblaaZH
import Derived.Test.YtfkdkdkdpenblaaZG
import Derived.Lib.QuietBelow
import Derived.BigQuiet
import Derived.BigRegion
import Derived.Deep.RegionHeld3
namespace Go.Proofs.Ytfkdkdkdpenblaa.Dk
open Go
theorem perm_sum {a b : List Nat} (h : a.Perm b) : a.sum = b.sum := by
  induction h with
  | nil => rfl
  | cons x _ ih => rw [List.sum_cons, List.sum_cons, ih]
  | swap x y l => simp only [List.sum_cons]; omega
  | trans _ _ ih1 ih2 => exact ih1.trans ih2
theorem heldL_cons (fs : List (Str × Nat)) (a : Str × Nat) (l : Dir) : heldL fs (a :: l) = (file fs a.2).1.length + heldL fs l := by
  unfold heldL
  rw [List.map_cons, List.sum_cons]
theorem heldL_wi (fs : List (Str × Nat)) (l : Dir) (x : Str × Nat) : heldL fs (wi l x) = (file fs x.2).1.length + heldL fs (wo l x.1) := by
  rw [← heldL_cons]
  exact perm_sum ((perm_wi l x).map _)
theorem wo_cons (a : Str × Nat) (l : Dir) (s : Str) : wo (a :: l) s = if a.1 = s then wo l s else a :: wo l s := by
  unfold wo
  rw [List.filter_cons]
  by_cases h : a.1 = s
  · simp [h]
  · simp [h]
theorem heldL_wo (fs : List (Str × Nat)) (s : Str) : ∀ l : Dir, heldL fs (wo l s) ≤ heldL fs l
  | [] => Nat.le_refl _
  | a :: l => by
    have ih := heldL_wo fs s l
    rw [wo_cons, heldL_cons]
    split
    · omega
    · rw [heldL_cons]; omega
theorem heldL_gone (fs : List (Str × Nat)) (s : Str) (f : Nat) : ∀ l : Dir, (s, f) ∈ l → heldL fs (wo l s) + (file fs f).1.length ≤ heldL fs l
  | [], h => by cases h
  | a :: l, h => by
    have h0 := heldL_wo fs s l
    rw [wo_cons, heldL_cons]
    rcases List.mem_cons.1 h with rfl | h
    · rw [if_pos rfl]
      show heldL fs (wo l s) + (file fs f).1.length ≤ (file fs f).1.length + heldL fs l
      omega
    · have ih := heldL_gone fs s f l h
      split
      · omega
      · rw [heldL_cons]; omega
theorem heldL_congr {fs gs : List (Str × Nat)} : ∀ l : Dir, (∀ y ∈ l, (file fs y.2).1 = (file gs y.2).1) → heldL fs l = heldL gs l
  | [], _ => rfl
  | a :: l, h => by
    rw [heldL_cons, heldL_cons, h a List.mem_cons_self, heldL_congr l fun y hy => h y (List.mem_cons_of_mem _ hy)]
theorem heldL_set (fs : List (Str × Nat)) (f : Nat) (x : Str × Nat) (hf : f < fs.length) : ∀ l : Dir, (l.map (·.2)).Nodup → (∃ s, (s, f) ∈ l) →
    heldL (fs.set f x) l + (file fs f).1.length = heldL fs l + x.1.length
  | [], _, h => by obtain ⟨_, h⟩ := h; cases h
  | a :: l, hn, h => by
    rw [List.map_cons, List.nodup_cons] at hn
    rw [heldL_cons, heldL_cons, file_set _ _ _ _ hf]
    by_cases e : f = a.2
    · have hc : heldL (fs.set f x) l = heldL fs l := heldL_congr l fun y hy => by
        rw [file_set _ _ _ _ hf, if_neg]
        intro e2
        exact hn.1 (List.mem_map.2 ⟨y, hy, by rw [← e2, e]⟩)
      rw [if_pos e, hc, e]
      omega
    · rw [if_neg e]
      obtain ⟨s, h⟩ := h
      rcases List.mem_cons.1 h with h | h
      · exact absurd (congrArg Prod.snd h) e
      · have := heldL_set fs f x hf l hn.2 ⟨s, h⟩
        omega
theorem heldL_le : ∀ (l : Dir) (fs : List (Str × Nat)), (l.map (·.2)).Nodup → (∀ y ∈ l, y.2 < fs.length) → heldL fs l ≤ size fs
  | [], _, _, _ => Nat.zero_le _
  | a :: l, fs, hn, hl => by
    rw [List.map_cons, List.nodup_cons] at hn
    have ha := hl a List.mem_cons_self
    have ih := heldL_le l (fs.set a.2 ([], 0)) hn.2 fun y hy => by rw [List.length_set]; exact hl y (List.mem_cons_of_mem _ hy)
    have hc : heldL (fs.set a.2 ([], 0)) l = heldL fs l := heldL_congr l fun y hy => by
      rw [file_set _ _ _ _ ha, if_neg]
      intro e2
      exact hn.1 (List.mem_map.2 ⟨y, hy, e2.symm⟩)
    have hs := size_set fs a.2 ([], 0) ha
    rw [heldL_cons]
    have h0 : ((([] : Str), 0) : Str × Nat).1.length = 0 := rfl
    omega
theorem Inv.held {d : D} (h : Inv d) : held d ≤ size d.files := heldL_le d.dir d.files h.dir.one h.dir.lim
/-- The space is kept, step by step. -/
theorem space_step {d : D} (hi : Inv d) (h : (held d : Int) ≤ d.room) (o : Op) (h6 : o.kind ≠ 6) (h9 : o.kind < 9) :
    (held (step d o).1 : Int) ≤ d.room ∧ (step d o).1.room = d.room ∧ ((step d o).2 = 10 → o.kind = 1) := by
  have e10 : ∀ e, e = callE d → e ≠ 10 := fun e he h => by rcases callE_cases d with g | g | g <;> omega
  have hg : heldL (d.files ++ [([], 0)]) d.dir = heldL d.files d.dir := heldL_congr d.dir fun y hy => by rw [file_snoc _ _ (hi.dir.lim y hy)]
  have hf0 : file (d.files ++ [([], 0)]) d.files.length = ([], 0) := by
    unfold file
    rw [List.getD, List.getElem?_append_right (Nat.le_refl _), Nat.sub_self]
    rfl
  unfold step
  split
  · unfold create
    split
    · exact ⟨h, rfl, fun e => absurd e (e10 _ rfl)⟩
    · split
      · exact ⟨h, rfl, by simp⟩
      · refine ⟨?_, rfl, by simp⟩
        have h1 := heldL_wi (d.files ++ [([], 0)]) d.dir (o.a, d.files.length)
        have h2 := heldL_wo (d.files ++ [([], 0)]) o.a d.dir
        have e : held (change (grow (tick d)) ⟨o.a, [], (d.files.length : Int)⟩) = heldL (d.files ++ [([], 0)]) (wi d.dir (o.a, d.files.length)) := by
          unfold held
          congr 1
        rw [hf0] at h1
        rw [hg] at h2
        unfold held at h
        show ((held (change (grow (tick d)) ⟨o.a, [], (d.files.length : Int)⟩) : Nat) : Int) ≤ d.room
        rw [e, h1]
        have h0 : ((([] : Str), 0) : Str × Nat).1.length = 0 := rfl
        simp only [h0]
        omega
  · split
    · next h1 =>
      unfold append
      split
      · exact ⟨h, rfl, fun _ => h1⟩
      · split
        · exact ⟨h, rfl, fun _ => h1⟩
        · next f hf =>
          split
          · exact ⟨h, rfl, fun _ => h1⟩
          · refine ⟨?_, rfl, fun _ => h1⟩
            have := heldL_set d.files f ((file d.files f).1 ++ o.b, (file d.files f).2) (hi.dirlt hf) d.dir hi.dir.one ⟨o.a, (look_some hi.dir.asc).1 hf⟩
            show ((heldL (d.files.set f ((file d.files f).1 ++ o.b, (file d.files f).2)) d.dir : Nat) : Int) ≤ d.room
            rw [show ((file d.files f).1 ++ o.b, (file d.files f).2).1.length = (file d.files f).1.length + o.b.length from List.length_append] at this
            have e : held d = heldL d.files d.dir := rfl
            omega
    · split
      · unfold sync
        split
        · exact ⟨h, rfl, fun e => absurd e (e10 _ rfl)⟩
        · split
          · exact ⟨h, rfl, by simp⟩
          · next f hf =>
            refine ⟨?_, rfl, by simp⟩
            have := heldL_set d.files f ((file d.files f).1, (file d.files f).1.length) (hi.dirlt hf) d.dir hi.dir.one ⟨o.a, (look_some hi.dir.asc).1 hf⟩
            show ((heldL (d.files.set f ((file d.files f).1, (file d.files f).1.length)) d.dir : Nat) : Int) ≤ d.room
            rw [show ((file d.files f).1, (file d.files f).1.length).1.length = (file d.files f).1.length from rfl] at this
            have e : held d = heldL d.files d.dir := rfl
            omega
      · split
        · unfold rename
          split
          · exact ⟨h, rfl, fun e => absurd e (e10 _ rfl)⟩
          · split
            · exact ⟨h, rfl, by simp⟩
            · next hn =>
              refine ⟨?_, rfl, by simp⟩
              have hb : o.b ≠ [] := right_ne fun e => hn (.inr (.inl e))
              cases hl : look d.dir o.a with
              | none => exact absurd (Or.inl hl) hn
              | some f =>
                have e : apply d.dir ⟨o.a, o.b, 0⟩ = wi (wo d.dir o.a) (o.b, f) := by
                  unfold apply
                  rw [if_pos hb, hl]
                show ((heldL d.files (apply d.dir ⟨o.a, o.b, 0⟩) : Nat) : Int) ≤ d.room
                rw [e, heldL_wi]
                have h1 := heldL_gone d.files o.a f d.dir ((look_some hi.dir.asc).1 hl)
                have h2 := heldL_wo d.files o.b (wo d.dir o.a)
                have e2 : held d = heldL d.files d.dir := rfl
                show (((file d.files f).1.length + heldL d.files (wo (wo d.dir o.a) o.b) : Nat) : Int) ≤ d.room
                omega
        · split
          · unfold remove
            split
            · exact ⟨h, rfl, fun e => absurd e (e10 _ rfl)⟩
            · split
              · exact ⟨h, rfl, by simp⟩
              · refine ⟨?_, rfl, by simp⟩
                have e : apply d.dir ⟨o.a, [], -1⟩ = wo d.dir o.a := by
                  unfold apply
                  rw [if_neg (by simp), if_pos (by simp)]
                show ((heldL d.files (apply d.dir ⟨o.a, [], -1⟩) : Nat) : Int) ≤ d.room
                rw [e]
                have h1 := heldL_wo d.files o.a d.dir
                have e2 : held d = heldL d.files d.dir := rfl
                omega
          · split
            · unfold syncDir
              split
              · exact ⟨h, rfl, fun e => absurd e (e10 _ rfl)⟩
              · exact ⟨h, rfl, by simp⟩
            · split
              · exact ⟨h, rfl, by simp⟩
              · split
                · exact ⟨h, rfl, by simp⟩
                · omega
theorem crash_room (d : D) (n : Int) (keep : List Int) : (crash d n keep).room = d.room := rfl
/-- A call that answers an error has only counted. -/
theorem err_tick (d : D) (o : Op) (h5 : o.kind ≤ 5) (he : (step d o).2 ≠ 0) : (step d o).1 = tick d := by
  unfold step at he ⊢
  split
  · next h => rw [if_pos h] at he; unfold create at he ⊢; split; · rfl
              split; · rfl
              next h1 h2 => rw [if_neg h1, if_neg h2] at he; exact absurd rfl he
  · next h0 =>
    rw [if_neg h0] at he
    split
    · next h =>
      rw [if_pos h] at he
      unfold append at he ⊢
      split
      · rfl
      · next h1 =>
        rw [if_neg h1] at he
        cases hl : look d.dir o.a with
        | none => rfl
        | some f =>
          rw [hl] at he
          simp only at he ⊢
          split
          · rfl
          · next h2 => rw [if_neg h2] at he; exact absurd rfl he
    · next h1 =>
      rw [if_neg h1] at he
      split
      · next h =>
        rw [if_pos h] at he
        unfold sync at he ⊢
        split
        · rfl
        · next h1 =>
          rw [if_neg h1] at he
          cases hl : look d.dir o.a with
          | none => rfl
          | some f => rw [hl] at he; exact absurd rfl he
      · next h2 =>
        rw [if_neg h2] at he
        split
        · next h => rw [if_pos h] at he; unfold rename at he ⊢; split; · rfl
                    split; · rfl
                    next h1 h2 => rw [if_neg h1, if_neg h2] at he; exact absurd rfl he
        · next h3 =>
          rw [if_neg h3] at he
          split
          · next h => rw [if_pos h] at he; unfold remove at he ⊢; split; · rfl
                      split; · rfl
                      next h1 h2 => rw [if_neg h1, if_neg h2] at he; exact absurd rfl he
          · next h4 =>
            rw [if_neg h4] at he
            split
            · next h => rw [if_pos h] at he; unfold syncDir at he ⊢; split; · rfl
                        next h1 => rw [if_neg h1] at he; exact absurd rfl he
            · omega
theorem tick_crash (d : D) (n : Int) (keep : List Int) : (crash (tick d) n keep).files = (crash d n keep).files ∧ (crash (tick d) n keep).dir = (crash d n keep).dir := ⟨rfl, rfl⟩
/-- All names are right. -/
structure Rt (d : D) : Prop where
  dir : ∀ y ∈ d.dir, right y.1 = true
  sure : ∀ y ∈ d.sure, right y.1 = true
  chg : ∀ c ∈ d.chg, if c.b ≠ [] then right c.b = true else (0 ≤ c.f → right c.a = true)
theorem rt_apply {l : Dir} (h : ∀ y ∈ l, right y.1 = true) {c : Ch} (hc : if c.b ≠ [] then right c.b = true else (0 ≤ c.f → right c.a = true)) : ∀ y ∈ apply l c, right y.1 = true := by
  intro y hy
  unfold apply at hy
  split at hy
  · next hb =>
    rw [if_pos hb] at hc
    split at hy
    · exact h y hy
    · rcases mem_wi.1 hy with rfl | ⟨hy, _⟩
      · exact hc
      · exact h y (mem_wo.1 hy).1
  · next hb =>
    rw [if_neg hb] at hc
    split at hy
    · exact h y (mem_wo.1 hy).1
    · rcases mem_wi.1 hy with rfl | ⟨hy, _⟩
      · exact hc (by omega)
      · exact h y hy
theorem rt_fold : ∀ (cs : List Ch) (l : Dir), (∀ y ∈ l, right y.1 = true) → (∀ c ∈ cs, if c.b ≠ [] then right c.b = true else (0 ≤ c.f → right c.a = true)) → ∀ y ∈ fold l cs, right y.1 = true
  | [], _, h, _ => h
  | c :: cs, l, h, hc => rt_fold cs (apply l c) (rt_apply h (hc c List.mem_cons_self)) fun x hx => hc x (List.mem_cons_of_mem _ hx)
theorem Rt.change {d : D} (h : Rt d) {c : Ch} (hc : if c.b ≠ [] then right c.b = true else (0 ≤ c.f → right c.a = true)) : Rt (change d c) := by
  refine ⟨rt_apply h.dir hc, h.sure, fun x hx => ?_⟩
  rcases List.mem_append.1 hx with hx | hx
  · exact h.chg x hx
  · rw [List.mem_singleton.1 hx]; exact hc
theorem Rt.step {d : D} (h : Rt d) (o : Op) : Rt (step d o).1 := by
  have ht : Rt (tick d) := ⟨h.dir, h.sure, h.chg⟩
  unfold Dk.step
  split
  · unfold create
    split
    · exact ht
    · split
      · exact ht
      · next hn =>
        refine Rt.change (d := grow (tick d)) ⟨h.dir, h.sure, h.chg⟩ ?_
        rw [if_neg (by simp)]
        intro _
        show right o.a = true
        cases hr : right o.a with
        | true => rfl
        | false => exact absurd (Or.inl hr) hn
  · split
    · unfold append
      split
      · exact ht
      · split
        · exact ht
        · split
          · exact ht
          · exact ⟨h.dir, h.sure, h.chg⟩
    · split
      · unfold sync
        split
        · exact ht
        · split
          · exact ht
          · exact ⟨h.dir, h.sure, h.chg⟩
      · split
        · unfold rename
          split
          · exact ht
          · split
            · exact ht
            · next hn =>
              refine Rt.change ht ?_
              have hb : right o.b = true := by
                cases hr : right o.b with
                | true => rfl
                | false => exact absurd (Or.inr (Or.inl hr)) hn
              rw [if_pos (right_ne (by rw [hb]; simp))]
              exact hb
        · split
          · unfold remove
            split
            · exact ht
            · split
              · exact ht
              · refine Rt.change ht ?_
                rw [if_neg (by simp)]
                intro (h : (0 : Int) ≤ -1)
                omega
          · split
            · unfold syncDir
              split
              · exact ht
              · exact ⟨h.dir, h.dir, by simp⟩
            · split
              · exact ⟨h.dir, h.sure, h.chg⟩
              · split
                · exact ⟨h.dir, h.sure, h.chg⟩
                · split
                  · exact ⟨h.dir, h.sure, h.chg⟩
                  · have hf := rt_fold (d.chg.take o.n.toNat) d.sure h.sure fun c hc => h.chg c (List.mem_of_mem_take hc)
                    exact ⟨hf, hf, by simp [crash]⟩
theorem Rt.new (n : Int) : Rt (new n) := ⟨by simp [Dk.new], by simp [Dk.new], by simp [Dk.new]⟩
/-- Behind a crash all that is there is sure, and nothing is to be done. -/
structure Calm (d : D) : Prop where
  full : ∀ y ∈ d.dir, (file d.files y.2).2 = (file d.files y.2).1.length
  sure : d.sure = d.dir
  chg : d.chg = []
  halt : d.halt = -1
  deny : d.deny = -1
theorem calm_crash {d : D} (h : Inv d) (n : Int) (keep : List Int) : Calm (crash d n keep) :=
  ⟨(cuts_left keep (crashDir d n) 0 d.files h.file (h.crashDir n).lim).2, rfl, rfl, rfl, rfl⟩
theorem Calm.callE {d : D} (h : Calm d) : callE d = 0 := by
  unfold Dk.callE
  rw [h.halt, h.deny, if_neg (by omega), if_neg (by omega)]
theorem Calm.again {d : D} (hi : Inv d) (h : Calm d) (n : Int) (keep : List Int) : (crash d n keep).files = d.files ∧ (crash d n keep).dir = d.dir := by
  have e : crashDir d n = d.dir := by
    unfold crashDir
    rw [h.chg, List.take_nil, h.sure]
    rfl
  refine ⟨?_, e⟩
  show cuts keep 0 d.files (crashDir d n) = d.files
  rw [e]
  exact cuts_full keep d.dir 0 d.files hi.dir.lim h.full
theorem read_eq {d e : D} (hf : d.files = e.files) (hd : d.dir = e.dir) (n : Str) : read d n = read e n := by
  unfold read
  rw [hf, hd]
/-- A file of this name, of these bytes; no call is to be refused. -/
structure Has (d : D) (s : Str) (f : Nat) (x : Str × Nat) : Prop where
  inv : Inv d
  look : look d.dir s = some f
  file : file d.files f = x
  halt : d.halt = -1
  deny : d.deny = -1
theorem Has.callE {d : D} {s : Str} {f : Nat} {x : Str × Nat} (h : Has d s f x) : Dk.callE d = 0 := by
  unfold Dk.callE
  rw [h.halt, h.deny, if_neg (by omega), if_neg (by omega)]
theorem Has.create {d : D} (hi : Inv d) (hc : Calm d) {s : Str} (hr : right s = true) (hn : Dk.look d.dir s = none) : (Dk.create d s).2 = 0 ∧ Has (Dk.create d s).1 s d.files.length ([], 0) := by
  have e : Dk.create d s = (change (grow (tick d)) ⟨s, [], (d.files.length : Int)⟩, 0) := by
    unfold Dk.create
    rw [if_neg (by rw [hc.callE]; simp), if_neg (by rw [hr, hn]; simp)]
  refine ⟨by rw [e], hi.create s, ?_, ?_, ?_, ?_⟩
  · rw [e]
    show Dk.look (apply d.dir ⟨s, [], (d.files.length : Int)⟩) s = _
    unfold apply
    rw [if_neg (by simp), if_neg (by simp), look_wi hi.dir.asc, if_pos rfl]
    simp
  · rw [e]
    show Dk.file (d.files ++ [([], 0)]) d.files.length = _
    unfold Dk.file
    rw [List.getD, List.getElem?_append_right (Nat.le_refl _), Nat.sub_self]
    rfl
  · rw [e]; exact hc.halt
  · rw [e]; exact hc.deny
theorem Has.space {d : D} {s : Str} {f : Nat} {x : Str × Nat} (h : Has d s f x) (n : Int) : Has (Dk.space d n) s f x := ⟨⟨h.inv.chain, h.inv.well, h.inv.part⟩, h.look, h.file, h.halt, h.deny⟩
theorem Has.put {d : D} {s : Str} {f : Nat} {x : Str × Nat} (h : Has d s f x) {y : Str × Nat} (hy : y.2 ≤ y.1.length) : Has (Dk.put (Dk.tick d) f y) s f y :=
  ⟨h.inv.tick.put f hy, h.look, by
    show Dk.file (d.files.set f y) f = y
    rw [file_set _ _ _ _ (h.inv.dirlt h.look), if_pos rfl], h.halt, h.deny⟩
theorem Has.append {d : D} {s : Str} {f : Nat} {x : Str × Nat} (h : Has d s f x) {k : Nat} (hz : Sz k d) (hk : k ≤ 1000) (hr : d.room = 1099511627776) (t : Str) (ht : t.length ≤ 1048576) :
    Dk.append d s t = (Dk.put (Dk.tick d) f (x.1 ++ t, x.2), 0) := by
  have h1 := h.inv.held
  have h2 := hz.bytes
  have h3 : k * 1048576 ≤ 1000 * 1048576 := Nat.mul_le_mul_right _ hk
  unfold Dk.append
  rw [if_neg (by rw [h.callE]; simp), h.look]
  simp only
  rw [if_neg (by omega), h.file]
theorem Has.sync {d : D} {s : Str} {f : Nat} {x : Str × Nat} (h : Has d s f x) : Dk.sync d s = (Dk.put (Dk.tick d) f (x.1, x.1.length), 0) := by
  unfold Dk.sync
  rw [if_neg (by rw [h.callE]; simp), h.look]
  simp only
  rw [h.file]
theorem Has.syncDir {d : D} {s : Str} {f : Nat} {x : Str × Nat} (h : Has d s f x) : Dk.syncDir d = ({ Dk.tick d with sure := d.dir, chg := [] }, 0) := by
  unfold Dk.syncDir
  rw [if_neg (by rw [h.callE]; simp)]
/-- What is sure is there, and nothing that never was. -/
theorem Has.crash {d : D} {s : Str} {f : Nat} {x : Str × Nat} (h : Has d s f x) (hs : d.sure = d.dir) (hc : d.chg = []) (n : Int) (keep : List Int) :
    ∃ t, read (Dk.crash d n keep) s = (t, 0) ∧ x.2 ≤ t.length ∧ t.length ≤ x.1.length ∧ t = x.1.take t.length := by
  have e : crashDir d n = d.dir := by
    unfold crashDir
    rw [hc, List.take_nil, hs]
    rfl
  have hl := (cuts_left keep (crashDir d n) 0 d.files h.inv.file (h.inv.crashDir n).lim).1 f
  rw [h.file] at hl
  refine ⟨(Dk.file (cuts keep 0 d.files (crashDir d n)) f).1, ?_, hl.least, hl.le, hl.take⟩
  unfold read
  rw [show Dk.look (Dk.crash d n keep).dir s = some f from (congrArg (Dk.look · s) e).trans h.look]
  rfl
end Go.Proofs.Ytfkdkdkdpenblaa.Dk

namespace Go.Proofs.Ytfkdkdkdpenblaa
open Go.RowKit
section
variable {α : Type}
theorem Dk.flat_len {k : Nat} {enc : α → List Value} (he : ∀ x, (enc x).length = k) : ∀ L : List α, (L.flatMap enc).length = L.length * k
  | [] => by simp
  | x :: L => by
    have := Dk.flat_len he L
    rw [List.flatMap_cons, List.length_append, this, he, List.length_cons, Nat.succ_mul]
    omega
theorem Dk.flat_get {k : Nat} {enc : α → List Value} (he : ∀ x, (enc x).length = k) : ∀ (L : List α) (i j : Nat) (x : α), L[i]? = some x → j < k → (L.flatMap enc)[i * k + j]? = (enc x)[j]?
  | [], _, _, _, h, _ => by cases h
  | y :: L, 0, j, x, h, hj => by
    obtain rfl : y = x := by simpa using h
    rw [List.flatMap_cons, Nat.zero_mul, Nat.zero_add, List.getElem?_append_left (by rw [he]; exact hj)]
  | y :: L, i + 1, j, x, h, hj => by
    have ih := Dk.flat_get he L i j x (by simpa using h) hj
    have e : (i + 1) * k + j = (enc y).length + (i * k + j) := by rw [he, Nat.succ_mul]; omega
    rw [List.flatMap_cons, e, List.getElem?_append_right (Nat.le_add_right _ _), Nat.add_sub_cancel_left]
    exact ih
theorem Dk.flat_set {k : Nat} {enc : α → List Value} (he : ∀ x, (enc x).length = k) (L : List α) (i : Nat) (x y : α) (hi : L[i]? = some x) (j : Nat) (hj : j < k) (u : Value) (hy : enc y = (enc x).set j u) :
    (L.flatMap enc).set (i * k + j) u = (L.set i y).flatMap enc := by
  have hil : i < L.length := by
    rcases Nat.lt_or_ge i L.length with h | h
    · exact h
    · rw [List.getElem?_eq_none h] at hi; cases hi
  have hlen : (L.flatMap enc).length = L.length * k := Dk.flat_len he L
  have hm : i * k + j < L.length * k := by
    have := Nat.mul_le_mul_right k hil
    rw [Nat.succ_mul] at this
    omega
  refine List.ext_getElem? fun q => ?_
  by_cases hq : q < L.length * k
  · have hk : 0 < k := by omega
    obtain ⟨a, b, hb, e⟩ : ∃ a b, b < k ∧ q = a * k + b := ⟨q / k, q % k, Nat.mod_lt _ hk, by rw [Nat.mul_comm]; exact (Nat.div_add_mod q k).symm⟩
    have ha : a < L.length := by
      rcases Nat.lt_or_ge a L.length with h | h
      · exact h
      · have := Nat.mul_le_mul_right k h; omega
    rw [e, Dk.flat_get he (L.set i y) a b (if i = a then y else L[a]) (by
      rw [List.getElem?_set]
      by_cases h : i = a
      · rw [if_pos h, if_pos h, if_pos (by omega)]
      · rw [if_neg h, if_neg h, List.getElem?_eq_getElem ha]) hb, List.getElem?_set]
    have hx : L[a]? = some L[a] := List.getElem?_eq_getElem ha
    by_cases h : i = a
    · subst h
      rw [if_pos rfl, hy, List.getElem?_set]
      rw [hi] at hx
      have hxe := Option.some.inj hx
      by_cases hjb : j = b
      · subst hjb
        rw [if_pos rfl, if_pos rfl, if_pos (by rw [hlen]; exact hm), if_pos (by rw [he]; exact hj)]
      · rw [if_neg (by omega), if_neg hjb]
        exact Dk.flat_get he L i b x hi hb
    · rw [if_neg h, if_neg (fun e2 => by
        have h1 : i * k + j = a * k + b := e2
        rcases Nat.lt_or_gt_of_ne h with h2 | h2
        · have := Nat.mul_le_mul_right k h2; rw [Nat.succ_mul] at this; omega
        · have := Nat.mul_le_mul_right k h2; rw [Nat.succ_mul] at this; omega)]
      exact Dk.flat_get he L a b _ hx hb
  · rw [List.getElem?_eq_none (by rw [List.length_set, hlen]; omega), List.getElem?_eq_none (by rw [Dk.flat_len he, List.length_set]; omega)]
/-- A slice of things that a call owns. -/
def Dk.Own (e : TypeId) (k : Nat) (enc : α → List Value) (base : Nat) (w : World) (v : Value) (L : List α) : Prop := w.ownsRow base e k v L.length (L.flatMap enc)
/-- A slice of things that can be read; where it lies. -/
def Dk.At (P : Nat → Prop) (e : TypeId) (k : Nat) (enc : α → List Value) (w : World) (v : Value) (L : List α) : Prop :=
  ∃ a c, v = .slice a L.length c ∧ L.length ≤ c ∧ ((L = [] ∧ (a = none → c = 0)) ∨ ∃ b o cs fr, a = some ⟨b, o, none⟩ ∧ P b ∧ w.heap[b]? = some (.cells cs e fr) ∧ ∀ i j x, L[i]? = some x → j < k → w.cell? ⟨b, o + i * k + j, none⟩ = (enc x)[j]?)
theorem Dk.addr_add (b o i : Nat) : (⟨b, o, none⟩ : Addr).add i = ⟨b, o + i, none⟩ := by unfold Addr.add; split <;> simp_all
variable {P P' : Nat → Prop} {e : TypeId} {k : Nat} {enc : α → List Value}
theorem Dk.Own.nil (base : Nat) (w : World) : Dk.Own e k enc base w (.slice none 0 0) ([] : List α) := World.ownsRow_nil w base _ k
theorem Dk.Own.base_le {base : Nat} {w : World} {v : Value} {L : List α} (h : Dk.Own e k enc base w v L) : ∀ b, v.ownBlock = some b → base ≤ b := fun b hb => (World.ownsRow.lt h b hb).1
theorem Dk.Own.lt {base : Nat} {w : World} {v : Value} {L : List α} (h : Dk.Own e k enc base w v L) : ∀ b, v.ownBlock = some b → b < w.heap.size := fun b hb => (World.ownsRow.lt h b hb).2
theorem Dk.Own.typed {base : Nat} {w : World} {v : Value} {L : List α} (h : Dk.Own e k enc base w v L) : ∀ b, v.ownBlock = some b → ∃ cs, w.heap[b]? = some (.cells cs e (0, 0)) := by
  intro b hb
  rcases h.2 with ⟨rfl, _⟩ | ⟨g, cap, cur, rfl, _, hg, _⟩
  · cases hb
  · have : g = b := by simpa [Value.ownBlock] using hb
    subst this
    exact ⟨cur, hg⟩
theorem Dk.Own.same {base : Nat} {w w' : World} {v : Value} {L : List α} (h : Dk.Own e k enc base w v L) (g : ∀ b, v.ownBlock = some b → w'.heap[b]? = w.heap[b]?) : Dk.Own e k enc base w' v L := by
  refine ⟨h.1, ?_⟩
  rcases h.2 with hn | ⟨b, cap, cur, rfl, hbb, hgg, rest⟩
  · exact .inl hn
  · exact .inr ⟨b, cap, cur, rfl, hbb, by rw [g b rfl]; exact hgg, rest⟩
theorem Dk.Own.kept {base : Nat} {w w' : World} {v : Value} {L : List α} (h : Dk.Own e k enc base w v L) (g : Below w.heap.size w w') : Dk.Own e k enc base w' v L :=
  h.same fun b hb => g.block b (h.lt b hb)
theorem Dk.own_below {wo w w' : World} {v v' : Value} {L : List α} (hb : Below wo.heap.size wo w) (ho : Dk.Own e k enc wo.heap.size w v L) (g : Ty.Grew w w' v v') : Below wo.heap.size wo w' :=
  hb.trans (g.below hb.size ho.base_le)
theorem Dk.Own.form {base : Nat} {w : World} {v : Value} {L : List α} (h : Dk.Own e k enc base w v L) : (v = .slice none 0 0 ∧ L = []) ∨ ∃ g c, v = .slice (some ⟨g, 0, none⟩) L.length c ∧ L.length ≤ c ∧ c ≤ maxLen ∧ base ≤ g ∧ g < w.heap.size := by
  rcases h.2 with ⟨e1, e0⟩ | ⟨g, cap, cur, e1, hbg, hgg, hcap, hm, _⟩
  · exact .inl ⟨e1, List.eq_nil_of_length_eq_zero e0⟩
  · exact .inr ⟨g, cap, e1, hcap, hm, hbg, (Array.getElem?_eq_some_iff.1 hgg).1⟩
theorem Dk.Own.cell (he : ∀ x, (enc x).length = k) {base : Nat} {w : World} {v : Value} {L : List α} (h : Dk.Own e k enc base w v L) {g : Nat} (hv : v.ownBlock = some g) {i j : Nat} {x : α} (hi : L[i]? = some x) (hj : j < k) : w.cell? ⟨g, i * k + j, none⟩ = (enc x)[j]? := by
  have hx : (enc x)[j]? = some ((enc x)[j]'(by rw [he]; exact hj)) := List.getElem?_eq_getElem _
  have := World.ownsRow.cells h hv (i * k + j) _ ((Dk.flat_get he L i j x hi hj).trans hx)
  rw [Dk.addr_add, Nat.zero_add] at this
  rw [this, hx]
theorem Dk.Own.at (he : ∀ x, (enc x).length = k) {base : Nat} {w : World} {v : Value} {L : List α} (h : Dk.Own e k enc base w v L) : Dk.At (fun b => base ≤ b ∧ b < w.heap.size) e k enc w v L := by
  rcases h.form with ⟨rfl, rfl⟩ | ⟨g, c, rfl, hc, _, hb, hg⟩
  · exact ⟨none, 0, rfl, Nat.le_refl _, .inl ⟨rfl, fun _ => rfl⟩⟩
  · obtain ⟨cs, hcs⟩ := h.typed g rfl
    refine ⟨_, c, rfl, hc, .inr ⟨g, 0, cs, (0, 0), rfl, ⟨hb, hg⟩, hcs, fun i j x hi hj => ?_⟩⟩
    rw [Nat.zero_add]
    exact h.cell he rfl hi hj
theorem Dk.At.same {w w' : World} {v : Value} {L : List α} (h : Dk.At P e k enc w v L) (g : ∀ b, P b → w'.heap[b]? = w.heap[b]?) : Dk.At P e k enc w' v L := by
  obtain ⟨a, c, hv, hc, h⟩ := h
  refine ⟨a, c, hv, hc, ?_⟩
  rcases h with h | ⟨b, o, cs, fr, ha, hP, hb, h⟩
  · exact .inl h
  · refine .inr ⟨b, o, cs, fr, ha, hP, (g b hP).trans hb, fun i j x hi hj => ?_⟩
    rw [← h i j x hi hj]
    exact World.cell?_of_block (g b hP)
theorem Dk.At.imp {w : World} {v : Value} {L : List α} (h : Dk.At P e k enc w v L) (g : ∀ b, P b → P' b) : Dk.At P' e k enc w v L := by
  obtain ⟨a, c, hv, hc, h⟩ := h
  refine ⟨a, c, hv, hc, ?_⟩
  rcases h with h | ⟨b, o, cs, fr, ha, hP, hb, h⟩
  · exact .inl h
  · exact .inr ⟨b, o, cs, fr, ha, g b hP, hb, h⟩
/-- The same by way of what lives. -/
theorem Dk.At.alive {w : World} {v : Value} {L : List α} (h : Dk.At P e k enc w v L) : Dk.At (fun b => P b ∧ b < w.heap.size) e k enc w v L := by
  obtain ⟨a, c, hv, hc, h⟩ := h
  refine ⟨a, c, hv, hc, ?_⟩
  rcases h with h | ⟨b, o, cs, fr, ha, hP, hb, h⟩
  · exact .inl h
  · exact .inr ⟨b, o, cs, fr, ha, ⟨hP, lt_of_block hb⟩, hb, h⟩
theorem Dk.At.kept {w w' : World} {v : Value} {L : List α} (h : Dk.At P e k enc w v L) (g : Below w.heap.size w w') : Dk.At P e k enc w' v L :=
  ((h.alive).same fun b hb => g.block b hb.2).imp fun _ hb => hb.1
theorem Dk.At.nil (w : World) : Dk.At P e k enc w (.slice none 0 0) ([] : List α) := ⟨none, 0, rfl, Nat.le_refl _, .inl ⟨rfl, fun _ => rfl⟩⟩
/-- The things K can be read off this slice. -/
def Dk.Src (enc : α → List Value) (w : World) (u : Value) (K : List α) : Prop :=
  (u = .slice none 0 0 ∧ K = []) ∨ ∃ ad c, u = .slice (some ad) K.length c ∧ ∀ j y, (K.flatMap enc)[j]? = some y → w.cell? (ad.add j) = some y
theorem Dk.src_cells {w : World} {b o : Nat} {K : List α} (he : ∀ x, (enc x).length = k) (hk : 0 < k) (h : ∀ i j x, K[i]? = some x → j < k → w.cell? ⟨b, o + i * k + j, none⟩ = (enc x)[j]?) :
    ∀ j y, (K.flatMap enc)[j]? = some y → w.cell? ((⟨b, o, none⟩ : Addr).add j) = some y := by
  intro q y hq
  have hql : q < K.length * k := by
    rw [← Dk.flat_len he K]
    exact (List.getElem?_eq_some_iff.1 hq).1
  obtain ⟨i, j, hj, e1⟩ : ∃ i j, j < k ∧ q = i * k + j := ⟨q / k, q % k, Nat.mod_lt _ hk, by rw [Nat.mul_comm]; exact (Nat.div_add_mod q k).symm⟩
  have hi : i < K.length := by
    rcases Nat.lt_or_ge i K.length with h | h
    · exact h
    · have := Nat.mul_le_mul_right k h; omega
  have hx : K[i]? = some K[i] := List.getElem?_eq_getElem hi
  rw [Dk.addr_add, e1, ← Nat.add_assoc, h i j _ hx hj, ← Dk.flat_get he K i j _ hx hj, ← e1, hq]
/-- AN APPEND OF MANY. -/
theorem Dk.append_many {Pr : Program} (T : TypeId) (z : Value) (by_ : Nat) (hT : Pr.underlying T = some (.slice e)) (hinfo : (Pr.info? e).map (fun i => (i.zero, i.size, i.bytes)) = some (some z, k, by_)) (hz : z.cells.size = k) (hk : 0 < k)
    (he : ∀ x, (enc x).length = k) (hone : ∀ x, ∀ u ∈ enc x, u.oneCell' = true) {base : Nat} {w0 : World} {v : Value} {M K : List α} (hown : Dk.Own e k enc base w0 v M) (hb : base ≤ w0.heap.size)
    (hl : (M.length + K.length) * by_ ≤ 140737488355328) (hl2 : M.length + K.length ≤ 140737488355328) {u : Value} (hu : Dk.Src enc w0 u K) (ty : TypeId) :
    ∃ v' w', (Builtin.append_ #[T, T] ty #[v, u]).run Pr w0 = .ok v' w' ∧ Dk.Own e k enc base w' v' (M ++ K) ∧ Ty.Grew w0 w' v v' := by
  obtain ⟨i0, hi, hz0, hz1, hz2⟩ := info_parts hinfo
  rcases hu with ⟨rfl, rfl⟩ | ⟨ad, c, rfl, hK⟩
  · exact ⟨v, w0, run_append_owned_none (P := Pr) w0 base T ty e i0 k hT hi v _ _ hown, by rw [List.append_nil]; exact hown, Ty.Grew.refl _ _⟩
  · obtain ⟨v', w', hr, h1, h2⟩ := Ty.append_tight (P := Pr) w0 base T ty e i0 _ k by_ hT hi hz0 hz1 hz2 hz hk v M.length (M.flatMap enc) hown ad K.length c (K.flatMap enc) (Dk.flat_len he K) hK (fun y hy => by
      obtain ⟨x, _, hx⟩ := List.mem_flatMap.1 hy
      exact hone x y hx) (by unfold maxLen; omega) hl hb
    refine ⟨v', w', hr, ?_, h2⟩
    unfold Dk.Own
    rw [List.length_append, List.flatMap_append]
    exact h1
/-- .. the walk's law, at a guard that is met. -/
theorem Dk.wpList_append {Pr : Program} (T : TypeId) (z : Value) (by_ : Nat) (hT : Pr.underlying T = some (.slice e)) (hinfo : (Pr.info? e).map (fun i => (i.zero, i.size, i.bytes)) = some (some z, k, by_)) (hz : z.cells.size = k) (hk : 0 < k)
    (he : ∀ x, (enc x).length = k) (hone : ∀ x, ∀ u ∈ enc x, u.oneCell' = true) {base : Nat} {w0 : World} {v : Value} {M : List α} (K : List α) (hown : Dk.Own e k enc base w0 v M) (hb : base ≤ w0.heap.size)
    (hl : (M.length + K.length) * by_ ≤ 140737488355328) (hl2 : M.length + K.length ≤ 140737488355328) {u : Value} (hu : Dk.Src enc w0 u K)
    {ops : Array Oper} {rest : List Oper} {o : Oper} {a : Act} {Q : Exit → Act → World → Prop} (s x : Operand) (hgd : Region.wanted o (yielded ops a.tmps) = true)
    (ho : o.op = .call { callee := .builtin .append, args := #[s, x], argTypes := #[T, T] })
    (hs : a.eval s = v) (hx : a.eval x = u)
    (h : ∀ v' w', Dk.Own e k enc base w' v' (M ++ K) → Ty.Grew w0 w' v v' → wpList Pr ops Q rest (a.put o.dst v') w') :
    wpList Pr ops Q (o :: rest) a w0 := by
  refine wpList_step fun Kx hKx => ?_
  rw [if_pos hgd]
  obtain ⟨v', w', hr, h2, h3⟩ := Dk.append_many (Pr := Pr) T z by_ hT hinfo hz hk he hone hown hb hl hl2 hu o.type
  unfold Oper.wp execOp
  simp only [ho, resolve, invoke, builtin, Sem.run_bind, Sem.run_pure, Result.andThen_ok, List.map_toArray, List.map_cons, List.map_nil, hs, hx, hr]
  exact hKx _ _ (h v' w' h2 h3)
/-- .. a step of a region that draws its order. -/
theorem Dk.step_append {Pr : Program} (T : TypeId) (z : Value) (by_ : Nat) (hT : Pr.underlying T = some (.slice e)) (hinfo : (Pr.info? e).map (fun i => (i.zero, i.size, i.bytes)) = some (some z, k, by_)) (hz : z.cells.size = k) (hk : 0 < k)
    (he : ∀ x, (enc x).length = k) (hone : ∀ x, ∀ u ∈ enc x, u.oneCell' = true) {wo w0 : World} {v : Value} {M : List α} (K : List α) (hbW : Below wo.heap.size wo w0) (hown : Dk.Own e k enc wo.heap.size w0 v M)
    (hl : (M.length + K.length) * by_ ≤ 140737488355328) (hl2 : M.length + K.length ≤ 140737488355328)
    {ops : Array Oper} {o : Oper} {a : Act} {Kx : Act → World → Prop} {Q : Exit → Act → World → Prop} {E : Prop} (s x : Operand) (u : Value) (hgd : o.guard = none)
    (ho : o.op = .call { callee := .builtin .append, args := #[s, x], argTypes := #[T, T] })
    (hs : a.eval s = v) (hx : a.eval x = u) (hu : Dk.Src enc w0 u K)
    (h : ∀ v' w', Dk.Own e k enc wo.heap.size w' v' (M ++ K) → Below wo.heap.size wo w' → Ty.Grew w0 w' v v' → Kx (a.put o.dst v') w') :
    if Region.wanted o (yielded ops a.tmps) = true then Oper.wp Pr o a w0 Kx Q else E := by
  have hw : Region.wanted o (yielded ops a.tmps) = true := by simp [Region.wanted, hgd]
  rw [if_pos hw]
  obtain ⟨v', w', hr, h2, h3⟩ := Dk.append_many (Pr := Pr) T z by_ hT hinfo hz hk he hone hown hbW.size hl hl2 hu o.type
  unfold Oper.wp execOp
  simp only [ho, resolve, invoke, builtin, Sem.run_bind, Sem.run_pure, Result.andThen_ok, List.map_toArray, List.map_cons, List.map_nil, hs, hx, hr]
  exact h v' w' h2 (Dk.own_below hbW hown h3) h3
/-- .. whatever the base. -/
theorem Dk.step_appendB {Pr : Program} (T : TypeId) (z : Value) (by_ : Nat) (hT : Pr.underlying T = some (.slice e)) (hinfo : (Pr.info? e).map (fun i => (i.zero, i.size, i.bytes)) = some (some z, k, by_)) (hz : z.cells.size = k) (hk : 0 < k)
    (he : ∀ x, (enc x).length = k) (hone : ∀ x, ∀ u ∈ enc x, u.oneCell' = true) {base : Nat} {w0 : World} {v : Value} {M : List α} (K : List α) (hb : base ≤ w0.heap.size) (hown : Dk.Own e k enc base w0 v M)
    (hl : (M.length + K.length) * by_ ≤ 140737488355328) (hl2 : M.length + K.length ≤ 140737488355328)
    {ops : Array Oper} {o : Oper} {a : Act} {Kx : Act → World → Prop} {Q : Exit → Act → World → Prop} {E : Prop} (s x : Operand) (u : Value) (hgd : o.guard = none)
    (ho : o.op = .call { callee := .builtin .append, args := #[s, x], argTypes := #[T, T] })
    (hs : a.eval s = v) (hx : a.eval x = u) (hu : Dk.Src enc w0 u K)
    (h : ∀ v' w', Dk.Own e k enc base w' v' (M ++ K) → Ty.Grew w0 w' v v' → Kx (a.put o.dst v') w') :
    if Region.wanted o (yielded ops a.tmps) = true then Oper.wp Pr o a w0 Kx Q else E := by
  have hw : Region.wanted o (yielded ops a.tmps) = true := by simp [Region.wanted, hgd]
  rw [if_pos hw]
  obtain ⟨v', w', hr, h2, h3⟩ := Dk.append_many (Pr := Pr) T z by_ hT hinfo hz hk he hone hown hb hl hl2 hu o.type
  unfold Oper.wp execOp
  simp only [ho, resolve, invoke, builtin, Sem.run_bind, Sem.run_pure, Result.andThen_ok, List.map_toArray, List.map_cons, List.map_nil, hs, hx, hr]
  exact h v' w' h2 h3
theorem Dk.Own.form1 {base : Nat} {w : World} {v : Value} {M : List α} {x : α} (h : Dk.Own e k enc base w v (M ++ [x])) : ∃ g c, v = .slice (some ⟨g, 0, none⟩) (M.length + 1) c ∧ M.length + 1 ≤ c ∧ c ≤ maxLen := by
  rcases h.form with ⟨_, h0⟩ | ⟨g, c, rfl, hc, hm, _, _⟩
  · exact absurd h0 (by simp)
  · exact ⟨g, c, by rw [List.length_append]; rfl, by rw [List.length_append] at hc; exact hc, hm⟩
/-- A piece of a row as a source. -/
theorem Dk.src_take (he : ∀ x, (enc x).length = k) (hk : 0 < k) {w : World} {D : List α} {b q : Nat} (hc : ∀ i j x, D[i]? = some x → j < k → w.cell? ⟨b, i * k + j, none⟩ = (enc x)[j]?) (hq : q ≤ D.length) (c : Nat) : Dk.Src enc w (.slice (some ⟨b, 0, none⟩) q c) (D.take q) := by
  have hl : (D.take q).length = q := by rw [List.length_take]; omega
  refine .inr ⟨⟨b, 0, none⟩, c, by rw [hl], Dk.src_cells he hk fun i j x hi hj => ?_⟩
  rw [Nat.zero_add]
  refine hc i j x ?_ hj
  rw [List.getElem?_take] at hi
  split at hi
  · exact hi
  · cases hi
theorem Dk.src_drop (he : ∀ x, (enc x).length = k) (hk : 0 < k) {w : World} {D : List α} {b q o : Nat} (ho : o = q * k) (hc : ∀ i j x, D[i]? = some x → j < k → w.cell? ⟨b, i * k + j, none⟩ = (enc x)[j]?) (c : Nat) : Dk.Src enc w (.slice (some ⟨b, o, none⟩) (D.length - q) c) (D.drop q) := by
  subst ho
  have hl : (D.drop q).length = D.length - q := List.length_drop
  refine .inr ⟨⟨b, q * k, none⟩, c, by rw [hl], Dk.src_cells he hk fun i j x hi hj => ?_⟩
  rw [List.getElem?_drop] at hi
  rw [← Nat.add_mul]
  exact hc (q + i) j x hi hj
theorem Dk.src_none {w : World} (b o c m : Nat) {K : List α} (hK : K = []) (hm : m = 0) : Dk.Src enc w (.slice (some ⟨b, o, none⟩) m c) K := by
  subst hK hm
  exact .inr ⟨_, c, rfl, fun j y hj => by simp at hj⟩
/-- A slice that has just been made of one thing. -/
theorem Dk.src_one (w : World) (x : α) (cs : Array Value) (hcs : cs = (enc x).toArray) (t : TypeId) : Dk.Src enc (w.alloc (.cells cs t)) (.slice (some ⟨w.heap.size, 0, none⟩) 1 1) [x] := by
  refine .inr ⟨⟨w.heap.size, 0, none⟩, 1, rfl, fun j y hj => ?_⟩
  rw [Dk.addr_add, Nat.zero_add]
  have e1 : ([x].flatMap enc) = enc x := by simp
  rw [e1] at hj
  have hn := heap_alloc_new w (.cells cs t)
  simp only [World.cell?, hn]
  subst hcs
  simpa using hj
theorem Dk.src_cell {w : World} {b : Nat} {x : α} (h : ∀ j y, (enc x)[j]? = some y → w.cell? ⟨b, j, none⟩ = some y) : Dk.Src enc w (.slice (some ⟨b, 0, none⟩) 1 1) [x] := by
  refine .inr ⟨⟨b, 0, none⟩, 1, rfl, fun j y hj => ?_⟩
  rw [Dk.addr_add, Nat.zero_add]
  have e1 : ([x].flatMap enc) = enc x := by simp
  rw [e1] at hj
  exact h j y hj
theorem Dk.cell_new {w : World} {cs : Array Value} {t : TypeId} {x : α} (hcs : cs = (enc x).toArray) : ∀ j y, (enc x)[j]? = some y → (w.alloc (.cells cs t)).cell? ⟨w.heap.size, j, none⟩ = some y := by
  intro j y hj
  have hn := heap_alloc_new w (.cells cs t)
  simp only [World.cell?, hn]
  subst hcs
  simpa using hj
theorem Dk.cell_kept {w w' : World} {v' : Value} (g : Ty.Grew w w' (.slice none 0 0) v') {a : Addr} {x : Value} (h : w.cell? a = some x) : w'.cell? a = some x := by
  have hb : Below w.heap.size w w' := g.below (Nat.le_refl _) (fun k hk => by cases hk)
  exact (hb.cell (World.block_lt_of_cell? w _ h)).trans h
/-- .. one more. -/
theorem Dk.wpList_append1 {Pr : Program} (T : TypeId) (z : Value) (by_ : Nat) (hT : Pr.underlying T = some (.slice e)) (hinfo : (Pr.info? e).map (fun i => (i.zero, i.size, i.bytes)) = some (some z, k, by_)) (hz : z.cells.size = k) (hk : 0 < k)
    (he : ∀ x, (enc x).length = k) (hone : ∀ x, ∀ u ∈ enc x, u.oneCell' = true) {base : Nat} {w0 : World} {v : Value} {M : List α} (x : α) (hown : Dk.Own e k enc base w0 v M) (hb : base ≤ w0.heap.size)
    (hl : (M.length + 1) * by_ ≤ 140737488355328) (hl2 : M.length + 1 ≤ 140737488355328) (q : Nat) (hq : q = w0.heap.size) (cs : Array Value) (hcs : cs = (enc x).toArray)
    {ops : Array Oper} {rest : List Oper} {o : Oper} {a : Act} {Q : Exit → Act → World → Prop} (s y : Operand) (hgd : Region.wanted o (yielded ops a.tmps) = true)
    (ho : o.op = .call { callee := .builtin .append, args := #[s, y], argTypes := #[T, T] })
    (hs : a.eval s = v) (hx : a.eval y = .slice (some ⟨q, 0, none⟩) 1 1)
    (h : ∀ v' w', Dk.Own e k enc base w' v' (M ++ [x]) → Ty.Grew w0 w' v v' → wpList Pr ops Q rest (a.put o.dst v') w') :
    wpList Pr ops Q (o :: rest) a (w0.alloc (.cells cs e)) := by
  subst hq
  exact Dk.wpList_append T z by_ hT hinfo hz hk he hone [x] (World.ownsRow.alloc hown _) (by rw [World.size_alloc]; omega) hl hl2 (Dk.src_one w0 x cs hcs e) s y hgd ho hs hx fun v' w' h1 h2 => h v' w' h1 (h2.behind _)
/-- A store into a thing. -/
theorem Dk.Own.set (he : ∀ x, (enc x).length = k) {base : Nat} {w : World} {v : Value} {L : List α} (h : Dk.Own e k enc base w v L) {g : Nat} (hv : v.ownBlock = some g) {i j : Nat} {x : α} (hi : L[i]? = some x) (hj : j < k) (u : Value) (y : α) (hy : enc y = (enc x).set j u) :
    Dk.Own e k enc base (w.setCell ⟨g, i * k + j, none⟩ u) v (L.set i y) := by
  rcases h.form with ⟨rfl, rfl⟩ | ⟨g', c, rfl, hc, _, hb, hg⟩
  · cases hi
  · have : g' = g := by simpa [Value.ownBlock] using hv
    subst this
    have := (World.ownsRow.stored h (i * k + j) u).1
    rw [Dk.flat_set he L i x y hi j hj u hy] at this
    unfold Dk.Own
    rw [List.length_set]
    exact this
end
end Go.Proofs.Ytfkdkdkdpenblaa

namespace Go.Proofs.Ytfkdkdkdpenblaa
open Go.RowKit
/-- A name and its file; a file, as cells. -/
def Dk.encN (y : Dk.Str × Nat) : List Value := [.string (Ty.S y.1), .int .i64 (y.2 : Int)]
theorem Dk.encN_len (y : Dk.Str × Nat) : (Dk.encN y).length = 2 := rfl
theorem Dk.encN_one (y : Dk.Str × Nat) : ∀ u ∈ Dk.encN y, u.oneCell' = true := by
  intro u hu
  simp only [Dk.encN, List.mem_cons, List.not_mem_nil, or_false] at hu
  rcases hu with rfl | rfl <;> rfl
theorem Dk.infoN : (Try.prog.info? 71).map (fun i => (i.zero, i.size, i.bytes)) = some (some (.agg #[.string ⟨#[]⟩, .int .i64 0]), 2, 24) := by kernel_rfl
theorem Dk.infoF : (Try.prog.info? 69).map (fun i => (i.zero, i.size, i.bytes)) = some (some (.agg #[.string ⟨#[]⟩, .int .i64 0]), 2, 24) := by kernel_rfl
/-- A directory in hand; a directory that a call owns. -/
abbrev Dk.Dat (P : Nat → Prop) (w : World) (v : Value) (l : Dk.Dir) : Prop := Dk.At P 71 2 Dk.encN w v l
abbrev Dk.Down (base : Nat) (w : World) (v : Value) (l : Dk.Dir) : Prop := Dk.Own 71 2 Dk.encN base w v l
theorem Dk.look_at : ∀ (l : Dk.Dir) (k : Nat) (s : Dk.Str) (f : Nat), (∀ j, j < k → (l.getD j ([], 0)).1 ≠ s) → l[k]? = some (s, f) → Dk.look l s = some f
  | [], _, _, _, _, h => by cases h
  | a :: l, 0, s, f, _, h => by
    obtain rfl : a = (s, f) := by simpa using h
    simp [Dk.look]
  | a :: l, k + 1, s, f, hp, h => by
    have h0 : a.1 ≠ s := hp 0 (by omega)
    have := Dk.look_at l k s f (fun j hj => hp (j + 1) (by omega)) (by simpa using h)
    unfold Dk.look at this ⊢
    rw [List.find?_cons_of_neg (by simpa using h0)]
    exact this
theorem Dk.look_out {l : Dk.Dir} {s : Dk.Str} (h : ∀ j, j < l.length → (l.getD j ([], 0)).1 ≠ s) : Dk.look l s = none := by
  rw [Dk.look_none]
  intro y hy
  obtain ⟨j, hj, rfl⟩ := List.getElem_of_mem hy
  have := h j hj
  rwa [List.getD, List.getElem?_eq_getElem hj] at this
theorem Dk.getD_at {l : Dk.Dir} {k : Nat} (h : k < l.length) : l[k]? = some (l.getD k ([], 0)) := by
  rw [List.getD, List.getElem?_eq_getElem h]
  rfl
/-- What 'at' answers. -/
def Dk.Where (l : Dk.Dir) (s : Dk.Str) (e : Ending) : Prop :=
  (∃ i f : Nat, i < l.length ∧ l[i]? = some (s, f) ∧ Dk.look l s = some f ∧ e = .returned (.int .i64 (i : Int))) ∨ (Dk.look l s = none ∧ e = .returned (.int .i64 (-1)))
set_option maxHeartbeats 1000000 in
set_option maxRecDepth 100000 in
theorem Dk.rat_c {P : Nat → Prop} (v : Value) (l : Dk.Dir) (s : Dk.Str) (w : World) (hv : Dk.Dat P w v l) (hn : l.length ≤ 1048576) :
    Calls Try.prog 48 #[v, .string (Ty.S s)] w fun e w' => Dk.Where l s e ∧ w' = w := by
  obtain ⟨a, c, rfl, _, h⟩ := hv
  have HH := Lib.hid h
  obtain ⟨n, hnn⟩ : ∃ n, n = l.length := ⟨_, rfl⟩
  rw [← hnn] at hn ⊢
  have HN := Lib.hid hnn
  clear h hnn
  go_enter Try.func48, Try.ntmps48
  go_wp2
  go_loop [5] (fun i => ∃ k : Nat, k ≤ n ∧ i = .int .i64 k ∧ (∀ j, j < k → (l.getD j ([], 0)).1 ≠ s)) (fun i => n - (intOf i).toNat)
  case atStart => exact ⟨0, by omega, rfl, fun j hj => by omega⟩
  case round =>
    obtain ⟨k, hk, rfl, hp⟩ := hrel
    have HP := Lib.hid hp
    clear hp
    by_cases hl : k < n
    · rcases HH.out with h | ⟨b, o, cs, fr, rfl, _, _, h⟩
      · exact absurd hl (by rw [HN.out, h.1]; simp)
      · have hkx := Dk.getD_at (l := l) (k := k) (by rw [← HN.out]; exact hl)
        have hc : w.cell? ⟨b, o + k * 2, none⟩ = some (.string (Ty.S (l.getD k ([], 0)).1)) := h k 0 _ hkx (by omega)
        have dk : (k : Int) < (n : Int) := by omega
        have dk0 : (0 : Int) ≤ (k : Int) := by omega
        have dk2 : (k : Int) < 140737488355328 := by omega
        by_cases he : (l.getD k ([], 0)).1 = s
        · have HE : Hid (Dk.Where l s (.returned (.int .i64 (k : Int)))) := Lib.hid (.inl ⟨k, (l.getD k ([], 0)).2, by rw [← HN.out]; exact hl, by rw [hkx, ← he], Dk.look_at l k s _ HP.out (by rw [hkx, ← he]), rfl⟩)
          have hx := Tx.S_yes s
          rw [he] at hc
          generalize Ty.S s = sb at hc hx ⊢
          clear h hn he hkx
          go_wp2
          go_ret
          exact ⟨HE.out, rfl⟩
        · have HE := Lib.hid he
          have hx := Tx.S_no he
          generalize Ty.S s = sb at hc hx ⊢
          generalize Ty.S (l.getD k ([], 0)).1 = s2 at hc hx ⊢
          clear h hn he hkx
          go_wp2
          go_round
          case rel => exact ⟨k + 1, by omega, by simp, fun j hj => by
            by_cases e : j = k
            · rw [e]; exact HE.out
            · exact HP.out j (by omega)⟩
          case measure => simp [intOf]; omega
    · obtain rfl : k = n := by omega
      have dk : ¬ (k : Int) < (k : Int) := by omega
      have HE : Hid (Dk.Where l s (.returned (.int .i64 (-1)))) := Lib.hid (.inr ⟨Dk.look_out (fun j hj => HP.out j (by rw [HN.out]; exact hj)), rfl⟩)
      go_wp2
      go_ret
      exact ⟨HE.out, rfl⟩
theorem Dk.wo_next {l : Dk.Dir} {k : Nat} (h : k < l.length) (s : Dk.Str) : Dk.wo (l.take (k + 1)) s = if (l.getD k ([], 0)).1 = s then Dk.wo (l.take k) s else Dk.wo (l.take k) s ++ [l.getD k ([], 0)] := by
  have e : l.take (k + 1) = l.take k ++ [l.getD k ([], 0)] := by
    rw [List.take_succ_eq_append_getElem h, List.getD, List.getElem?_eq_getElem h]
    rfl
  rw [e]
  generalize l.getD k ([], 0) = X
  unfold Dk.wo
  rw [List.filter_append, List.filter_cons]
  by_cases hx : X.1 = s
  · rw [if_pos hx, if_neg (by simp [hx])]; simp
  · rw [if_neg hx, if_pos (by simpa using hx)]; simp
set_option maxHeartbeats 1000000 in
set_option maxRecDepth 100000 in
theorem Dk.rwithout_c {P : Nat → Prop} (v : Value) (l : Dk.Dir) (s : Dk.Str) (w : World) (hv : Dk.Dat P w v l) (hn : l.length ≤ 1048576) :
    Calls Try.prog 73 #[v, .string (Ty.S s)] w fun e w' => ∃ u, e = .returned u ∧ Dk.Down w.heap.size w' u (Dk.wo l s) ∧ Below w.heap.size w w' := by
  obtain ⟨a, c, rfl, _, h⟩ := hv
  have HH := Lib.hid h
  obtain ⟨n, hnn⟩ : ∃ n, n = l.length := ⟨_, rfl⟩
  rw [← hnn] at hn ⊢
  have HN := Lib.hid hnn
  clear h hnn
  go_enter Try.func73, Try.ntmps73
  go_wp2
  go_loopw [5, 6] (fun ov i wr => ∃ k : Nat, k ≤ n ∧ i = .int .i64 k ∧ Dk.Down w.heap.size wr ov (Dk.wo (l.take k) s) ∧ Below w.heap.size w wr) (fun _ i _ => n - (intOf i).toNat)
  case atStart => exact ⟨0, by omega, rfl, Dk.Own.nil _ _, Below.refl _ _⟩
  case round =>
    obtain ⟨k, hk, rfl, hO, hb⟩ := hrel
    have HO := Lib.hid hO
    have HB := Lib.hid hb
    have hws := hb.size
    clear hO
    by_cases hl : k < n
    · rcases HH.out with h | ⟨b, o, cs, fr, rfl, _, hbl, h⟩
      · exact absurd hl (by rw [HN.out, h.1]; simp)
      · have hkl : k < l.length := by rw [← HN.out]; exact hl
        have hkx := Dk.getD_at (l := l) (k := k) hkl
        have hbw : b < w.heap.size := lt_of_block hbl
        have hc : wr.cell? ⟨b, o + k * 2, none⟩ = some (.string (Ty.S (l.getD k ([], 0)).1)) := (hb.cell (p := ⟨b, o + k * 2, none⟩) hbw).trans (h k 0 _ hkx (by omega))
        have hc1 : wr.cell? ⟨b, o + k * 2 + 1, none⟩ = some (.int .i64 ((l.getD k ([], 0)).2 : Int)) := (hb.cell (p := ⟨b, o + k * 2 + 1, none⟩) hbw).trans (h k 1 _ hkx (by omega))
        have dk : (k : Int) < (n : Int) := by omega
        have dk0 : (0 : Int) ≤ (k : Int) := by omega
        have dk2 : (k : Int) < 140737488355328 := by omega
        have HNX := Lib.hid (Dk.wo_next hkl s)
        have hml : (Dk.wo (l.take k) s).length ≤ k := Nat.le_trans (Dk.len_wo _ _) (List.length_take_le _ _)
        clear h hbl hkx hkl
        generalize hX : l.getD k ([], 0) = X at hc hc1 HNX
        obtain ⟨t, f⟩ := X
        simp only at hc hc1
        clear hX
        by_cases he : t = s
        · have HE : Hid (Dk.wo (l.take (k + 1)) s = Dk.wo (l.take k) s) := Lib.hid (HNX.out.trans (if_pos he))
          have hx := Tx.S_yes s
          rw [he] at hc
          generalize Ty.S s = sb at hc hx ⊢
          clear hn he HNX hml hb
          go_wp2
          go_roundw
          case rel => exact ⟨k + 1, by omega, by simp, by rw [HE.out]; exact HO.out, HB.out⟩
          case measure => simp [intOf]; omega
        · have HE : Hid (Dk.wo (l.take (k + 1)) s = Dk.wo (l.take k) s ++ [(t, f)]) := Lib.hid (HNX.out.trans (if_neg he))
          have hx := Tx.S_no he
          have HCS : Hid (#[Value.string (Ty.S t), .int .i64 (f : Int)] = (Dk.encN (t, f)).toArray) := Lib.hid rfl
          generalize Ty.S s = sb at hc hx ⊢
          generalize Ty.S t = s2 at hc hx HCS ⊢
          have hO := HO.out
          clear he HNX hb
          go_wp2_with (at_builtin; refine Dk.wpList_append1 64 _ 24 Try.underlying64 Dk.infoN rfl (by decide) Dk.encN_len Dk.encN_one (t, f) hO hws (by omega) (by omega) _ rfl _ HCS.out (.tmp 20) (.tmp 25) (by rfl) (by rfl) (by rfl) (by rfl) ?_; intro v3 w3 h3 g3)
          have HO3 := Lib.hid h3
          have HB3 := Lib.hid (Dk.own_below HB.out hO g3)
          clear h3 g3 hO hn hml
          go_wp2
          go_roundw
          case rel => exact ⟨k + 1, by omega, by simp, by rw [HE.out]; exact HO3.out, HB3.out⟩
          case measure => simp [intOf]; omega
    · obtain rfl : k = n := by omega
      have dk : ¬ (k : Int) < (k : Int) := by omega
      have HE : Hid (Dk.wo (l.take k) s = Dk.wo l s) := Lib.hid (by rw [HN.out, List.take_length])
      clear hb hn
      go_wp2
      go_ret
      exact ⟨_, rfl, by rw [← HE.out]; exact HO.out, HB.out⟩
end Go.Proofs.Ytfkdkdkdpenblaa
