/-
  The laws of skip: of each key the newest; unlike keys in whatever order.
-/
import Derived.Test.YtfjhffldhpcdmaaDoorZAN
namespace Go.Proofs.YtfjhffldhpcdmaaDoor
open Go Go.RowKit
theorem Sk.pe_asc {M : List Sk.E} (h : Sk.Asc Sk.ke M) (x : Sk.E) : Sk.Asc Sk.ke (Sk.pe M x) := by
  unfold Sk.pe
  split
  · exact h
  · exact Sk.put_asc h x
theorem Sk.puts_asc (L : List Sk.E) : Sk.Asc Sk.ke (Sk.puts L) := by
  have h : ∀ (L M : List Sk.E), Sk.Asc Sk.ke M → Sk.Asc Sk.ke (L.foldl Sk.pe M) := by
    intro L
    induction L with
    | nil => intro M h; exact h
    | cons x L ih => intro M h; exact ih _ (Sk.pe_asc h x)
  exact h L [] List.Pairwise.nil
/-- The newest of x's key among those from number i on, so many of them looked at. -/
def Sk.nw (L : List Sk.E) (x : Sk.E) (i : Nat) : Nat → Sk.E
  | 0 => x
  | j + 1 => match L[i + j]? with
    | some y => if (!y.row.isEmpty && Kn.cmp (Sk.ke y) (Sk.ke x) == 0) = true then y else Sk.nw L x i j
    | none => Sk.nw L x i j
theorem Sk.nw_step {L : List Sk.E} {x y : Sk.E} {i j : Nat} (h : L[i + j]? = some y) : Sk.nw L x i (j + 1) = if (!y.row.isEmpty && Kn.cmp (Sk.ke y) (Sk.ke x) == 0) = true then y else Sk.nw L x i j := by
  rw [Sk.nw, h]
theorem Sk.get_nw {L : List Sk.E} {i : Nat} {x : Sk.E} (hx : L[i]? = some x) (hne : x.row ≠ []) : ∀ j, i + 1 + j ≤ L.length → Sk.get Sk.ke (Sk.puts (L.take (i + 1 + j))) (Sk.ke x) = some (Sk.nw L x i (j + 1))
  | 0, h => by
    have he : x.row.isEmpty = false := by simpa using hne
    rw [Nat.add_zero, Sk.puts_step hx, Sk.nw_step (j := 0) (y := x) (by rw [Nat.add_zero]; exact hx)]
    unfold Sk.pe
    rw [if_neg (by simp [he]), Sk.get_put (Sk.puts_asc _), if_pos (Sk.cmp_self _)]
    simp [he, Sk.cmp_self]
  | j + 1, h => by
    have hy : L[i + 1 + j]? = some (L[i + 1 + j]'(by omega)) := List.getElem?_eq_getElem _
    generalize L[i + 1 + j]'(by omega) = y at hy
    rw [← Nat.add_assoc, Sk.puts_step hy, Sk.nw_step (j := j + 1) (y := y) (by rw [← hy]; congr 1; omega)]
    have ih := Sk.get_nw hx hne j (by omega)
    unfold Sk.pe
    by_cases he : y.row.isEmpty = true
    · rw [if_pos he, ih, if_neg (by simp [he])]
    · have he' : y.row.isEmpty = false := by simpa using he
      rw [if_neg he, Sk.get_put (Sk.puts_asc _)]
      by_cases hc : Kn.cmp (Sk.ke y) (Sk.ke x) = 0
      · rw [if_pos hc, if_pos (by simp [he', hc])]
      · rw [if_neg hc, ih, if_neg (by simp [hc])]
theorem Sk.get_newest {L : List Sk.E} {i : Nat} {x : Sk.E} (hx : L[i]? = some x) (hne : x.row ≠ []) : Sk.get Sk.kd ((Sk.puts L).map Sk.E.d) (Sk.ke x) = some (Sk.nw L x i (L.length - i)).d := by
  have hi := (List.getElem?_eq_some_iff.1 hx).1
  have h := Sk.get_nw hx hne (L.length - i - 1) (by omega)
  rw [show i + 1 + (L.length - i - 1) = L.length by omega, show L.length - i - 1 + 1 = L.length - i by omega, List.take_length] at h
  rw [Sk.map_get (key := Sk.ke) Sk.E.d Sk.kd (fun _ => rfl), h]
  rfl
/-- Unlike keys. -/
def Sk.Un (L : List Sk.E) : Prop := L.Pairwise fun x y => x.row ≠ [] → y.row ≠ [] → Kn.cmp (Sk.ke x) (Sk.ke y) ≠ 0
theorem Sk.Un.reverse {L : List Sk.E} (h : Sk.Un L) : Sk.Un L.reverse := by
  unfold Sk.Un
  rw [List.pairwise_reverse]
  refine h.imp fun {a b} g ha hb => ?_
  have := g hb ha
  have := Sk.cmp_anti (Sk.ke a) (Sk.ke b)
  omega
theorem Sk.mem_puts {L : List Sk.E} (h : Sk.Un L) : ∀ i, i ≤ L.length → ∀ y, y ∈ Sk.puts (L.take i) ↔ y ∈ L.take i ∧ y.row ≠ []
  | 0, _, y => by simp [Sk.puts]
  | i + 1, hi, y => by
    have hx : L[i]? = some (L[i]'(by omega)) := List.getElem?_eq_getElem _
    generalize L[i]'(by omega) = x at hx
    have ih := Sk.mem_puts h i (by omega)
    rw [Sk.puts_step hx, List.take_add_one, hx]
    simp only [Option.toList_some, List.mem_append, List.mem_singleton]
    unfold Sk.pe
    by_cases he : x.row = []
    · rw [if_pos (by simp [he]), ih]
      constructor
      · rintro ⟨h1, h2⟩; exact ⟨.inl h1, h2⟩
      · rintro ⟨h1 | h1, h2⟩
        · exact ⟨h1, h2⟩
        · exact absurd (h1 ▸ he) h2
    · rw [if_neg (by simp [he]), Sk.mem_put (Sk.puts_asc _), ih]
      constructor
      · rintro (h1 | ⟨⟨h1, h2⟩, _⟩)
        · exact ⟨.inr h1, h1 ▸ he⟩
        · exact ⟨.inl h1, h2⟩
      · rintro ⟨h1 | h1, h2⟩
        · refine .inr ⟨⟨h1, h2⟩, ?_⟩
          obtain ⟨k, hk, e⟩ := List.getElem_of_mem h1
          rw [List.length_take] at hk
          have hk' : L[k]? = some y := by rw [← e, List.getElem_take]; exact List.getElem?_eq_getElem _
          have := List.pairwise_iff_getElem.1 h k i (by omega) (by omega) (by omega)
          obtain ⟨_, e1⟩ := List.getElem?_eq_some_iff.1 hk'
          obtain ⟨_, e2⟩ := List.getElem?_eq_some_iff.1 hx
          rw [e1, e2] at this
          exact this h2 he
        · exact .inl h1
theorem Sk.puts_reverse {L : List Sk.E} (h : Sk.Un L) : Sk.puts L.reverse = Sk.puts L := by
  refine Sk.asc_ext (Sk.puts_asc _) (Sk.puts_asc _) fun y => ?_
  have h1 := Sk.mem_puts h L.length (Nat.le_refl _) y
  have h2 := Sk.mem_puts h.reverse L.reverse.length (Nat.le_refl _) y
  rw [List.take_length] at h1 h2
  rw [h1, h2, List.mem_reverse]
/-- The key of a deed that came in. -/
theorem Sk.Got.key {w : World} {v : Value} {l r : List Kn.V} {k : Kn.V} (h : Sk.Got w v l) (hl : l = k :: r) : ∃ g go c, v = .slice (some ⟨g, go, none⟩) l.length c ∧ g < w.heap.size ∧ Kn.At w g go k ∧ Kn.Z k := by
  obtain ⟨a, c, hv, h⟩ := h
  obtain ⟨a', c', hv', hz, _, h'⟩ := h (by simp [hl])
  rcases h' with ⟨_, _, h0⟩ | ⟨b, o, ha, hb, hc⟩
  · rw [hl] at h0; cases h0
  · have := hc 0 k (by rw [hl]; rfl)
    rw [Nat.zero_mul, Nat.add_zero] at this
    exact ⟨b, o, c', by rw [hv', ha], hb, this, hz k (by simp [hl])⟩
/-- The key of a deed whose row a call made. -/
theorem Sk.Rw.key {B : Nat} {w : World} {v : Value} {l r : List Kn.V} {k : Kn.V} (h : Sk.Rw B w v l) (hl : l = k :: r) : ∃ g c, v = .slice (some ⟨g, 0, none⟩) l.length c ∧ B ≤ g ∧ g < w.heap.size ∧ Kn.At w g 0 k := by
  rcases h.form with ⟨_, e⟩ | ⟨g, c, rfl, _, _, hb, hg⟩
  · rw [hl] at e; cases e
  · have hx : l[0]? = some k := by rw [hl]; rfl
    exact ⟨g, c, rfl, hb, hg, ⟨h.cell Sk.ve_len (g := g) rfl hx (j := 0) (by decide), h.cell Sk.ve_len (g := g) rfl hx (j := 1) (by decide), h.cell Sk.ve_len (g := g) rfl hx (j := 2) (by decide)⟩⟩
theorem Sk.PD.z {B : Nat} {S : Nat → Prop} {w : World} {p : Nat} {L : List Dd.D} (h : Sk.PD B S w p L) : ∀ d ∈ L, Kn.Z (Sk.kd d) := fun d hd => by
  obtain ⟨⟨N, hN, rfl⟩, _⟩ := h
  obtain ⟨x, hx, rfl⟩ := List.mem_map.1 hd
  obtain ⟨_, hne, hz, _⟩ := hN.rows x hx
  cases hr : x.row with
  | nil => exact absurd hr hne
  | cons k r =>
    have : Sk.kd x.d = k := by unfold Sk.kd; rw [show x.d.row = k :: r from hr]; rfl
    rw [this]
    exact hz k (by rw [hr]; exact List.mem_cons_self)
theorem Sk.kd_row' {x : Sk.E} {k : Kn.V} {r : List Kn.V} (h : x.row = k :: r) : Sk.ke x = k := by unfold Sk.ke Sk.kd; rw [show x.d.row = k :: r from h]; rfl
end Go.Proofs.YtfjhffldhpcdmaaDoor
