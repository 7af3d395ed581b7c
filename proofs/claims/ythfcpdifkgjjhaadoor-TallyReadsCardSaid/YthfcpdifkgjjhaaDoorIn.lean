/-
  A slice of bytes that came in: what it converts to, what is appended of it to a nil slice.
-/
import Derived.Test.YthfcpdifkgjjhaaDoorL3
import Derived.Laws.AppendOwnNone
namespace Go.Proofs.YthfcpdifkgjjhaaDoor
open Go.RowKit
/-- THE SLICE v HOLDS THE BYTES bs, somewhere. -/
def Ty.InB (w : World) (v : Value) (bs : List UInt8) : Prop :=
  (v = .slice none 0 0 ∧ bs = []) ∨ ∃ ad c, v = .slice (some ad) bs.length c ∧ ∀ j u, (bs.map Ty.B)[j]? = some u → w.cell? (ad.add j) = some u
theorem Ty.addr_block (ad : Addr) (j : Nat) : (ad.add j).block = ad.block := by unfold Addr.add; split <;> rfl
theorem Ty.InB.later {w w' : World} {v : Value} {bs : List UInt8} (h : Ty.InB w v bs) (hb : Below w.heap.size w w') : Ty.InB w' v bs := by
  rcases h with h | ⟨ad, c, rfl, hc⟩
  · exact .inl h
  · refine .inr ⟨ad, c, rfl, fun j u hu => ?_⟩
    have h1 := hc j u hu
    have := World.block_lt_of_cell? w _ h1
    rw [hb.cell (p := ad.add j) this]
    exact h1
theorem Ty.InB.str {w : World} {v : Value} {bs : List UInt8} (h : Ty.InB w v bs) : (convert 22 9 v).run Tryd.prog w = .ok (.string (Ty.S bs)) w := by
  rcases h with ⟨rfl, rfl⟩ | ⟨ad, c, rfl, hc⟩
  · exact run_convert_bytes_nil w _ _ Tryd.underlying22 Tryd.underlying5 0 0 _ Tryd.underlying9
  · have hl : (loadCells ad bs.length).run Tryd.prog w = .ok ((bs.map fun u => (u.toNat : Int)).map (Value.int .u8)).toArray w := by
      have := run_loadCells_list (P := Tryd.prog) w ad (bs.map Ty.B) hc
      rw [List.length_map] at this
      rw [List.map_map]
      exact this
    rw [run_convert_bytes_string w _ _ _ _ _ c Tryd.underlying22 Tryd.underlying5 Tryd.underlying9, run_bytesToString w ad bs.length c _ hl, foldl_push_bytes]
    have e : (bs.map fun u => (u.toNat : Int)).map (fun n => UInt8.ofNat n.toNat) = bs := by
      rw [List.map_map]
      conv => rhs; rw [← List.map_id bs]
      apply List.map_congr_left
      intro u _
      simp
    rw [e]
    have e2 : (ByteArray.empty.data ++ bs.toArray) = bs.toArray := by
      simp [ByteArray.empty, ByteArray.emptyWithCapacity]
      rfl
    rw [e2]
    rfl
/-- 'append([]byte(nil), b...)': the walk's law. -/
theorem Ty.wpList_append_in {w : World} {v : Value} {bs : List UInt8} (hin : Ty.InB w v bs) (hl : bs.length ≤ 140737488355328)
    {ops : Array Oper} {rest : List Oper} {o : Oper} {a : Act} {Q : Exit → Act → World → Prop} (s x : Operand) (hgd : o.guard = none)
    (ho : o.op = .call { callee := .builtin .append, args := #[s, x], argTypes := #[22, 22] })
    (hs : a.eval s = .slice none 0 0) (hx : a.eval x = v)
    (h : ∀ v' w', Ty.Buf w.heap.size w' v' bs → w.grownBy w' none → wpList Tryd.prog ops Q rest (a.put o.dst v') w') :
    wpList Tryd.prog ops Q (o :: rest) a w := by
  obtain ⟨i0, hi, hz0, hz1, hz2⟩ := info_parts Ty.info8
  rcases hin with ⟨rfl, rfl⟩ | ⟨ad, c, rfl, hc⟩
  · exact wpList_append_own_none hgd s x 22 ho w.heap.size 5 i0 1 Tryd.underlying22 hi _ 0 [] hs (World.ownsRow_nil w _ _ 1) hx (h _ _ (Ty.Buf.nil _ _) (Ty.by_refl _ _))
  · refine Ty.wpList_append_tight _ hgd s x 22 ho w.heap.size 5 i0 (.int .u8 0) 1 1 Tryd.underlying22 hi hz0 hz1 hz2 rfl (by decide) _ 0 [] hs (World.ownsRow_nil w _ _ 1) ad bs.length c (bs.map Ty.B) hx (by simp) hc
      (fun u hu => by obtain ⟨b, _, rfl⟩ := List.mem_map.1 hu; rfl) (by unfold maxLen; omega) (by omega) (Nat.le_refl _) fun v' w' h1 h2 => h v' w' ?_ h2.by_
    unfold Ty.Buf
    simpa using h1
end Go.Proofs.YthfcpdifkgjjhaaDoor
