/-
  Contracts of package tally: the cursor's methods Int, Text, Byte, Done; a cursor that isn't there.
-/
import Derived.Test.YtccjfmjgkkpndaaDoorW6
namespace Go.Proofs.YtccjfmjgkkpndaaDoor
open Go.RowKit
theorem Ty.rdU_u64 (l : List UInt8) (e : Nat) : Ty.U64 (Ty.rdU l e).1 := by
  unfold Ty.rdU
  split
  · show (0 : Nat) < 2 ^ 64; omega
  · exact Ty.num_u64 l
set_option maxHeartbeats 400000 in
theorem Ty.cint_c (b : Nat) (l : List UInt8) (er : Nat) (w : World) (hw : Ty.Tabs w) (h : Ty.Cur b w l er) (hl : l.length ≤ 9223372036854775807) :
    Calls Tryd.prog 56 #[.pointer (some ⟨b, 0, none⟩)] w (Ty.Left b w (.int .i64 (Ty.zag ((Ty.rdU l er).1 : Int))) (Ty.rdU l er).2.1 (Ty.rdU l er).2.2) := by
  have hu := Ty.rdU_u64 l er
  go_enter Tryd.func56, Tryd.ntmps56
  go_wp2_with fail
  refine (Ty.cuint_c b l er _ hw h hl).mono ?_
  rintro e w1 ⟨rfl, hc, hg⟩
  go_wp2_with fail
  refine (Ty.signed_nat _ _ hu).mono ?_
  rintro e w2 ⟨rfl, rfl⟩
  go_wp2
  go_ret
  exact ⟨rfl, hc, hg⟩
set_option maxHeartbeats 400000 in
theorem Ty.ctext_c (b : Nat) (l : List UInt8) (er : Nat) (most : Int) (hm : -9223372036854775808 ≤ most ∧ most ≤ 9223372036854775807) (w : World) (hw : Ty.Tabs w) (h : Ty.Cur b w l er) (hl : l.length ≤ 9223372036854775807) :
    Calls Tryd.prog 55 #[.pointer (some ⟨b, 0, none⟩), .int .i64 most] w (Ty.Left b w (.string (Ty.S (Ty.rdT most l er).1)) (Ty.rdT most l er).2.1 (Ty.rdT most l er).2.2) := by
  obtain ⟨c0, c1, f0, f1⟩ := h.cells
  by_cases he : er = 0
  · subst he
    have hsz := Ty.txt_size l most
    have HR : Hid (Ty.rdT most l 0 = ((Ty.txt l most).1, l.drop (Ty.txt l most).2.1, (Ty.txt l most).2.2)) := Lib.hid (by simp [Ty.rdT])
    rw [HR.out]
    go_enter Tryd.func55, Tryd.ntmps55
    go_wp2_with fail
    refine (Ty.err_c b l 0 _ h).mono ?_
    rintro e w' ⟨rfl, rfl⟩
    go_wp2_with fail
    refine (Ty.text_r (Ty.S l) most _ hw hl hm).mono ?_
    rintro e w2 ⟨rfl, rfl⟩
    unfold Ty.txtV
    rw [Ty.data_S]
    go_wp2_with fail
    refine (Ty.advance_c b l 0 _ _ _ h hsz hl).mono ?_
    rintro e w3 ⟨rfl, hc, hg⟩
    go_wp2
    go_ret
    exact ⟨rfl, hc, hg⟩
  · have hne : ((er : Int) != 0) = true := by rw [bne_iff_ne]; omega
    have HR : Hid (Ty.rdT most l er = ([], l, er)) := Lib.hid (by simp [Ty.rdT, he])
    rw [HR.out]
    clear he
    go_enter Tryd.func55, Tryd.ntmps55
    go_wp2_with fail
    refine (Ty.err_c b l er _ h).mono ?_
    rintro e w' ⟨rfl, rfl⟩
    go_wp2
    go_ret
    exact ⟨rfl, h, Ty.by_refl _ _⟩
set_option maxHeartbeats 400000 in
theorem Ty.cbyte_c (b : Nat) (l : List UInt8) (er : Nat) (w : World) (h : Ty.Cur b w l er) (hl : l.length ≤ 9223372036854775807) :
    Calls Tryd.prog 53 #[.pointer (some ⟨b, 0, none⟩)] w (Ty.Left b w (.int .i64 ((Ty.rdB l er).1 : Int)) (Ty.rdB l er).2.1 (Ty.rdB l er).2.2) := by
  obtain ⟨c0, c1, f0, f1⟩ := h.cells
  by_cases he : er = 0
  · subst he
    cases l with
    | nil =>
      have hemp : (Ty.S []).toList.isEmpty = true := by rw [ByteArray.toList_eq]; rfl
      go_enter Tryd.func53, Tryd.ntmps53
      go_wp2_with fail
      refine (Ty.err_c b [] 0 _ h).mono ?_
      rintro e w' ⟨rfl, rfl⟩
      go_wp2
      go_ret
      exact ⟨rfl, Ty.two_set1 h, Ty.by_set _ _ _ _⟩
    | cons x r =>
      have hp : 0 < (Ty.S (x :: r)).size := by rw [Ty.size_S]; simp
      have hemp : (Ty.S (x :: r)).toList.isEmpty = false := Ty.isEmpty_pos _ hp
      go_enter Tryd.func53, Tryd.ntmps53
      go_wp2_with fail
      refine (Ty.err_c b (x :: r) 0 _ h).mono ?_
      rintro e w' ⟨rfl, rfl⟩
      go_wp2_with fail
      refine (Ty.advance_c b (x :: r) 0 1 0 _ h (by simp) hl).mono ?_
      rintro e w3 ⟨rfl, hc, hg⟩
      go_wp2
      go_ret
      exact ⟨Ty.ret_i ((IntWalk.wrap64_in _ (by have := (Ty.S (x :: r))[0].toNat_lt; omega)).trans rfl), hc, hg⟩
  · have hne : ((er : Int) != 0) = true := by rw [bne_iff_ne]; omega
    have HR : Hid (Ty.rdB l er = (0, l, er)) := Lib.hid (by simp [Ty.rdB, he])
    rw [HR.out]
    clear he
    go_enter Tryd.func53, Tryd.ntmps53
    go_wp2_with fail
    refine (Ty.err_c b l er _ h).mono ?_
    rintro e w' ⟨rfl, rfl⟩
    go_wp2
    go_ret
    exact ⟨rfl, h, Ty.by_refl _ _⟩
/-- What Done returns. -/
def Ty.fin (l : List UInt8) (e : Nat) : Nat := if e = 0 ∧ l ≠ [] then 5 else e
set_option maxHeartbeats 400000 in
theorem Ty.done_c (b : Nat) (l : List UInt8) (er : Nat) (w : World) (h : Ty.Cur b w l er) :
    Calls Tryd.prog 44 #[.pointer (some ⟨b, 0, none⟩)] w fun e w' => e = .returned (.int .i64 (Ty.fin l er : Int)) ∧ w' = w := by
  by_cases he : er = 0
  · subst he
    by_cases hl : (0 : Int) < l.length
    · have HF : Hid (Ty.fin l 0 = 5) := Lib.hid (by unfold Ty.fin; rw [if_pos ⟨rfl, by intro e; subst e; simp at hl⟩])
      go_enter Tryd.func44, Tryd.ntmps44
      go_wp2_with fail
      refine (Ty.err_c b l 0 _ h).mono ?_
      rintro e w' ⟨rfl, rfl⟩
      go_wp2_with fail
      refine (Ty.left_c b l 0 _ h).mono ?_
      rintro e w' ⟨rfl, rfl⟩
      go_wp2
      go_ret
      exact ⟨by rw [HF.out]; rfl, rfl⟩
    · have HF : Hid (Ty.fin l 0 = 0) := Lib.hid (by unfold Ty.fin; rw [if_neg (by rintro ⟨_, h2⟩; exact h2 (List.eq_nil_of_length_eq_zero (by omega)))])
      go_enter Tryd.func44, Tryd.ntmps44
      go_wp2_with fail
      refine (Ty.err_c b l 0 _ h).mono ?_
      rintro e w' ⟨rfl, rfl⟩
      go_wp2_with fail
      refine (Ty.left_c b l 0 _ h).mono ?_
      rintro e w' ⟨rfl, rfl⟩
      go_wp2_with fail
      refine (Ty.err_c b l 0 _ h).mono ?_
      rintro e w' ⟨rfl, rfl⟩
      go_wp2
      go_ret
      exact ⟨by rw [HF.out]; rfl, rfl⟩
  · have hne : ((er : Int) == 0) = false := by rw [beq_eq_false_iff_ne]; omega
    have HF : Hid (Ty.fin l er = er) := Lib.hid (by unfold Ty.fin; rw [if_neg (by rintro ⟨h1, _⟩; exact he h1)])
    clear he
    go_enter Tryd.func44, Tryd.ntmps44
    go_wp2_with fail
    refine (Ty.err_c b l er _ h).mono ?_
    rintro e w' ⟨rfl, rfl⟩
    go_wp2_with fail
    refine (Ty.err_c b l er _ h).mono ?_
    rintro e w' ⟨rfl, rfl⟩
    go_wp2
    go_ret
    exact ⟨by rw [HF.out]; rfl, rfl⟩
set_option maxHeartbeats 400000 in
theorem Ty.cuint_nil (w : World) : Calls Tryd.prog 68 #[.pointer none] w fun e w' => e = .returned (.int .u64 0) ∧ w' = w := by
  go_enter Tryd.func68, Tryd.ntmps68
  go_wp2_with fail
  refine (Ty.err_nil _).mono ?_
  rintro e w' ⟨rfl, rfl⟩
  go_wp2
  go_ret
  exact ⟨rfl, rfl⟩
set_option maxHeartbeats 400000 in
theorem Ty.cint_nil (w : World) : Calls Tryd.prog 56 #[.pointer none] w fun e w' => e = .returned (.int .i64 0) ∧ w' = w := by
  go_enter Tryd.func56, Tryd.ntmps56
  go_wp2_with fail
  refine (Ty.cuint_nil _).mono ?_
  rintro e w' ⟨rfl, rfl⟩
  go_wp2_with fail
  refine (Ty.signed_c 0 (by omega) _ (by show (0 : Nat) < 2 ^ 64; omega)).mono ?_
  rintro e w' ⟨rfl, rfl⟩
  go_wp2
  go_ret
  exact ⟨rfl, rfl⟩
set_option maxHeartbeats 400000 in
theorem Ty.ctext_nil (most : Int) (w : World) : Calls Tryd.prog 55 #[.pointer none, .int .i64 most] w fun e w' => e = .returned (.string (Ty.S [])) ∧ w' = w := by
  go_enter Tryd.func55, Tryd.ntmps55
  go_wp2_with fail
  refine (Ty.err_nil _).mono ?_
  rintro e w' ⟨rfl, rfl⟩
  go_wp2
  go_ret
  exact ⟨rfl, rfl⟩
set_option maxHeartbeats 400000 in
theorem Ty.cbyte_nil (w : World) : Calls Tryd.prog 53 #[.pointer none] w fun e w' => e = .returned (.int .i64 0) ∧ w' = w := by
  go_enter Tryd.func53, Tryd.ntmps53
  go_wp2_with fail
  refine (Ty.err_nil _).mono ?_
  rintro e w' ⟨rfl, rfl⟩
  go_wp2
  go_ret
  exact ⟨rfl, rfl⟩
set_option maxHeartbeats 400000 in
theorem Ty.done_nil (w : World) : Calls Tryd.prog 44 #[.pointer none] w fun e w' => e = .returned (.int .i64 1) ∧ w' = w := by
  go_enter Tryd.func44, Tryd.ntmps44
  go_wp2_with fail
  refine (Ty.err_nil _).mono ?_
  rintro e w' ⟨rfl, rfl⟩
  go_wp2_with fail
  refine (Ty.err_nil _).mono ?_
  rintro e w' ⟨rfl, rfl⟩
  go_wp2
  go_ret
  exact ⟨rfl, rfl⟩
end Go.Proofs.YtccjfmjgkkpndaaDoor
