/- CalendarGroups: for every calendar number, every field, every list of day numbers, cyclic or not, the law returns true, and its argument reads as it did. No conditions. -/
import Derived.Test.YthpeaeepcbbfcaaLiftB
import Derived.Test.YthpeaeepcbbfcaaLiftD
import Derived.Test.YthpeaeepcbbfcaaGc
namespace Go.Proofs.Ythpeaeepcbbfcaa
open Go.ChangeShapes Go.WideShapes Go.ChangeAt Go.RowKit

theorem groups_readable : ∀ t ∈ Try.f9.params.toList, Try.prog.readableRec t = true := by
  rw [Try.params9]
  intro t ht
  have ht : t ∈ [52] := ht
  simp only [List.mem_cons, List.not_mem_nil, or_false] at ht
  rcases ht with rfl
  · exact readable52
theorem groups_inTypes : ∀ t ∈ Try.f9.params.toList, t < Try.prog.types.size := by
  rw [Try.params9]
  intro t ht
  have ht : t ∈ [52] := ht
  simp only [List.mem_cons, List.not_mem_nil, or_false] at ht
  rcases ht with rfl
  · exact inTypes52

set_option maxRecDepth 100000 in
theorem groups_lifted (os : Os) (started : os.Started) (H : Type) (enc : TypeId × Value → H) :
    ReturnsInHanded {} Try.checked os 9 .any (Rows.calendarGroupsSpec.pre6 enc Try.prog Try.f9 Rows.calendarGroupsRow.domain false) (Rows.calendarGroupsSpec.post enc Try.prog Try.f9 false true false false) := by
  refine returnsInHanded_of_change (C := Try.checked) own started (by kernel_rfl) Try.func9
    (ChangeSpec.witness6 (enc := enc) (C := Try.checked) false ⟨#[], #[.agg #[.int .i64 0, .int .i64 0, .slice none 0 0, .bool false]], []⟩ 8 (by kernel_rfl) (by kernel_rfl) (by kernel_rfl) (by kernel_rfl)) ?_
  intro W base args ds gs before hval0 hW hcnd _
  have hval : ∀ (j : Nat) t v, Try.f9.params[j]? = some t → args[j]? = some v → Value.okWide Try.prog W .any base t v := hval0
  have hW' := hW
  obtain ⟨p, q, hA0, hV, hpq, hfz, hnd⟩ := hW
  have hA : DataW.TrodAll enc Try.prog W 0 (fun _ => true) true Try.f9.params.toList args.toList ds p := hA0
  have hA' := hA
  rw [Try.params9] at hA' hval
  obtain ⟨v0, vs0, d0, ds0, p0, q0, hargs, rfl, -, h0, r0⟩ := trodAll_cons hA'
  obtain ⟨rfl, rfl, -⟩ := trodAll_nil r0
  obtain rfl : args = #[v0] := by cases args; simp_all
  obtain ⟨rfl, rfl⟩ := trodVars_none hV
  obtain ⟨a0, b0, u0, n0, c0, l0, y0, rfl, hc0, hr0⟩ := open_grouping (hval 0 52 v0 rfl rfl) h0
  clear hA0 hval0 hA'
  have hp : before = p := by rw [hpq, List.append_nil]
  have hlt : ∀ x ∈ p, x.block < W.heap.size := fun x hx => hW'.lt x (by rw [hp]; exact hx)
  refine (groups_any a0 b0 u0 n0 c0 l0 y0 W hc0 hr0).mono fun e W' ⟨he, hg⟩ => ?_
  subst he
  exact ⟨_, rfl, post_of_below (pa := p) (pv := []) hW' (fun _ _ _ => trodAll_cons_mk (shut_bool Try.underlying4 _) trodAll_mk0)
    (fun sp hsp => trodAll_stays laidAll hg sp _ _ _ _ groups_readable groups_inTypes hA hlt (fun x hx => hsp x (by rw [hp]; exact hx)))
    (fun _ _ => rfl) (by rw [hp, List.append_nil]) hg (ok_one (by kernel_rfl) rfl (okWide_bool_mk Try.underlying4 _))⟩

theorem groups_said : Rows.CalendarGroupsSaid :=
  OpenClaim.holds_of_wide 9 Try.f9 rfl rfl rfl rfl rfl rfl rfl ⟨rfl, rfl, rfl, rfl, rfl⟩ rfl rfl rfl rfl rfl (by kernel_rfl) Try.func9 (by kernel_rfl)
    (of_decide_eq_true (by kernel_rfl)) (by unfold Func.isWrapper; first | (rw [if_pos (by decide +kernel)]; kernel_rfl) | (rw [if_neg (by decide +kernel)]; exact ⟨rfl, rfl⟩))
    (fun os started H enc _ => groups_lifted os started H enc)
#print axioms groups_said
end Go.Proofs.Ythpeaeepcbbfcaa
