/- The law QuantityFormats. -/
import Derived.Test.YtfjnipkpfbkegaaGreatDoorFC
import Derived.Test.YtfjnipkpfbkegaaGreatDoorFD
import Derived.Test.YtfjnipkpfbkegaaGreatDoorXUK
import Derived.Deep.RegionHeld3
import Derived.Deep.RegionWith
set_option maxHeartbeats 4000000
set_option maxRecDepth 100000
namespace Go.Proofs.YtfjnipkpfbkegaaGreatDoor
open Go.RowKit Big
open Go.Lib
theorem formats_any (f o : ByteArray) (p0 p1 p2 p3 p4 p5 p6 : Int) (w : World) (htab : Tab w) : Calls Tryz.prog 4 #[.agg #[.string f, .string o, .int .i64 p0, .int .i64 p1, .int .i64 p2, .int .i64 p3, .int .i64 p4, .int .i64 p5, .int .i64 p6]] w fun e w' => e = .returned (.bool true) ∧ Below w.heap.size w w' := by
  have Htab := hiD htab
  have HK0 : Hid (Keep w (w.alloc (.cells #[.string f, .string o, .int .i64 p0, .int .i64 p1, .int .i64 p2, .int .i64 p3, .int .i64 p4, .int .i64 p5, .int .i64 p6] 24)) [(w.heap.size, #[.string f, .string o, .int .i64 p0, .int .i64 p1, .int .i64 p2, .int .i64 p3, .int .i64 p4, .int .i64 p5, .int .i64 p6], 24)]) := hiD ((Keep.nil w).more #[.string f, .string o, .int .i64 p0, .int .i64 p1, .int .i64 p2, .int .i64 p3, .int .i64 p4, .int .i64 p5, .int .i64 p6] 24)
  have hc := HK0.out.one _ (List.mem_cons_self ..)
  have k0 := ceh hc 0
  have k1 := ceh hc 1
  have k2 := ceh hc 2
  have k3 := ceh hc 3
  have k4 := ceh hc 4
  have k5 := ceh hc 5
  have k6 := ceh hc 6
  have k7 := ceh hc 7
  have k8 := ceh hc 8
  clear hc htab
  obtain ⟨⟨L, z⟩, HT⟩ : ∃ t, Hid (fmtT (tU f o p0 p1 p2 p3 p4 p5 p6) = t) := ⟨_, hiD rfl⟩
  obtain ⟨X, HX⟩ : ∃ X : ByteArray, Hid (⟨L.toArray⟩ = X) := ⟨_, hiD rfl⟩
  have H9 : Hid (∀ W, Below w.heap.size w W → Calls Tryz.prog 9 #[.agg #[.string f, .string o, .int .i64 p0, .int .i64 p1, .int .i64 p2, .int .i64 p3, .int .i64 p4, .int .i64 p5, .int .i64 p6]] W fun e w' => e = .returned (.tuple #[.string X, .int .i64 z]) ∧ Below W.heap.size W w') := hiD (fun W hW => by
    have h := format_any f o p0 p1 p2 p3 p4 p5 p6 W (Htab.out.below hW)
    unfold FmtPost at h
    rwa [HT.out, HX.out] at h)
  have H10 : Hid (∀ W, Below w.heap.size w W → Calls Tryz.prog 10 #[.agg #[.string f, .string o, .int .i64 p0, .int .i64 p1, .int .i64 p2, .int .i64 p3, .int .i64 p4, .int .i64 p5, .int .i64 p6]] W fun e w' => e = .returned (.tuple #[.string X, .int .i64 z]) ∧ Below W.heap.size W w') := hiD (fun W hW => by
    have h := rformat_any f o p0 p1 p2 p3 p4 p5 p6 W
    unfold FmtPost at h
    rwa [HT.out, HX.out] at h)
  obtain ⟨bv, HBV⟩ : ∃ b, Hid (validT (tU f o p0 p1 p2 p3 p4 p5 p6) = b) := ⟨_, hiD rfl⟩
  have H7 : Hid (∀ W, Below w.heap.size w W → Calls Tryz.prog 7 #[.agg #[.string f, .string o, .int .i64 p0, .int .i64 p1, .int .i64 p2, .int .i64 p3, .int .i64 p4, .int .i64 p5, .int .i64 p6]] W fun e w' => e = .returned (.bool bv) ∧ Below W.heap.size W w') := hiD (fun W hW => by
    rw [← HBV.out]; exact validUnit_any f o p0 p1 p2 p3 p4 p5 p6 W (Htab.out.below hW))
  have H11 : Hid (∀ W, Below w.heap.size w W → Calls Tryz.prog 11 #[.agg #[.string f, .string o, .int .i64 p0, .int .i64 p1, .int .i64 p2, .int .i64 p3, .int .i64 p4, .int .i64 p5, .int .i64 p6]] W fun e w' => e = .returned (.bool bv) ∧ Below W.heap.size W w') := hiD (fun W hW => by
    rw [← HBV.out]; exact rvu_any f o p0 p1 p2 p3 p4 p5 p6 W)
  have H8 : Hid (∀ W, Below w.heap.size w W → Calls Tryz.prog 8 #[] W fun e w' => e = .returned (.bool true) ∧ Below W.heap.size W w') := hiD (fun W hW => awake_any W (Htab.out.below hW))
  have hcase : z = 10 ∨ (z = 0 ∧ Hid (bv = true ∧ ∀ W, Below w.heap.size w W → Calls Tryz.prog 5 #[.string X] W fun e w' => e = .returned (.tuple #[.agg #[.string f, .string o, .int .i64 p0, .int .i64 p1, .int .i64 p2, .int .i64 p3, .int .i64 p4, .int .i64 p5, .int .i64 p6], .int .i64 0]) ∧ Below W.heap.size W w')) := by
    have ht := HT.out
    unfold fmtT at ht
    split at ht
    · rename_i hp
      refine .inr ⟨(congrArg Prod.snd ht).symm, hiD ⟨?_, fun W hW => ?_⟩⟩
      · rw [← HBV.out]
        unfold plainT at hp
        rw [Bool.and_eq_true] at hp
        exact hp.1
      · refine (parseUnit_any X W (Htab.out.below hW)).mono ?_
        rintro e w' ⟨f', o', a0, a1, a2, a3, a4, a5, a6, rfl, hu, hb⟩
        have hl : X.data.toList = join (wordsT (tU f o p0 p1 p2 p3 p4 p5 p6)) [32] := by
          rw [← HX.out]; exact (congrArg Prod.fst ht).symm
        rw [hl, unit_fmt hp rfl] at hu ⊢
        unfold tU at hu
        simp only [UnitT.mk.injEq, List.cons.injEq, and_true] at hu
        obtain ⟨e1, e2, rfl, rfl, rfl, rfl, rfl, rfl, rfl⟩ := hu
        have ef : f' = f := by apply ByteArray.ext; exact Array.toList_inj.1 e1
        have eo : o' = o := by apply ByteArray.ext; exact Array.toList_inj.1 e2
        subst ef eo
        exact ⟨rfl, hb⟩
    · exact .inl (congrArg Prod.snd ht).symm
  have HALL : Hid (∀ W2, Below w.heap.size w W2 → Keep w W2 [(w.heap.size, #[.string f, .string o, .int .i64 p0, .int .i64 p1, .int .i64 p2, .int .i64 p3, .int .i64 p4, .int .i64 p5, .int .i64 p6], 24)] → ∀ W, Below W2.heap.size W2 W → (Below W2.heap.size W2 W ∧ W.cell? ⟨w.heap.size, 0, none⟩ = some (.string f) ∧ W.cell? ⟨w.heap.size, 1, none⟩ = some (.string o) ∧ W.cell? ⟨w.heap.size, 2, none⟩ = some (.int .i64 p0) ∧ W.cell? ⟨w.heap.size, 3, none⟩ = some (.int .i64 p1) ∧ W.cell? ⟨w.heap.size, 4, none⟩ = some (.int .i64 p2) ∧ W.cell? ⟨w.heap.size, 5, none⟩ = some (.int .i64 p3) ∧ W.cell? ⟨w.heap.size, 6, none⟩ = some (.int .i64 p4) ∧ W.cell? ⟨w.heap.size, 7, none⟩ = some (.int .i64 p5) ∧ W.cell? ⟨w.heap.size, 8, none⟩ = some (.int .i64 p6))) := hiD (fun W2 _ hk W hb => by
    have hc := (hk.next hb).one _ (List.mem_cons_self ..)
    exact ⟨hb, ceh hc 0, ceh hc 1, ceh hc 2, ceh hc 3, ceh hc 4, ceh hc 5, ceh hc 6, ceh hc 7, ceh hc 8⟩)
  have HP9 := hiD (powers_eq9 p0 p1 p2 p3 p4 p5 p6 p0 p1 p2 p3 p4 p5 p6)
  have HSM : Hid (bv = true → ∀ W, Below w.heap.size w W → Calls Tryz.prog 12 #[.agg #[.string f, .string o, .int .i64 p0, .int .i64 p1, .int .i64 p2, .int .i64 p3, .int .i64 p4, .int .i64 p5, .int .i64 p6], .agg #[.string f, .string o, .int .i64 p0, .int .i64 p1, .int .i64 p2, .int .i64 p3, .int .i64 p4, .int .i64 p5, .int .i64 p6]] W fun e w' => e = .returned (.bool true) ∧ Below W.heap.size W w') := hiD (fun hbv W hW => psame_3 f o p0 p1 p2 p3 p4 p5 p6 f o p0 p1 p2 p3 p4 p5 p6 true W (beq_self_eq_true _) (beq_self_eq_true _) rfl (hiD (fun W2 hW2 => by
    have h := H7.out W2 (hW.trans (hW2.mono hW.size))
    rwa [hbv] at h)))
  clear HT HX HBV Htab
  refine hcase.elim (fun hz => ?ca) (fun hz => ?cb)
  case' ca => subst hz
  case' cb =>
    obtain ⟨hz, HPU⟩ := hz
    subst hz
  all_goals
    clear hcase
    go_enter Tryz.func4, Tryz.ntmps4
    go_wp2_with fail
    refine (H9.out _ HK0.out.below).mono ?_
    rintro e w1 ⟨rfl, hb1⟩
    have HK1 := hiD (HK0.out.next hb1)
    have hc := HK1.out.one _ (List.mem_cons_self ..)
    clear k0 k1 k2 k3 k4 k5 k6 k7 k8 hb1
    have k0 := ceh hc 0
    have k1 := ceh hc 1
    have k2 := ceh hc 2
    have k3 := ceh hc 3
    have k4 := ceh hc 4
    have k5 := ceh hc 5
    have k6 := ceh hc 6
    have k7 := ceh hc 7
    have k8 := ceh hc 8
    clear hc
    go_wp2_with fail
    refine (H10.out _ HK1.out.below).mono ?_
    rintro e w2 ⟨rfl, hb2⟩
    have HK2 := hiD (HK1.out.next hb2)
    clear k0 k1 k2 k3 k4 k5 k6 k7 k8 hb2
    have HA2 := hiD (HALL.out w2 HK2.out.below HK2.out)
    obtain ⟨_, k0, k1, k2, k3, k4, k5, k6, k7, k8⟩ := HA2.out w2 (Below.refl _ _)
    have HV7 : Hid (∀ W, Below w2.heap.size w2 W → Calls Tryz.prog 7 #[.agg #[.string f, .string o, .int .i64 p0, .int .i64 p1, .int .i64 p2, .int .i64 p3, .int .i64 p4, .int .i64 p5, .int .i64 p6]] W fun e w' => e = .returned (.bool bv) ∧ Below W.heap.size W w') := hiD (fun W hW => H7.out W (HK2.out.next hW).below)
    have HV11 : Hid (∀ W, Below w2.heap.size w2 W → Calls Tryz.prog 11 #[.agg #[.string f, .string o, .int .i64 p0, .int .i64 p1, .int .i64 p2, .int .i64 p3, .int .i64 p4, .int .i64 p5, .int .i64 p6]] W fun e w' => e = .returned (.bool bv) ∧ Below W.heap.size W w') := hiD (fun W hW => H11.out W (HK2.out.next hW).below)
    go_wp2_with fail
    go_region_held3 (fun W => Below w2.heap.size w2 W ∧ W.cell? ⟨w.heap.size, 0, none⟩ = some (.string f) ∧ W.cell? ⟨w.heap.size, 1, none⟩ = some (.string o) ∧ W.cell? ⟨w.heap.size, 2, none⟩ = some (.int .i64 p0) ∧ W.cell? ⟨w.heap.size, 3, none⟩ = some (.int .i64 p1) ∧ W.cell? ⟨w.heap.size, 4, none⟩ = some (.int .i64 p2) ∧ W.cell? ⟨w.heap.size, 5, none⟩ = some (.int .i64 p3) ∧ W.cell? ⟨w.heap.size, 6, none⟩ = some (.int .i64 p4) ∧ W.cell? ⟨w.heap.size, 7, none⟩ = some (.int .i64 p5) ∧ W.cell? ⟨w.heap.size, 8, none⟩ = some (.int .i64 p6))
      (first | exact HA2.out _ (Below.refl _ _) | exact HA2.out _ (Below.refl _ _).drew | (go_split_ands; exact HA2.out _ hA.out) | (go_split_ands; exact HA2.out _ hB.out))
      (first | (go_at_call 11; go_split_ands; refine (HV11.out _ (by assumption)).mono ?_; rintro e wB ⟨rfl, hbB⟩; have hB : Hid (Below w2.heap.size w2 wB) := hiD (Below.trans (by assumption) (hbB.mono (Below.size (by assumption))))) | (go_at_call 7; go_split_ands; refine (HV7.out _ (by assumption)).mono ?_; rintro e wA ⟨rfl, hbA⟩; have hA : Hid (Below w2.heap.size w2 wA) := hiD (Below.trans (by assumption) (hbA.mono (Below.size (by assumption))))))
  rotate_left
  ·
    have HK3 := hiD (HK2.out.next hB.out)
    go_wp2_with fail
    refine (H8.out _ HK3.out.below).mono ?_
    rintro e w9 ⟨rfl, hb9⟩
    have HB9 := hiD (HK3.out.below.trans (hb9.mono HK3.out.below.size))
    clear hb9
    go_wp2_with fail
    go_ret
    exact ⟨rfl, HB9.out⟩
  ·
    have HK3 := hiD (HK2.out.next hB.out)
    go_wp2_with fail
    refine (HPU.out.2 _ HK3.out.below).mono ?_
    rintro e w4 ⟨rfl, hb4⟩
    have HK5 := hiD ((HK3.out.next hb4).more #[.string f, .string o, .int .i64 p0, .int .i64 p1, .int .i64 p2, .int .i64 p3, .int .i64 p4, .int .i64 p5, .int .i64 p6] 24)
    clear hb4 k0 k1 k2 k3 k4 k5 k6 k7 k8
    have hc := HK5.out.one _ (List.mem_cons_of_mem _ (List.mem_cons_self ..))
    have k0 := ceh hc 0
    have k1 := ceh hc 1
    have k2 := ceh hc 2
    have k3 := ceh hc 3
    have k4 := ceh hc 4
    have k5 := ceh hc 5
    have k6 := ceh hc 6
    have k7 := ceh hc 7
    have k8 := ceh hc 8
    clear hc
    have hc := HK5.out.one _ (List.mem_cons_self ..)
    have j0 := ceh hc 0
    have j1 := ceh hc 1
    have j2 := ceh hc 2
    have j3 := ceh hc 3
    have j4 := ceh hc 4
    have j5 := ceh hc 5
    have j6 := ceh hc 6
    have j7 := ceh hc 7
    have j8 := ceh hc 8
    clear hc
    have hq := HP9.out
    try rw [decide_eq_true rfl] at hq
    go_wp2_with fail
    refine (HSM.out HPU.out.1 _ HK5.out.below).mono ?_
    rintro e w6 ⟨rfl, hb6⟩
    have HB6 := hiD (HK5.out.below.trans (hb6.mono HK5.out.below.size))
    clear hb6
    go_wp2_with fail
    refine (H8.out _ HB6.out).mono ?_
    rintro e w9 ⟨rfl, hb9⟩
    have HB9 := hiD (HB6.out.trans (hb9.mono HB6.out.size))
    clear hb9
    go_wp2_with fail
    go_ret
    exact ⟨rfl, HB9.out⟩
end Go.Proofs.YtfjnipkpfbkegaaGreatDoor
