/- sane: the laws' own trial. -/
import Derived.Test.YtigidchicloleaaGreatDoorGT
set_option maxHeartbeats 4000000
set_option maxRecDepth 100000
namespace Go.Proofs.YtigidchicloleaaGreatDoor.Arr
open Go.RowKit Go.Shelf
open Go.Lib
attribute [local go_sem] Oper.semAt_some
def sS : List Nat := [2, 3]
def sL : List (List UInt8) := [[49], [50], [51], [52], [53], [54]]
def sC : List (Int × Int × Int) := [(0, 2, 1), (0, 2, 2)]
theorem s_valid : validA (sS.map Int.ofNat) sL = true := by kernel_rfl
theorem s_slab : slabOk sS sC = true := by kernel_rfl
theorem s_val : sliceV sS sL sC = [[49], [51], [52], [54]] := by kernel_rfl
theorem s_prod : prod (cnts sC) = 4 := by kernel_rfl
theorem sane_any (w : World) (he : Env w) :
    Calls Tryz.prog 14 #[] w fun e w' => Below w.heap.size w w' ∧ e = .returned (.bool true) := by
  have HE := Lib.hid he
  clear he
  go_enter Tryz.func14, Tryz.ntmps14
  go_wp2_with fail
  obtain ⟨A, HA⟩ : ∃ A, Hid (A = w.heap.size) := ⟨_, Lib.hid rfl⟩
  obtain ⟨W0, HW0⟩ : ∃ W0, Hid ((((w.alloc (.cells #[.int .i64 2, .int .i64 3] 3)).alloc (.cells #[.string ⟨#[49]⟩, .string ⟨#[50]⟩, .string ⟨#[51]⟩, .string ⟨#[52]⟩, .string ⟨#[53]⟩, .string ⟨#[54]⟩] 9)).alloc (.cells #[.slice (some ⟨w.heap.size, 0, none⟩) 2 2, .slice (some ⟨w.heap.size + 1, 0, none⟩) 6 6] 25)).alloc (.cells #[.int .i64 0, .int .i64 2, .int .i64 1, .int .i64 0, .int .i64 2, .int .i64 2] 66) = W0) := ⟨_, Lib.hid rfl⟩
  have HB0 : Hid (Below w.heap.size w W0) := Lib.hid (by rw [← HW0.out]; exact ((((Below.refl _ w).alloc (Nat.le_refl _) _).alloc (by simp) _).alloc (by simp; omega) _).alloc (by simp; omega) _)
  have b0 : W0.heap[w.heap.size]? = some (.cells #[.int .i64 2, .int .i64 3] 3 (0, 0)) := by
    rw [← HW0.out]; simp only [World.alloc, Array.getElem?_push, Array.size_push]
    repeat' (first | rw [if_pos (by omega)] | rw [if_neg (by omega)] | rfl)
  have b1 : W0.heap[w.heap.size + 1]? = some (.cells #[.string ⟨#[49]⟩, .string ⟨#[50]⟩, .string ⟨#[51]⟩, .string ⟨#[52]⟩, .string ⟨#[53]⟩, .string ⟨#[54]⟩] 9 (0, 0)) := by
    rw [← HW0.out]; simp only [World.alloc, Array.getElem?_push, Array.size_push]
    repeat' (first | rw [if_pos (by omega)] | rw [if_neg (by omega)] | rfl)
  have b3 : W0.heap[w.heap.size + 1 + 1 + 1]? = some (.cells #[.int .i64 0, .int .i64 2, .int .i64 1, .int .i64 0, .int .i64 2, .int .i64 2] 66 (0, 0)) := by
    rw [← HW0.out]; simp only [World.alloc, Array.getElem?_push, Array.size_push]
    repeat' (first | rw [if_pos (by omega)] | rw [if_neg (by omega)] | rfl)
  have sz : ∀ {k : Nat} {o : Obj}, W0.heap[k]? = some o → k < W0.heap.size := fun hh => (Array.getElem?_eq_some_iff.1 hh).1
  have r0 : RdN W0 (some ⟨w.heap.size, 0, none⟩) sS := ⟨fun z hz => by
      simp only [sS, List.map_cons, List.map_nil, List.mem_cons, List.not_mem_nil, or_false] at hz
      rcases hz with rfl | rfl <;> decide, .inr ⟨_, _, rfl, sz b0, fun j hj => by
      have hj2 : j < 2 := hj
      have e : j = 0 ∨ j = 1 := by omega
      rcases e with rfl | rfl <;> simp [World.cell?, b0, sS]⟩⟩
  have r1 : RdS W0 (some ⟨w.heap.size + 1, 0, none⟩) sL := .inr ⟨_, _, rfl, sz b1, fun j hj => by
      have hj2 : j < 6 := hj
      have e : j = 0 ∨ j = 1 ∨ j = 2 ∨ j = 3 ∨ j = 4 ∨ j = 5 := by omega
      rcases e with rfl | rfl | rfl | rfl | rfl | rfl <;> simp [World.cell?, b1, sL]⟩
  have r3 : RdC W0 (some ⟨w.heap.size + 1 + 1 + 1, 0, none⟩) sC := ⟨fun z hz => by
      simp only [sC, List.mem_cons, List.not_mem_nil, or_false] at hz
      rcases hz with rfl | rfl <;> decide, .inr ⟨_, _, rfl, sz b3, fun j hj => by
      have hj2 : j < 2 := hj
      have e : j = 0 ∨ j = 1 := by omega
      rcases e with rfl | rfl <;> simp [World.cell?, b3, sC]⟩⟩
  have hsh : Shp sS := by unfold Shp; decide
  have H23 := Lib.hid (slice_yes (some ⟨w.heap.size, 0, none⟩) (some ⟨w.heap.size + 1, 0, none⟩) (some ⟨w.heap.size + 1 + 1 + 1, 0, none⟩) 2 6 2 6 2 sS sC sL W0 (HE.out.below HB0.out) (Lib.hid rfl) (Lib.hid rfl) (by omega) (Lib.hid hsh) r0 r1 r3 s_valid (Lib.hid s_slab))
  clear b0 b1 b3 r0 r1 r3
  rw [HW0.out]
  refine (H23.out).mono ?_
  rintro e w1 ⟨hb1, q, d, V, rfl, -, -, -, -, hv, hV⟩
  rw [s_prod]
  rw [s_val] at hv
  have HB1 : Hid (Below w.heap.size w w1) := Lib.hid (HB0.out.trans (hb1.mono HB0.out.size))
  have v1 : w1.cell? ⟨V, 1, none⟩ = some (.string ⟨#[51]⟩) := by
    obtain ⟨b, off, x, e, -, hc, hx⟩ := hv.at (k := 1) (by decide)
    cases e; rw [hx.out] at hc; simpa using hc
  have v3 : w1.cell? ⟨V, 3, none⟩ = some (.string ⟨#[54]⟩) := by
    obtain ⟨b, off, x, e, -, hc, hx⟩ := hv.at (k := 3) (by decide)
    cases e; rw [hx.out] at hc; simpa using hc
  have hVs : V < w1.heap.size := by
    obtain ⟨b, off, x, e, hb, -⟩ := hv.at (k := 1) (by decide)
    cases e; exact hb
  have hBo := fun o => (Below.refl w1.heap.size w1).alloc (Nat.le_refl _) o
  have k1 : (w1.alloc (.cells #[.slice q 2 d, .slice (some ⟨V, 0, none⟩) 4 4] 25)).cell? ⟨V, 1, none⟩ = some (.string ⟨#[51]⟩) := ((hBo _).cell (p := ⟨V, 1, none⟩) hVs).trans v1
  have k3 : (w1.alloc (.cells #[.slice q 2 d, .slice (some ⟨V, 0, none⟩) 4 4] 25)).cell? ⟨V, 3, none⟩ = some (.string ⟨#[54]⟩) := ((hBo _).cell (p := ⟨V, 3, none⟩) hVs).trans v3
  have HBF : Hid (Below w.heap.size w (w1.alloc (.cells #[.slice q 2 d, .slice (some ⟨V, 0, none⟩) 4 4] 25))) := Lib.hid (HB1.out.trans ((hBo _).mono HB1.out.size))
  clear hb1 hv hV hBo sz v1 v3 hVs H23
  go_wp2_with fail
  go_ret
  exact ⟨HBF.out, rfl⟩
end Go.Proofs.YtigidchicloleaaGreatDoor.Arr
