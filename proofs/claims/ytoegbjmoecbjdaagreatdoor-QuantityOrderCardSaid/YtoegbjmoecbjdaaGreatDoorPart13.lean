/- Texts of units: prefixValue, findSymbol. Texts of units: factors as values, known. -/
import Derived.Test.YtoegbjmoecbjdaaGreatDoorPart12
set_option maxHeartbeats 3200000
set_option maxRecDepth 100000
namespace Go.Proofs.YtoegbjmoecbjdaaGreatDoor
open Go.RowKit Go.Lib Big
structure ResT (T : TypeId) (B : Nat) (w0 W : World) : Prop where
  size : B + 1 ≤ W.heap.size
  below : Below w0.heap.size w0 W
  z : ∃ z0 z1 z2 z3 z4 z5 z6 z7 z8 : Value, W.heap[B]? = some (.cells #[z0, z1, z2, z3, z4, z5, z6, z7, z8] T (0, 0))
section
variable {T : TypeId} {B : Nat} {w0 W W' : World}
theorem ResT.next (h : ResT T B w0 W) (hb : Below W.heap.size W W') : ResT T B w0 W' := by
  have hs := h.size
  obtain ⟨z0, z1, z2, z3, z4, z5, z6, z7, z8, hz⟩ := h.z
  exact ⟨Nat.le_trans hs hb.size, h.below.trans (hb.mono h.below.size), z0, z1, z2, z3, z4, z5, z6, z7, z8, (hb.block _ (by omega)).trans hz⟩
theorem ResT.slots (h : ResT T B w0 W) : ∃ z0 z1 z2 z3 z4 z5 z6 z7 z8 : Value, (W.cell? ⟨B, 0, none⟩ = some z0 ∧ W.cell? ⟨B, 1, none⟩ = some z1 ∧ W.cell? ⟨B, 2, none⟩ = some z2 ∧ W.cell? ⟨B, 3, none⟩ = some z3 ∧ W.cell? ⟨B, 4, none⟩ = some z4 ∧ W.cell? ⟨B, 5, none⟩ = some z5 ∧ W.cell? ⟨B, 6, none⟩ = some z6 ∧ W.cell? ⟨B, 7, none⟩ = some z7 ∧ W.cell? ⟨B, 8, none⟩ = some z8) ∧ (W.frozen? ⟨B, 0, none⟩ = false ∧ W.frozen? ⟨B, 1, none⟩ = false ∧ W.frozen? ⟨B, 2, none⟩ = false ∧ W.frozen? ⟨B, 3, none⟩ = false ∧ W.frozen? ⟨B, 4, none⟩ = false ∧ W.frozen? ⟨B, 5, none⟩ = false ∧ W.frozen? ⟨B, 6, none⟩ = false ∧ W.frozen? ⟨B, 7, none⟩ = false ∧ W.frozen? ⟨B, 8, none⟩ = false) := by
  obtain ⟨z0, z1, z2, z3, z4, z5, z6, z7, z8, hz⟩ := h.z
  exact ⟨z0, z1, z2, z3, z4, z5, z6, z7, z8, ⟨ceh hz 0, ceh hz 1, ceh hz 2, ceh hz 3, ceh hz 4, ceh hz 5, ceh hz 6, ceh hz 7, ceh hz 8⟩, ⟨foh hz 0, foh hz 1, foh hz 2, foh hz 3, foh hz 4, foh hz 5, foh hz 6, foh hz 7, foh hz 8⟩⟩
theorem ResT.put9 (h : ResT T B w0 W) (hB : w0.heap.size ≤ B) (a0 a1 a2 a3 a4 a5 a6 a7 a8 : Value) : Below w0.heap.size w0 (((((((((W.setCell ⟨B, 0, none⟩ a0).setCell ⟨B, 1, none⟩ a1).setCell ⟨B, 2, none⟩ a2).setCell ⟨B, 3, none⟩ a3).setCell ⟨B, 4, none⟩ a4).setCell ⟨B, 5, none⟩ a5).setCell ⟨B, 6, none⟩ a6).setCell ⟨B, 7, none⟩ a7).setCell ⟨B, 8, none⟩ a8) :=
  ((((((((h.below.setCell hB _).setCell hB _).setCell hB _).setCell hB _).setCell hB _).setCell hB _).setCell hB _).setCell hB _).setCell hB _
theorem ResT.put9_heap (h : ResT T B w0 W) (a0 a1 a2 a3 a4 a5 a6 a7 a8 : Value) : (((((((((W.setCell ⟨B, 0, none⟩ a0).setCell ⟨B, 1, none⟩ a1).setCell ⟨B, 2, none⟩ a2).setCell ⟨B, 3, none⟩ a3).setCell ⟨B, 4, none⟩ a4).setCell ⟨B, 5, none⟩ a5).setCell ⟨B, 6, none⟩ a6).setCell ⟨B, 7, none⟩ a7).setCell ⟨B, 8, none⟩ a8).heap[B]? = some (.cells #[a0, a1, a2, a3, a4, a5, a6, a7, a8] T (0, 0)) := by
  obtain ⟨z0, z1, z2, z3, z4, z5, z6, z7, z8, hz⟩ := h.z
  have h0 : (W.setCell ⟨B, 0, none⟩ a0).heap[B]? = some (.cells #[a0, z1, z2, z3, z4, z5, z6, z7, z8] T (0, 0)) := heap_set B 0 _ T a0 hz
  have h1 : ((W.setCell ⟨B, 0, none⟩ a0).setCell ⟨B, 1, none⟩ a1).heap[B]? = some (.cells #[a0, a1, z2, z3, z4, z5, z6, z7, z8] T (0, 0)) := heap_set B 1 _ T a1 h0
  have h2 : (((W.setCell ⟨B, 0, none⟩ a0).setCell ⟨B, 1, none⟩ a1).setCell ⟨B, 2, none⟩ a2).heap[B]? = some (.cells #[a0, a1, a2, z3, z4, z5, z6, z7, z8] T (0, 0)) := heap_set B 2 _ T a2 h1
  have h3 : ((((W.setCell ⟨B, 0, none⟩ a0).setCell ⟨B, 1, none⟩ a1).setCell ⟨B, 2, none⟩ a2).setCell ⟨B, 3, none⟩ a3).heap[B]? = some (.cells #[a0, a1, a2, a3, z4, z5, z6, z7, z8] T (0, 0)) := heap_set B 3 _ T a3 h2
  have h4 : (((((W.setCell ⟨B, 0, none⟩ a0).setCell ⟨B, 1, none⟩ a1).setCell ⟨B, 2, none⟩ a2).setCell ⟨B, 3, none⟩ a3).setCell ⟨B, 4, none⟩ a4).heap[B]? = some (.cells #[a0, a1, a2, a3, a4, z5, z6, z7, z8] T (0, 0)) := heap_set B 4 _ T a4 h3
  have h5 : ((((((W.setCell ⟨B, 0, none⟩ a0).setCell ⟨B, 1, none⟩ a1).setCell ⟨B, 2, none⟩ a2).setCell ⟨B, 3, none⟩ a3).setCell ⟨B, 4, none⟩ a4).setCell ⟨B, 5, none⟩ a5).heap[B]? = some (.cells #[a0, a1, a2, a3, a4, a5, z6, z7, z8] T (0, 0)) := heap_set B 5 _ T a5 h4
  have h6 : (((((((W.setCell ⟨B, 0, none⟩ a0).setCell ⟨B, 1, none⟩ a1).setCell ⟨B, 2, none⟩ a2).setCell ⟨B, 3, none⟩ a3).setCell ⟨B, 4, none⟩ a4).setCell ⟨B, 5, none⟩ a5).setCell ⟨B, 6, none⟩ a6).heap[B]? = some (.cells #[a0, a1, a2, a3, a4, a5, a6, z7, z8] T (0, 0)) := heap_set B 6 _ T a6 h5
  have h7 : ((((((((W.setCell ⟨B, 0, none⟩ a0).setCell ⟨B, 1, none⟩ a1).setCell ⟨B, 2, none⟩ a2).setCell ⟨B, 3, none⟩ a3).setCell ⟨B, 4, none⟩ a4).setCell ⟨B, 5, none⟩ a5).setCell ⟨B, 6, none⟩ a6).setCell ⟨B, 7, none⟩ a7).heap[B]? = some (.cells #[a0, a1, a2, a3, a4, a5, a6, a7, z8] T (0, 0)) := heap_set B 7 _ T a7 h6
  have h8 : (((((((((W.setCell ⟨B, 0, none⟩ a0).setCell ⟨B, 1, none⟩ a1).setCell ⟨B, 2, none⟩ a2).setCell ⟨B, 3, none⟩ a3).setCell ⟨B, 4, none⟩ a4).setCell ⟨B, 5, none⟩ a5).setCell ⟨B, 6, none⟩ a6).setCell ⟨B, 7, none⟩ a7).setCell ⟨B, 8, none⟩ a8).heap[B]? = some (.cells #[a0, a1, a2, a3, a4, a5, a6, a7, a8] T (0, 0)) := heap_set B 8 _ T a8 h7
  exact h8
end
theorem prefixValue_any (c : UInt8) (w : World) : Calls Tryz.prog 243 #[.int .u8 c.toNat] w fun e w' => e = .returned (.string ⟨(preT c).toArray⟩) ∧ w = w' := by
  by_cases h110 : c = 110
  · subst h110
    go_enter Tryz.func243, Tryz.ntmps243
    go_wp2_with fail
    go_ret
    exact ⟨rfl, rfl⟩
  have k110 : ((c.toNat : Int) == 110) = false := by
    rw [beq_eq_false_iff_ne]; intro h; apply h110; apply UInt8.toNat_inj.1; have : ((110 : UInt8)).toNat = 110 := rfl; omega
  by_cases h117 : c = 117
  · subst h117
    go_enter Tryz.func243, Tryz.ntmps243
    go_wp2_with fail
    go_ret
    exact ⟨rfl, rfl⟩
  have k117 : ((c.toNat : Int) == 117) = false := by
    rw [beq_eq_false_iff_ne]; intro h; apply h117; apply UInt8.toNat_inj.1; have : ((117 : UInt8)).toNat = 117 := rfl; omega
  by_cases h109 : c = 109
  · subst h109
    go_enter Tryz.func243, Tryz.ntmps243
    go_wp2_with fail
    go_ret
    exact ⟨rfl, rfl⟩
  have k109 : ((c.toNat : Int) == 109) = false := by
    rw [beq_eq_false_iff_ne]; intro h; apply h109; apply UInt8.toNat_inj.1; have : ((109 : UInt8)).toNat = 109 := rfl; omega
  by_cases h99 : c = 99
  · subst h99
    go_enter Tryz.func243, Tryz.ntmps243
    go_wp2_with fail
    go_ret
    exact ⟨rfl, rfl⟩
  have k99 : ((c.toNat : Int) == 99) = false := by
    rw [beq_eq_false_iff_ne]; intro h; apply h99; apply UInt8.toNat_inj.1; have : ((99 : UInt8)).toNat = 99 := rfl; omega
  by_cases h100 : c = 100
  · subst h100
    go_enter Tryz.func243, Tryz.ntmps243
    go_wp2_with fail
    go_ret
    exact ⟨rfl, rfl⟩
  have k100 : ((c.toNat : Int) == 100) = false := by
    rw [beq_eq_false_iff_ne]; intro h; apply h100; apply UInt8.toNat_inj.1; have : ((100 : UInt8)).toNat = 100 := rfl; omega
  by_cases h104 : c = 104
  · subst h104
    go_enter Tryz.func243, Tryz.ntmps243
    go_wp2_with fail
    go_ret
    exact ⟨rfl, rfl⟩
  have k104 : ((c.toNat : Int) == 104) = false := by
    rw [beq_eq_false_iff_ne]; intro h; apply h104; apply UInt8.toNat_inj.1; have : ((104 : UInt8)).toNat = 104 := rfl; omega
  by_cases h107 : c = 107
  · subst h107
    go_enter Tryz.func243, Tryz.ntmps243
    go_wp2_with fail
    go_ret
    exact ⟨rfl, rfl⟩
  have k107 : ((c.toNat : Int) == 107) = false := by
    rw [beq_eq_false_iff_ne]; intro h; apply h107; apply UInt8.toNat_inj.1; have : ((107 : UInt8)).toNat = 107 := rfl; omega
  by_cases h77 : c = 77
  · subst h77
    go_enter Tryz.func243, Tryz.ntmps243
    go_wp2_with fail
    go_ret
    exact ⟨rfl, rfl⟩
  have k77 : ((c.toNat : Int) == 77) = false := by
    rw [beq_eq_false_iff_ne]; intro h; apply h77; apply UInt8.toNat_inj.1; have : ((77 : UInt8)).toNat = 77 := rfl; omega
  by_cases h71 : c = 71
  · subst h71
    go_enter Tryz.func243, Tryz.ntmps243
    go_wp2_with fail
    go_ret
    exact ⟨rfl, rfl⟩
  have k71 : ((c.toNat : Int) == 71) = false := by
    rw [beq_eq_false_iff_ne]; intro h; apply h71; apply UInt8.toNat_inj.1; have : ((71 : UInt8)).toNat = 71 := rfl; omega
  have hp : preT c = [] := by simp [preT, h110, h117, h109, h99, h100, h104, h107, h77, h71]
  rw [hp]
  clear hp h110 h117 h109 h99 h100 h104 h107 h77 h71
  go_enter Tryz.func243, Tryz.ntmps243
  go_wp2_with fail
  go_ret
  exact ⟨rfl, rfl⟩
def SymPost (o : Option (List UInt8 × List Int × Bool)) (w : World) (e : Ending) (w' : World) : Prop :=
  Below w.heap.size w w' ∧ ∃ (v : ByteArray) (p0 p1 p2 p3 p4 p5 p6 : Int) (b : Bool), e = .returned (.tuple #[.agg #[.string v, .int .i64 p0, .int .i64 p1, .int .i64 p2, .int .i64 p3, .int .i64 p4, .int .i64 p5, .int .i64 p6, .bool b], .bool o.isSome]) ∧ ∀ x ps d, o = some (x, ps, d) → v.data.toList = x ∧ [p0, p1, p2, p3, p4, p5, p6] = ps ∧ b = d
theorem ResT.start (T : TypeId) (w : World) (a0 a1 a2 a3 a4 a5 a6 a7 a8 : Value) : ResT T w.heap.size w (w.alloc (.cells #[a0, a1, a2, a3, a4, a5, a6, a7, a8] T)) :=
  ⟨by simp, (Below.refl _ _).alloc (Nat.le_refl _) _, _, _, _, _, _, _, _, _, _, heap_new _ _⟩
theorem sym_0 (s : ByteArray) (w : World)  (h : (s.toList == [109]) = true) : Calls Tryz.prog 242 #[.string s] w (SymPost (some ([49], [1, 0, 0, 0, 0, 0, 0], true)) w) := by
  go_enter Tryz.func242, Tryz.ntmps242
  go_wp2_with fail
  refine bodyPost_ret (v := .tuple #[.agg #[.string ⟨#[49]⟩, .int .i64 1, .int .i64 0, .int .i64 0, .int .i64 0, .int .i64 0, .int .i64 0, .int .i64 0, .bool true], .bool true]) (by simp [results, Tryz.results242, go_sem]) rfl ?_
  exact ⟨bea _ _, _, _, _, _, _, _, _, _, _, rfl, by rintro _ _ _ h; cases h; exact ⟨rfl, rfl, rfl⟩⟩
theorem sym_1 (s : ByteArray) (w : World) (h0 : (s.toList == [109]) = false) (h : (s.toList == [103]) = true) : Calls Tryz.prog 242 #[.string s] w (SymPost (some ([49, 47, 49, 48, 48, 48], [0, 1, 0, 0, 0, 0, 0], true)) w) := by
  go_enter Tryz.func242, Tryz.ntmps242
  go_wp2_with fail
  refine bodyPost_ret (v := .tuple #[.agg #[.string ⟨#[49, 47, 49, 48, 48, 48]⟩, .int .i64 0, .int .i64 1, .int .i64 0, .int .i64 0, .int .i64 0, .int .i64 0, .int .i64 0, .bool true], .bool true]) (by simp [results, Tryz.results242, go_sem]) rfl ?_
  exact ⟨bea _ _, _, _, _, _, _, _, _, _, _, rfl, by rintro _ _ _ h; cases h; exact ⟨rfl, rfl, rfl⟩⟩
theorem sym_2 (s : ByteArray) (w : World) (h0 : (s.toList == [109]) = false) (h1 : (s.toList == [103]) = false) (h : (s.toList == [115]) = true) : Calls Tryz.prog 242 #[.string s] w (SymPost (some ([49], [0, 0, 1, 0, 0, 0, 0], true)) w) := by
  go_enter Tryz.func242, Tryz.ntmps242
  go_wp2_with fail
  refine bodyPost_ret (v := .tuple #[.agg #[.string ⟨#[49]⟩, .int .i64 0, .int .i64 0, .int .i64 1, .int .i64 0, .int .i64 0, .int .i64 0, .int .i64 0, .bool true], .bool true]) (by simp [results, Tryz.results242, go_sem]) rfl ?_
  exact ⟨bea _ _, _, _, _, _, _, _, _, _, _, rfl, by rintro _ _ _ h; cases h; exact ⟨rfl, rfl, rfl⟩⟩
theorem sym_3 (s : ByteArray) (w : World) (h0 : (s.toList == [109]) = false) (h1 : (s.toList == [103]) = false) (h2 : (s.toList == [115]) = false) (h : (s.toList == [75]) = true) : Calls Tryz.prog 242 #[.string s] w (SymPost (some ([49], [0, 0, 0, 1, 0, 0, 0], true)) w) := by
  go_enter Tryz.func242, Tryz.ntmps242
  go_wp2_with fail
  refine bodyPost_ret (v := .tuple #[.agg #[.string ⟨#[49]⟩, .int .i64 0, .int .i64 0, .int .i64 0, .int .i64 1, .int .i64 0, .int .i64 0, .int .i64 0, .bool true], .bool true]) (by simp [results, Tryz.results242, go_sem]) rfl ?_
  exact ⟨bea _ _, _, _, _, _, _, _, _, _, _, rfl, by rintro _ _ _ h; cases h; exact ⟨rfl, rfl, rfl⟩⟩
theorem sym_4 (s : ByteArray) (w : World) (h0 : (s.toList == [109]) = false) (h1 : (s.toList == [103]) = false) (h2 : (s.toList == [115]) = false) (h3 : (s.toList == [75]) = false) (h : (s.toList == [109, 111, 108]) = true) : Calls Tryz.prog 242 #[.string s] w (SymPost (some ([49], [0, 0, 0, 0, 1, 0, 0], true)) w) := by
  go_enter Tryz.func242, Tryz.ntmps242
  go_wp2_with fail
  refine bodyPost_ret (v := .tuple #[.agg #[.string ⟨#[49]⟩, .int .i64 0, .int .i64 0, .int .i64 0, .int .i64 0, .int .i64 1, .int .i64 0, .int .i64 0, .bool true], .bool true]) (by simp [results, Tryz.results242, go_sem]) rfl ?_
  exact ⟨bea _ _, _, _, _, _, _, _, _, _, _, rfl, by rintro _ _ _ h; cases h; exact ⟨rfl, rfl, rfl⟩⟩
theorem sym_5 (s : ByteArray) (w : World) (h0 : (s.toList == [109]) = false) (h1 : (s.toList == [103]) = false) (h2 : (s.toList == [115]) = false) (h3 : (s.toList == [75]) = false) (h4 : (s.toList == [109, 111, 108]) = false) (h : (s.toList == [65]) = true) : Calls Tryz.prog 242 #[.string s] w (SymPost (some ([49], [0, 0, 0, 0, 0, 1, 0], true)) w) := by
  go_enter Tryz.func242, Tryz.ntmps242
  go_wp2_with fail
  refine bodyPost_ret (v := .tuple #[.agg #[.string ⟨#[49]⟩, .int .i64 0, .int .i64 0, .int .i64 0, .int .i64 0, .int .i64 0, .int .i64 1, .int .i64 0, .bool true], .bool true]) (by simp [results, Tryz.results242, go_sem]) rfl ?_
  exact ⟨bea _ _, _, _, _, _, _, _, _, _, _, rfl, by rintro _ _ _ h; cases h; exact ⟨rfl, rfl, rfl⟩⟩
theorem sym_6 (s : ByteArray) (w : World) (h0 : (s.toList == [109]) = false) (h1 : (s.toList == [103]) = false) (h2 : (s.toList == [115]) = false) (h3 : (s.toList == [75]) = false) (h4 : (s.toList == [109, 111, 108]) = false) (h5 : (s.toList == [65]) = false) (h : (s.toList == [99, 100]) = true) : Calls Tryz.prog 242 #[.string s] w (SymPost (some ([49], [0, 0, 0, 0, 0, 0, 1], true)) w) := by
  go_enter Tryz.func242, Tryz.ntmps242
  go_wp2_with fail
  refine bodyPost_ret (v := .tuple #[.agg #[.string ⟨#[49]⟩, .int .i64 0, .int .i64 0, .int .i64 0, .int .i64 0, .int .i64 0, .int .i64 0, .int .i64 1, .bool true], .bool true]) (by simp [results, Tryz.results242, go_sem]) rfl ?_
  exact ⟨bea _ _, _, _, _, _, _, _, _, _, _, rfl, by rintro _ _ _ h; cases h; exact ⟨rfl, rfl, rfl⟩⟩
theorem sym_7 (s : ByteArray) (w : World) (h0 : (s.toList == [109]) = false) (h1 : (s.toList == [103]) = false) (h2 : (s.toList == [115]) = false) (h3 : (s.toList == [75]) = false) (h4 : (s.toList == [109, 111, 108]) = false) (h5 : (s.toList == [65]) = false) (h6 : (s.toList == [99, 100]) = false) (h : (s.toList == [109, 105, 110]) = true) : Calls Tryz.prog 242 #[.string s] w (SymPost (some ([54, 48], [0, 0, 1, 0, 0, 0, 0], false)) w) := by
  go_enter Tryz.func242, Tryz.ntmps242
  go_wp2_with fail
  refine bodyPost_ret (v := .tuple #[.agg #[.string ⟨#[54, 48]⟩, .int .i64 0, .int .i64 0, .int .i64 1, .int .i64 0, .int .i64 0, .int .i64 0, .int .i64 0, .bool false], .bool true]) (by simp [results, Tryz.results242, go_sem]) rfl ?_
  exact ⟨bea _ _, _, _, _, _, _, _, _, _, _, rfl, by rintro _ _ _ h; cases h; exact ⟨rfl, rfl, rfl⟩⟩
theorem sym_8 (s : ByteArray) (w : World) (h0 : (s.toList == [109]) = false) (h1 : (s.toList == [103]) = false) (h2 : (s.toList == [115]) = false) (h3 : (s.toList == [75]) = false) (h4 : (s.toList == [109, 111, 108]) = false) (h5 : (s.toList == [65]) = false) (h6 : (s.toList == [99, 100]) = false) (h7 : (s.toList == [109, 105, 110]) = false) (h : (s.toList == [104]) = true) : Calls Tryz.prog 242 #[.string s] w (SymPost (some ([51, 54, 48, 48], [0, 0, 1, 0, 0, 0, 0], false)) w) := by
  go_enter Tryz.func242, Tryz.ntmps242
  go_wp2_with fail
  refine bodyPost_ret (v := .tuple #[.agg #[.string ⟨#[51, 54, 48, 48]⟩, .int .i64 0, .int .i64 0, .int .i64 1, .int .i64 0, .int .i64 0, .int .i64 0, .int .i64 0, .bool false], .bool true]) (by simp [results, Tryz.results242, go_sem]) rfl ?_
  exact ⟨bea _ _, _, _, _, _, _, _, _, _, _, rfl, by rintro _ _ _ h; cases h; exact ⟨rfl, rfl, rfl⟩⟩
theorem sym_9 (s : ByteArray) (w : World) (h0 : (s.toList == [109]) = false) (h1 : (s.toList == [103]) = false) (h2 : (s.toList == [115]) = false) (h3 : (s.toList == [75]) = false) (h4 : (s.toList == [109, 111, 108]) = false) (h5 : (s.toList == [65]) = false) (h6 : (s.toList == [99, 100]) = false) (h7 : (s.toList == [109, 105, 110]) = false) (h8 : (s.toList == [104]) = false) (h : (s.toList == [100]) = true) : Calls Tryz.prog 242 #[.string s] w (SymPost (some ([56, 54, 52, 48, 48], [0, 0, 1, 0, 0, 0, 0], false)) w) := by
  go_enter Tryz.func242, Tryz.ntmps242
  go_wp2_with fail
  refine bodyPost_ret (v := .tuple #[.agg #[.string ⟨#[56, 54, 52, 48, 48]⟩, .int .i64 0, .int .i64 0, .int .i64 1, .int .i64 0, .int .i64 0, .int .i64 0, .int .i64 0, .bool false], .bool true]) (by simp [results, Tryz.results242, go_sem]) rfl ?_
  exact ⟨bea _ _, _, _, _, _, _, _, _, _, _, rfl, by rintro _ _ _ h; cases h; exact ⟨rfl, rfl, rfl⟩⟩
theorem sym_10 (s : ByteArray) (w : World) (h0 : (s.toList == [109]) = false) (h1 : (s.toList == [103]) = false) (h2 : (s.toList == [115]) = false) (h3 : (s.toList == [75]) = false) (h4 : (s.toList == [109, 111, 108]) = false) (h5 : (s.toList == [65]) = false) (h6 : (s.toList == [99, 100]) = false) (h7 : (s.toList == [109, 105, 110]) = false) (h8 : (s.toList == [104]) = false) (h9 : (s.toList == [100]) = false) (h : (s.toList == [116]) = true) : Calls Tryz.prog 242 #[.string s] w (SymPost (some ([49, 48, 48, 48], [0, 1, 0, 0, 0, 0, 0], true)) w) := by
  go_enter Tryz.func242, Tryz.ntmps242
  go_wp2_with fail
  refine bodyPost_ret (v := .tuple #[.agg #[.string ⟨#[49, 48, 48, 48]⟩, .int .i64 0, .int .i64 1, .int .i64 0, .int .i64 0, .int .i64 0, .int .i64 0, .int .i64 0, .bool true], .bool true]) (by simp [results, Tryz.results242, go_sem]) rfl ?_
  exact ⟨bea _ _, _, _, _, _, _, _, _, _, _, rfl, by rintro _ _ _ h; cases h; exact ⟨rfl, rfl, rfl⟩⟩
theorem sym_11 (s : ByteArray) (w : World) (h0 : (s.toList == [109]) = false) (h1 : (s.toList == [103]) = false) (h2 : (s.toList == [115]) = false) (h3 : (s.toList == [75]) = false) (h4 : (s.toList == [109, 111, 108]) = false) (h5 : (s.toList == [65]) = false) (h6 : (s.toList == [99, 100]) = false) (h7 : (s.toList == [109, 105, 110]) = false) (h8 : (s.toList == [104]) = false) (h9 : (s.toList == [100]) = false) (h10 : (s.toList == [116]) = false) (h : (s.toList == [76]) = true) : Calls Tryz.prog 242 #[.string s] w (SymPost (some ([49, 47, 49, 48, 48, 48], [3, 0, 0, 0, 0, 0, 0], true)) w) := by
  go_enter Tryz.func242, Tryz.ntmps242
  go_wp2_with fail
  refine bodyPost_ret (v := .tuple #[.agg #[.string ⟨#[49, 47, 49, 48, 48, 48]⟩, .int .i64 3, .int .i64 0, .int .i64 0, .int .i64 0, .int .i64 0, .int .i64 0, .int .i64 0, .bool true], .bool true]) (by simp [results, Tryz.results242, go_sem]) rfl ?_
  exact ⟨bea _ _, _, _, _, _, _, _, _, _, _, rfl, by rintro _ _ _ h; cases h; exact ⟨rfl, rfl, rfl⟩⟩
theorem sym_12 (s : ByteArray) (w : World) (h0 : (s.toList == [109]) = false) (h1 : (s.toList == [103]) = false) (h2 : (s.toList == [115]) = false) (h3 : (s.toList == [75]) = false) (h4 : (s.toList == [109, 111, 108]) = false) (h5 : (s.toList == [65]) = false) (h6 : (s.toList == [99, 100]) = false) (h7 : (s.toList == [109, 105, 110]) = false) (h8 : (s.toList == [104]) = false) (h9 : (s.toList == [100]) = false) (h10 : (s.toList == [116]) = false) (h11 : (s.toList == [76]) = false) (h : (s.toList == [72, 122]) = true) : Calls Tryz.prog 242 #[.string s] w (SymPost (some ([49], [0, 0, -1, 0, 0, 0, 0], true)) w) := by
  go_enter Tryz.func242, Tryz.ntmps242
  go_wp2_with fail
  refine bodyPost_ret (v := .tuple #[.agg #[.string ⟨#[49]⟩, .int .i64 0, .int .i64 0, .int .i64 (-1), .int .i64 0, .int .i64 0, .int .i64 0, .int .i64 0, .bool true], .bool true]) (by simp [results, Tryz.results242, go_sem]) rfl ?_
  exact ⟨bea _ _, _, _, _, _, _, _, _, _, _, rfl, by rintro _ _ _ h; cases h; exact ⟨rfl, rfl, rfl⟩⟩
theorem sym_13 (s : ByteArray) (w : World) (h0 : (s.toList == [109]) = false) (h1 : (s.toList == [103]) = false) (h2 : (s.toList == [115]) = false) (h3 : (s.toList == [75]) = false) (h4 : (s.toList == [109, 111, 108]) = false) (h5 : (s.toList == [65]) = false) (h6 : (s.toList == [99, 100]) = false) (h7 : (s.toList == [109, 105, 110]) = false) (h8 : (s.toList == [104]) = false) (h9 : (s.toList == [100]) = false) (h10 : (s.toList == [116]) = false) (h11 : (s.toList == [76]) = false) (h12 : (s.toList == [72, 122]) = false) (h : (s.toList == [78]) = true) : Calls Tryz.prog 242 #[.string s] w (SymPost (some ([49], [1, 1, -2, 0, 0, 0, 0], true)) w) := by
  go_enter Tryz.func242, Tryz.ntmps242
  go_wp2_with fail
  refine bodyPost_ret (v := .tuple #[.agg #[.string ⟨#[49]⟩, .int .i64 1, .int .i64 1, .int .i64 (-2), .int .i64 0, .int .i64 0, .int .i64 0, .int .i64 0, .bool true], .bool true]) (by simp [results, Tryz.results242, go_sem]) rfl ?_
  exact ⟨bea _ _, _, _, _, _, _, _, _, _, _, rfl, by rintro _ _ _ h; cases h; exact ⟨rfl, rfl, rfl⟩⟩
theorem sym_14 (s : ByteArray) (w : World) (h0 : (s.toList == [109]) = false) (h1 : (s.toList == [103]) = false) (h2 : (s.toList == [115]) = false) (h3 : (s.toList == [75]) = false) (h4 : (s.toList == [109, 111, 108]) = false) (h5 : (s.toList == [65]) = false) (h6 : (s.toList == [99, 100]) = false) (h7 : (s.toList == [109, 105, 110]) = false) (h8 : (s.toList == [104]) = false) (h9 : (s.toList == [100]) = false) (h10 : (s.toList == [116]) = false) (h11 : (s.toList == [76]) = false) (h12 : (s.toList == [72, 122]) = false) (h13 : (s.toList == [78]) = false) (h : (s.toList == [80, 97]) = true) : Calls Tryz.prog 242 #[.string s] w (SymPost (some ([49], [-1, 1, -2, 0, 0, 0, 0], true)) w) := by
  go_enter Tryz.func242, Tryz.ntmps242
  go_wp2_with fail
  refine bodyPost_ret (v := .tuple #[.agg #[.string ⟨#[49]⟩, .int .i64 (-1), .int .i64 1, .int .i64 (-2), .int .i64 0, .int .i64 0, .int .i64 0, .int .i64 0, .bool true], .bool true]) (by simp [results, Tryz.results242, go_sem]) rfl ?_
  exact ⟨bea _ _, _, _, _, _, _, _, _, _, _, rfl, by rintro _ _ _ h; cases h; exact ⟨rfl, rfl, rfl⟩⟩
theorem sym_15 (s : ByteArray) (w : World) (h0 : (s.toList == [109]) = false) (h1 : (s.toList == [103]) = false) (h2 : (s.toList == [115]) = false) (h3 : (s.toList == [75]) = false) (h4 : (s.toList == [109, 111, 108]) = false) (h5 : (s.toList == [65]) = false) (h6 : (s.toList == [99, 100]) = false) (h7 : (s.toList == [109, 105, 110]) = false) (h8 : (s.toList == [104]) = false) (h9 : (s.toList == [100]) = false) (h10 : (s.toList == [116]) = false) (h11 : (s.toList == [76]) = false) (h12 : (s.toList == [72, 122]) = false) (h13 : (s.toList == [78]) = false) (h14 : (s.toList == [80, 97]) = false) (h : (s.toList == [74]) = true) : Calls Tryz.prog 242 #[.string s] w (SymPost (some ([49], [2, 1, -2, 0, 0, 0, 0], true)) w) := by
  go_enter Tryz.func242, Tryz.ntmps242
  go_wp2_with fail
  refine bodyPost_ret (v := .tuple #[.agg #[.string ⟨#[49]⟩, .int .i64 2, .int .i64 1, .int .i64 (-2), .int .i64 0, .int .i64 0, .int .i64 0, .int .i64 0, .bool true], .bool true]) (by simp [results, Tryz.results242, go_sem]) rfl ?_
  exact ⟨bea _ _, _, _, _, _, _, _, _, _, _, rfl, by rintro _ _ _ h; cases h; exact ⟨rfl, rfl, rfl⟩⟩
theorem sym_16 (s : ByteArray) (w : World) (h0 : (s.toList == [109]) = false) (h1 : (s.toList == [103]) = false) (h2 : (s.toList == [115]) = false) (h3 : (s.toList == [75]) = false) (h4 : (s.toList == [109, 111, 108]) = false) (h5 : (s.toList == [65]) = false) (h6 : (s.toList == [99, 100]) = false) (h7 : (s.toList == [109, 105, 110]) = false) (h8 : (s.toList == [104]) = false) (h9 : (s.toList == [100]) = false) (h10 : (s.toList == [116]) = false) (h11 : (s.toList == [76]) = false) (h12 : (s.toList == [72, 122]) = false) (h13 : (s.toList == [78]) = false) (h14 : (s.toList == [80, 97]) = false) (h15 : (s.toList == [74]) = false) (h : (s.toList == [87]) = true) : Calls Tryz.prog 242 #[.string s] w (SymPost (some ([49], [2, 1, -3, 0, 0, 0, 0], true)) w) := by
  go_enter Tryz.func242, Tryz.ntmps242
  go_wp2_with fail
  refine bodyPost_ret (v := .tuple #[.agg #[.string ⟨#[49]⟩, .int .i64 2, .int .i64 1, .int .i64 (-3), .int .i64 0, .int .i64 0, .int .i64 0, .int .i64 0, .bool true], .bool true]) (by simp [results, Tryz.results242, go_sem]) rfl ?_
  exact ⟨bea _ _, _, _, _, _, _, _, _, _, _, rfl, by rintro _ _ _ h; cases h; exact ⟨rfl, rfl, rfl⟩⟩
theorem sym_17 (s : ByteArray) (w : World) (h0 : (s.toList == [109]) = false) (h1 : (s.toList == [103]) = false) (h2 : (s.toList == [115]) = false) (h3 : (s.toList == [75]) = false) (h4 : (s.toList == [109, 111, 108]) = false) (h5 : (s.toList == [65]) = false) (h6 : (s.toList == [99, 100]) = false) (h7 : (s.toList == [109, 105, 110]) = false) (h8 : (s.toList == [104]) = false) (h9 : (s.toList == [100]) = false) (h10 : (s.toList == [116]) = false) (h11 : (s.toList == [76]) = false) (h12 : (s.toList == [72, 122]) = false) (h13 : (s.toList == [78]) = false) (h14 : (s.toList == [80, 97]) = false) (h15 : (s.toList == [74]) = false) (h16 : (s.toList == [87]) = false) (h : (s.toList == [98, 97, 114]) = true) : Calls Tryz.prog 242 #[.string s] w (SymPost (some ([49, 48, 48, 48, 48, 48], [-1, 1, -2, 0, 0, 0, 0], true)) w) := by
  go_enter Tryz.func242, Tryz.ntmps242
  go_wp2_with fail
  refine bodyPost_ret (v := .tuple #[.agg #[.string ⟨#[49, 48, 48, 48, 48, 48]⟩, .int .i64 (-1), .int .i64 1, .int .i64 (-2), .int .i64 0, .int .i64 0, .int .i64 0, .int .i64 0, .bool true], .bool true]) (by simp [results, Tryz.results242, go_sem]) rfl ?_
  exact ⟨bea _ _, _, _, _, _, _, _, _, _, _, rfl, by rintro _ _ _ h; cases h; exact ⟨rfl, rfl, rfl⟩⟩
theorem sym_none (s : ByteArray) (w : World) (h0 : (s.toList == [109]) = false) (h1 : (s.toList == [103]) = false) (h2 : (s.toList == [115]) = false) (h3 : (s.toList == [75]) = false) (h4 : (s.toList == [109, 111, 108]) = false) (h5 : (s.toList == [65]) = false) (h6 : (s.toList == [99, 100]) = false) (h7 : (s.toList == [109, 105, 110]) = false) (h8 : (s.toList == [104]) = false) (h9 : (s.toList == [100]) = false) (h10 : (s.toList == [116]) = false) (h11 : (s.toList == [76]) = false) (h12 : (s.toList == [72, 122]) = false) (h13 : (s.toList == [78]) = false) (h14 : (s.toList == [80, 97]) = false) (h15 : (s.toList == [74]) = false) (h16 : (s.toList == [87]) = false) (h17 : (s.toList == [98, 97, 114]) = false) : Calls Tryz.prog 242 #[.string s] w (SymPost none w) := by
  go_enter Tryz.func242, Tryz.ntmps242
  go_wp2_with fail
  refine bodyPost_ret (v := .tuple #[.agg #[.string ⟨#[]⟩, .int .i64 0, .int .i64 0, .int .i64 0, .int .i64 0, .int .i64 0, .int .i64 0, .int .i64 0, .bool false], .bool false]) (by simp [results, Tryz.results242, go_sem]) rfl ?_
  exact ⟨bea _ _, _, _, _, _, _, _, _, _, _, rfl, by rintro _ _ _ h; cases h⟩
theorem findSymbol_any (s : ByteArray) (w : World) : Calls Tryz.prog 242 #[.string s] w (SymPost (symT s.data.toList) w) := by
  unfold symT
  rw [← Lib.toList_data]
  cases h0 : (s.toList == [109]) with
  | true => exact sym_0 s w  h0
  | false =>
  cases h1 : (s.toList == [103]) with
  | true => exact sym_1 s w h0 h1
  | false =>
  cases h2 : (s.toList == [115]) with
  | true => exact sym_2 s w h0 h1 h2
  | false =>
  cases h3 : (s.toList == [75]) with
  | true => exact sym_3 s w h0 h1 h2 h3
  | false =>
  cases h4 : (s.toList == [109, 111, 108]) with
  | true => exact sym_4 s w h0 h1 h2 h3 h4
  | false =>
  cases h5 : (s.toList == [65]) with
  | true => exact sym_5 s w h0 h1 h2 h3 h4 h5
  | false =>
  cases h6 : (s.toList == [99, 100]) with
  | true => exact sym_6 s w h0 h1 h2 h3 h4 h5 h6
  | false =>
  cases h7 : (s.toList == [109, 105, 110]) with
  | true => exact sym_7 s w h0 h1 h2 h3 h4 h5 h6 h7
  | false =>
  cases h8 : (s.toList == [104]) with
  | true => exact sym_8 s w h0 h1 h2 h3 h4 h5 h6 h7 h8
  | false =>
  cases h9 : (s.toList == [100]) with
  | true => exact sym_9 s w h0 h1 h2 h3 h4 h5 h6 h7 h8 h9
  | false =>
  cases h10 : (s.toList == [116]) with
  | true => exact sym_10 s w h0 h1 h2 h3 h4 h5 h6 h7 h8 h9 h10
  | false =>
  cases h11 : (s.toList == [76]) with
  | true => exact sym_11 s w h0 h1 h2 h3 h4 h5 h6 h7 h8 h9 h10 h11
  | false =>
  cases h12 : (s.toList == [72, 122]) with
  | true => exact sym_12 s w h0 h1 h2 h3 h4 h5 h6 h7 h8 h9 h10 h11 h12
  | false =>
  cases h13 : (s.toList == [78]) with
  | true => exact sym_13 s w h0 h1 h2 h3 h4 h5 h6 h7 h8 h9 h10 h11 h12 h13
  | false =>
  cases h14 : (s.toList == [80, 97]) with
  | true => exact sym_14 s w h0 h1 h2 h3 h4 h5 h6 h7 h8 h9 h10 h11 h12 h13 h14
  | false =>
  cases h15 : (s.toList == [74]) with
  | true => exact sym_15 s w h0 h1 h2 h3 h4 h5 h6 h7 h8 h9 h10 h11 h12 h13 h14 h15
  | false =>
  cases h16 : (s.toList == [87]) with
  | true => exact sym_16 s w h0 h1 h2 h3 h4 h5 h6 h7 h8 h9 h10 h11 h12 h13 h14 h15 h16
  | false =>
  cases h17 : (s.toList == [98, 97, 114]) with
  | true => exact sym_17 s w h0 h1 h2 h3 h4 h5 h6 h7 h8 h9 h10 h11 h12 h13 h14 h15 h16 h17
  | false =>
  exact sym_none s w h0 h1 h2 h3 h4 h5 h6 h7 h8 h9 h10 h11 h12 h13 h14 h15 h16 h17
def NoU (v : Value) : Prop := ∀ n, v ≠ .int .u64 n
theorem nub (b : Bool) : NoU (.bool b) := fun _ h => by cases h
theorem nus (p : Option Addr) (n c : Nat) : NoU (.slice p n c) := fun _ h => by cases h
theorem nui (n : Int) : NoU (.int .i64 n) := fun _ h => by cases h
theorem nat_setU {W : World} {g : Nat} {c : Array Value} {T : TypeId} (hz : W.heap[g]? = some (.cells c T (0, 0))) (hc : ∀ (i : Nat) v, c[i]? = some v → NoU v) {v : Value} {x : Nat} (hx : NatAt W v x) (k : Nat) (a : Value) : NatAt (W.setCell ⟨g, k, none⟩ a) v x := by
  obtain ⟨p, n, c', l, h1, h2, hr, h4⟩ := hx
  refine ⟨p, n, c', l, h1, h2, ⟨hr.len, ?_⟩, h4⟩
  rcases hr.cell with h0 | ⟨b, off, hp, hlt, hcl⟩
  · exact .inl h0
  · by_cases hn : n = 0
    · exact .inl hn
    refine .inr ⟨b, off, hp, by rw [World.size_setCell]; exact hlt, fun j hj => ?_⟩
    have hne : b ≠ g := by
      rintro rfl
      have h1 := hcl 0 (by omega)
      rw [ceh hz] at h1
      exact hc _ _ h1 _ rfl
    rw [← hcl j hj]
    exact World.cell?_of_block (w := W) (Below.heap_setCell _ _ _ _ hne)
theorem rat_setU {W : World} {g : Nat} {c : Array Value} {T : TypeId} (hz : W.heap[g]? = some (.cells c T (0, 0))) (hc : ∀ (i : Nat) v, c[i]? = some v → NoU v) {x : Value} {q : Rat} {K : Nat} (hx : RatIs W x q K) (k : Nat) (a : Value) : RatIs (W.setCell ⟨g, k, none⟩ a) x q K := by
  obtain ⟨s, m, n, ⟨u, v, rfl, hu, hv, hs⟩, hr⟩ := hx
  exact ⟨s, m, n, ⟨u, v, rfl, nat_setU hz hc hu k a, nat_setU hz hc hv k a, hs⟩, hr⟩
structure ResF (B : Nat) (w0 W : World) : Prop where
  below : Below w0.heap.size w0 W
  z : ∃ z0 z1 z2 z3 z4 z5 z6 z7 z8 z9 z10 : Value, W.heap[B]? = some (.cells #[z0, z1, z2, z3, z4, z5, z6, z7, z8, z9, z10] 157 (0, 0)) ∧ NoU z0 ∧ NoU z1 ∧ NoU z2 ∧ NoU z3 ∧ NoU z4 ∧ NoU z5 ∧ NoU z6 ∧ NoU z7 ∧ NoU z8 ∧ NoU z9 ∧ NoU z10
theorem noU_all {z0 z1 z2 z3 z4 z5 z6 z7 z8 z9 z10 : Value} (h : NoU z0 ∧ NoU z1 ∧ NoU z2 ∧ NoU z3 ∧ NoU z4 ∧ NoU z5 ∧ NoU z6 ∧ NoU z7 ∧ NoU z8 ∧ NoU z9 ∧ NoU z10) : ∀ (i : Nat) v, (#[z0, z1, z2, z3, z4, z5, z6, z7, z8, z9, z10] : Array Value)[i]? = some v → NoU v := by
  obtain ⟨h0, h1, h2, h3, h4, h5, h6, h7, h8, h9, h10⟩ := h
  intro i v hv
  match i, hv with
  | 0, hv => simp at hv; exact hv ▸ h0
  | 1, hv => simp at hv; exact hv ▸ h1
  | 2, hv => simp at hv; exact hv ▸ h2
  | 3, hv => simp at hv; exact hv ▸ h3
  | 4, hv => simp at hv; exact hv ▸ h4
  | 5, hv => simp at hv; exact hv ▸ h5
  | 6, hv => simp at hv; exact hv ▸ h6
  | 7, hv => simp at hv; exact hv ▸ h7
  | 8, hv => simp at hv; exact hv ▸ h8
  | 9, hv => simp at hv; exact hv ▸ h9
  | 10, hv => simp at hv; exact hv ▸ h10
  | k + 11, hv => simp at hv
section
variable {B : Nat} {w0 W W' : World}
theorem ResF.lt (h : ResF B w0 W) : B < W.heap.size := by
  obtain ⟨z0, z1, z2, z3, z4, z5, z6, z7, z8, z9, z10, hz, -⟩ := h.z
  exact (Array.getElem?_eq_some_iff.1 hz).1
theorem ResF.next (h : ResF B w0 W) (hb : Below W.heap.size W W') : ResF B w0 W' := by
  obtain ⟨z0, z1, z2, z3, z4, z5, z6, z7, z8, z9, z10, hz, hn⟩ := h.z
  exact ⟨h.below.trans (hb.mono h.below.size), z0, z1, z2, z3, z4, z5, z6, z7, z8, z9, z10, (hb.block _ h.lt).trans hz, hn⟩
theorem ResF.drew (h : ResF B w0 W) : ResF B w0 W.drew := ⟨h.below.drew, h.z⟩
theorem ResF.slots (h : ResF B w0 W) : ∃ z0 z1 z2 z3 z4 z5 z6 z7 z8 z9 z10 : Value, (W.cell? ⟨B, 0, none⟩ = some z0 ∧ W.cell? ⟨B, 1, none⟩ = some z1 ∧ W.cell? ⟨B, 2, none⟩ = some z2 ∧ W.cell? ⟨B, 3, none⟩ = some z3 ∧ W.cell? ⟨B, 4, none⟩ = some z4 ∧ W.cell? ⟨B, 5, none⟩ = some z5 ∧ W.cell? ⟨B, 6, none⟩ = some z6 ∧ W.cell? ⟨B, 7, none⟩ = some z7 ∧ W.cell? ⟨B, 8, none⟩ = some z8 ∧ W.cell? ⟨B, 9, none⟩ = some z9 ∧ W.cell? ⟨B, 10, none⟩ = some z10) ∧ (W.frozen? ⟨B, 0, none⟩ = false ∧ W.frozen? ⟨B, 1, none⟩ = false ∧ W.frozen? ⟨B, 2, none⟩ = false ∧ W.frozen? ⟨B, 3, none⟩ = false ∧ W.frozen? ⟨B, 4, none⟩ = false ∧ W.frozen? ⟨B, 5, none⟩ = false ∧ W.frozen? ⟨B, 6, none⟩ = false ∧ W.frozen? ⟨B, 7, none⟩ = false ∧ W.frozen? ⟨B, 8, none⟩ = false ∧ W.frozen? ⟨B, 9, none⟩ = false ∧ W.frozen? ⟨B, 10, none⟩ = false) := by
  obtain ⟨z0, z1, z2, z3, z4, z5, z6, z7, z8, z9, z10, hz, -⟩ := h.z
  exact ⟨z0, z1, z2, z3, z4, z5, z6, z7, z8, z9, z10, ⟨ceh hz 0, ceh hz 1, ceh hz 2, ceh hz 3, ceh hz 4, ceh hz 5, ceh hz 6, ceh hz 7, ceh hz 8, ceh hz 9, ceh hz 10⟩, ⟨foh hz 0, foh hz 1, foh hz 2, foh hz 3, foh hz 4, foh hz 5, foh hz 6, foh hz 7, foh hz 8, foh hz 9, foh hz 10⟩⟩
theorem ResF.put (h : ResF B w0 W) (hB : w0.heap.size ≤ B) (a0 a1 a2 a3 a4 a5 a6 a7 a8 a9 a10 : Value) (hn : NoU a0 ∧ NoU a1 ∧ NoU a2 ∧ NoU a3 ∧ NoU a4 ∧ NoU a5 ∧ NoU a6 ∧ NoU a7 ∧ NoU a8 ∧ NoU a9 ∧ NoU a10) : ResF B w0 ((((((((((((W).setCell ⟨B, 0, none⟩ a0).setCell ⟨B, 1, none⟩ a1).setCell ⟨B, 2, none⟩ a2).setCell ⟨B, 3, none⟩ a3).setCell ⟨B, 4, none⟩ a4).setCell ⟨B, 5, none⟩ a5).setCell ⟨B, 6, none⟩ a6).setCell ⟨B, 7, none⟩ a7).setCell ⟨B, 8, none⟩ a8).setCell ⟨B, 9, none⟩ a9).setCell ⟨B, 10, none⟩ a10) ∧ ((((((((((((W).setCell ⟨B, 0, none⟩ a0).setCell ⟨B, 1, none⟩ a1).setCell ⟨B, 2, none⟩ a2).setCell ⟨B, 3, none⟩ a3).setCell ⟨B, 4, none⟩ a4).setCell ⟨B, 5, none⟩ a5).setCell ⟨B, 6, none⟩ a6).setCell ⟨B, 7, none⟩ a7).setCell ⟨B, 8, none⟩ a8).setCell ⟨B, 9, none⟩ a9).setCell ⟨B, 10, none⟩ a10).heap[B]? = some (.cells #[a0, a1, a2, a3, a4, a5, a6, a7, a8, a9, a10] 157 (0, 0)) := by
  obtain ⟨z0, z1, z2, z3, z4, z5, z6, z7, z8, z9, z10, hz, -⟩ := h.z
  have hh : ((((((((((((W).setCell ⟨B, 0, none⟩ a0).setCell ⟨B, 1, none⟩ a1).setCell ⟨B, 2, none⟩ a2).setCell ⟨B, 3, none⟩ a3).setCell ⟨B, 4, none⟩ a4).setCell ⟨B, 5, none⟩ a5).setCell ⟨B, 6, none⟩ a6).setCell ⟨B, 7, none⟩ a7).setCell ⟨B, 8, none⟩ a8).setCell ⟨B, 9, none⟩ a9).setCell ⟨B, 10, none⟩ a10).heap[B]? = some (.cells #[a0, a1, a2, a3, a4, a5, a6, a7, a8, a9, a10] 157 (0, 0)) := by
    have h0 : ((W).setCell ⟨B, 0, none⟩ a0).heap[B]? = some (.cells #[a0, z1, z2, z3, z4, z5, z6, z7, z8, z9, z10] 157 (0, 0)) := heap_set B 0 _ 157 a0 hz
    have h1 : (((W).setCell ⟨B, 0, none⟩ a0).setCell ⟨B, 1, none⟩ a1).heap[B]? = some (.cells #[a0, a1, z2, z3, z4, z5, z6, z7, z8, z9, z10] 157 (0, 0)) := heap_set B 1 _ 157 a1 h0
    have h2 : ((((W).setCell ⟨B, 0, none⟩ a0).setCell ⟨B, 1, none⟩ a1).setCell ⟨B, 2, none⟩ a2).heap[B]? = some (.cells #[a0, a1, a2, z3, z4, z5, z6, z7, z8, z9, z10] 157 (0, 0)) := heap_set B 2 _ 157 a2 h1
    have h3 : (((((W).setCell ⟨B, 0, none⟩ a0).setCell ⟨B, 1, none⟩ a1).setCell ⟨B, 2, none⟩ a2).setCell ⟨B, 3, none⟩ a3).heap[B]? = some (.cells #[a0, a1, a2, a3, z4, z5, z6, z7, z8, z9, z10] 157 (0, 0)) := heap_set B 3 _ 157 a3 h2
    have h4 : ((((((W).setCell ⟨B, 0, none⟩ a0).setCell ⟨B, 1, none⟩ a1).setCell ⟨B, 2, none⟩ a2).setCell ⟨B, 3, none⟩ a3).setCell ⟨B, 4, none⟩ a4).heap[B]? = some (.cells #[a0, a1, a2, a3, a4, z5, z6, z7, z8, z9, z10] 157 (0, 0)) := heap_set B 4 _ 157 a4 h3
    have h5 : (((((((W).setCell ⟨B, 0, none⟩ a0).setCell ⟨B, 1, none⟩ a1).setCell ⟨B, 2, none⟩ a2).setCell ⟨B, 3, none⟩ a3).setCell ⟨B, 4, none⟩ a4).setCell ⟨B, 5, none⟩ a5).heap[B]? = some (.cells #[a0, a1, a2, a3, a4, a5, z6, z7, z8, z9, z10] 157 (0, 0)) := heap_set B 5 _ 157 a5 h4
    have h6 : ((((((((W).setCell ⟨B, 0, none⟩ a0).setCell ⟨B, 1, none⟩ a1).setCell ⟨B, 2, none⟩ a2).setCell ⟨B, 3, none⟩ a3).setCell ⟨B, 4, none⟩ a4).setCell ⟨B, 5, none⟩ a5).setCell ⟨B, 6, none⟩ a6).heap[B]? = some (.cells #[a0, a1, a2, a3, a4, a5, a6, z7, z8, z9, z10] 157 (0, 0)) := heap_set B 6 _ 157 a6 h5
    have h7 : (((((((((W).setCell ⟨B, 0, none⟩ a0).setCell ⟨B, 1, none⟩ a1).setCell ⟨B, 2, none⟩ a2).setCell ⟨B, 3, none⟩ a3).setCell ⟨B, 4, none⟩ a4).setCell ⟨B, 5, none⟩ a5).setCell ⟨B, 6, none⟩ a6).setCell ⟨B, 7, none⟩ a7).heap[B]? = some (.cells #[a0, a1, a2, a3, a4, a5, a6, a7, z8, z9, z10] 157 (0, 0)) := heap_set B 7 _ 157 a7 h6
    have h8 : ((((((((((W).setCell ⟨B, 0, none⟩ a0).setCell ⟨B, 1, none⟩ a1).setCell ⟨B, 2, none⟩ a2).setCell ⟨B, 3, none⟩ a3).setCell ⟨B, 4, none⟩ a4).setCell ⟨B, 5, none⟩ a5).setCell ⟨B, 6, none⟩ a6).setCell ⟨B, 7, none⟩ a7).setCell ⟨B, 8, none⟩ a8).heap[B]? = some (.cells #[a0, a1, a2, a3, a4, a5, a6, a7, a8, z9, z10] 157 (0, 0)) := heap_set B 8 _ 157 a8 h7
    have h9 : (((((((((((W).setCell ⟨B, 0, none⟩ a0).setCell ⟨B, 1, none⟩ a1).setCell ⟨B, 2, none⟩ a2).setCell ⟨B, 3, none⟩ a3).setCell ⟨B, 4, none⟩ a4).setCell ⟨B, 5, none⟩ a5).setCell ⟨B, 6, none⟩ a6).setCell ⟨B, 7, none⟩ a7).setCell ⟨B, 8, none⟩ a8).setCell ⟨B, 9, none⟩ a9).heap[B]? = some (.cells #[a0, a1, a2, a3, a4, a5, a6, a7, a8, a9, z10] 157 (0, 0)) := heap_set B 9 _ 157 a9 h8
    have h10 : ((((((((((((W).setCell ⟨B, 0, none⟩ a0).setCell ⟨B, 1, none⟩ a1).setCell ⟨B, 2, none⟩ a2).setCell ⟨B, 3, none⟩ a3).setCell ⟨B, 4, none⟩ a4).setCell ⟨B, 5, none⟩ a5).setCell ⟨B, 6, none⟩ a6).setCell ⟨B, 7, none⟩ a7).setCell ⟨B, 8, none⟩ a8).setCell ⟨B, 9, none⟩ a9).setCell ⟨B, 10, none⟩ a10).heap[B]? = some (.cells #[a0, a1, a2, a3, a4, a5, a6, a7, a8, a9, a10] 157 (0, 0)) := heap_set B 10 _ 157 a10 h9
    exact h10
  exact ⟨⟨(((((((((((h.below).setCell hB _).setCell hB _).setCell hB _).setCell hB _).setCell hB _).setCell hB _).setCell hB _).setCell hB _).setCell hB _).setCell hB _).setCell hB _, a0, a1, a2, a3, a4, a5, a6, a7, a8, a9, a10, hh, hn⟩, hh⟩
theorem ResF.rat (h : ResF B w0 W) {x : Value} {q : Rat} {K : Nat} (hx : RatIs W x q K) (a0 a1 a2 a3 a4 a5 a6 a7 a8 a9 a10 : Value) (hn : NoU a0 ∧ NoU a1 ∧ NoU a2 ∧ NoU a3 ∧ NoU a4 ∧ NoU a5 ∧ NoU a6 ∧ NoU a7 ∧ NoU a8 ∧ NoU a9 ∧ NoU a10) : RatIs ((((((((((((W).setCell ⟨B, 0, none⟩ a0).setCell ⟨B, 1, none⟩ a1).setCell ⟨B, 2, none⟩ a2).setCell ⟨B, 3, none⟩ a3).setCell ⟨B, 4, none⟩ a4).setCell ⟨B, 5, none⟩ a5).setCell ⟨B, 6, none⟩ a6).setCell ⟨B, 7, none⟩ a7).setCell ⟨B, 8, none⟩ a8).setCell ⟨B, 9, none⟩ a9).setCell ⟨B, 10, none⟩ a10) x q K := by
  obtain ⟨z0, z1, z2, z3, z4, z5, z6, z7, z8, z9, z10, hz, hzn⟩ := h.z
  obtain ⟨h0, h1, h2, h3, h4, h5, h6, h7, h8, h9, h10⟩ := hzn
  obtain ⟨g0, g1, g2, g3, g4, g5, g6, g7, g8, g9, g10⟩ := hn
  have x0 := rat_setU hz (noU_all ⟨h0, h1, h2, h3, h4, h5, h6, h7, h8, h9, h10⟩) hx 0 a0
  have y0 : ((W).setCell ⟨B, 0, none⟩ a0).heap[B]? = some (.cells #[a0, z1, z2, z3, z4, z5, z6, z7, z8, z9, z10] 157 (0, 0)) := heap_set B 0 _ 157 a0 hz
  have x1 := rat_setU y0 (noU_all ⟨g0, h1, h2, h3, h4, h5, h6, h7, h8, h9, h10⟩) x0 1 a1
  have y1 : (((W).setCell ⟨B, 0, none⟩ a0).setCell ⟨B, 1, none⟩ a1).heap[B]? = some (.cells #[a0, a1, z2, z3, z4, z5, z6, z7, z8, z9, z10] 157 (0, 0)) := heap_set B 1 _ 157 a1 y0
  have x2 := rat_setU y1 (noU_all ⟨g0, g1, h2, h3, h4, h5, h6, h7, h8, h9, h10⟩) x1 2 a2
  have y2 : ((((W).setCell ⟨B, 0, none⟩ a0).setCell ⟨B, 1, none⟩ a1).setCell ⟨B, 2, none⟩ a2).heap[B]? = some (.cells #[a0, a1, a2, z3, z4, z5, z6, z7, z8, z9, z10] 157 (0, 0)) := heap_set B 2 _ 157 a2 y1
  have x3 := rat_setU y2 (noU_all ⟨g0, g1, g2, h3, h4, h5, h6, h7, h8, h9, h10⟩) x2 3 a3
  have y3 : (((((W).setCell ⟨B, 0, none⟩ a0).setCell ⟨B, 1, none⟩ a1).setCell ⟨B, 2, none⟩ a2).setCell ⟨B, 3, none⟩ a3).heap[B]? = some (.cells #[a0, a1, a2, a3, z4, z5, z6, z7, z8, z9, z10] 157 (0, 0)) := heap_set B 3 _ 157 a3 y2
  have x4 := rat_setU y3 (noU_all ⟨g0, g1, g2, g3, h4, h5, h6, h7, h8, h9, h10⟩) x3 4 a4
  have y4 : ((((((W).setCell ⟨B, 0, none⟩ a0).setCell ⟨B, 1, none⟩ a1).setCell ⟨B, 2, none⟩ a2).setCell ⟨B, 3, none⟩ a3).setCell ⟨B, 4, none⟩ a4).heap[B]? = some (.cells #[a0, a1, a2, a3, a4, z5, z6, z7, z8, z9, z10] 157 (0, 0)) := heap_set B 4 _ 157 a4 y3
  have x5 := rat_setU y4 (noU_all ⟨g0, g1, g2, g3, g4, h5, h6, h7, h8, h9, h10⟩) x4 5 a5
  have y5 : (((((((W).setCell ⟨B, 0, none⟩ a0).setCell ⟨B, 1, none⟩ a1).setCell ⟨B, 2, none⟩ a2).setCell ⟨B, 3, none⟩ a3).setCell ⟨B, 4, none⟩ a4).setCell ⟨B, 5, none⟩ a5).heap[B]? = some (.cells #[a0, a1, a2, a3, a4, a5, z6, z7, z8, z9, z10] 157 (0, 0)) := heap_set B 5 _ 157 a5 y4
  have x6 := rat_setU y5 (noU_all ⟨g0, g1, g2, g3, g4, g5, h6, h7, h8, h9, h10⟩) x5 6 a6
  have y6 : ((((((((W).setCell ⟨B, 0, none⟩ a0).setCell ⟨B, 1, none⟩ a1).setCell ⟨B, 2, none⟩ a2).setCell ⟨B, 3, none⟩ a3).setCell ⟨B, 4, none⟩ a4).setCell ⟨B, 5, none⟩ a5).setCell ⟨B, 6, none⟩ a6).heap[B]? = some (.cells #[a0, a1, a2, a3, a4, a5, a6, z7, z8, z9, z10] 157 (0, 0)) := heap_set B 6 _ 157 a6 y5
  have x7 := rat_setU y6 (noU_all ⟨g0, g1, g2, g3, g4, g5, g6, h7, h8, h9, h10⟩) x6 7 a7
  have y7 : (((((((((W).setCell ⟨B, 0, none⟩ a0).setCell ⟨B, 1, none⟩ a1).setCell ⟨B, 2, none⟩ a2).setCell ⟨B, 3, none⟩ a3).setCell ⟨B, 4, none⟩ a4).setCell ⟨B, 5, none⟩ a5).setCell ⟨B, 6, none⟩ a6).setCell ⟨B, 7, none⟩ a7).heap[B]? = some (.cells #[a0, a1, a2, a3, a4, a5, a6, a7, z8, z9, z10] 157 (0, 0)) := heap_set B 7 _ 157 a7 y6
  have x8 := rat_setU y7 (noU_all ⟨g0, g1, g2, g3, g4, g5, g6, g7, h8, h9, h10⟩) x7 8 a8
  have y8 : ((((((((((W).setCell ⟨B, 0, none⟩ a0).setCell ⟨B, 1, none⟩ a1).setCell ⟨B, 2, none⟩ a2).setCell ⟨B, 3, none⟩ a3).setCell ⟨B, 4, none⟩ a4).setCell ⟨B, 5, none⟩ a5).setCell ⟨B, 6, none⟩ a6).setCell ⟨B, 7, none⟩ a7).setCell ⟨B, 8, none⟩ a8).heap[B]? = some (.cells #[a0, a1, a2, a3, a4, a5, a6, a7, a8, z9, z10] 157 (0, 0)) := heap_set B 8 _ 157 a8 y7
  have x9 := rat_setU y8 (noU_all ⟨g0, g1, g2, g3, g4, g5, g6, g7, g8, h9, h10⟩) x8 9 a9
  have y9 : (((((((((((W).setCell ⟨B, 0, none⟩ a0).setCell ⟨B, 1, none⟩ a1).setCell ⟨B, 2, none⟩ a2).setCell ⟨B, 3, none⟩ a3).setCell ⟨B, 4, none⟩ a4).setCell ⟨B, 5, none⟩ a5).setCell ⟨B, 6, none⟩ a6).setCell ⟨B, 7, none⟩ a7).setCell ⟨B, 8, none⟩ a8).setCell ⟨B, 9, none⟩ a9).heap[B]? = some (.cells #[a0, a1, a2, a3, a4, a5, a6, a7, a8, a9, z10] 157 (0, 0)) := heap_set B 9 _ 157 a9 y8
  have x10 := rat_setU y9 (noU_all ⟨g0, g1, g2, g3, g4, g5, g6, g7, g8, g9, h10⟩) x9 10 a10
  have y10 : ((((((((((((W).setCell ⟨B, 0, none⟩ a0).setCell ⟨B, 1, none⟩ a1).setCell ⟨B, 2, none⟩ a2).setCell ⟨B, 3, none⟩ a3).setCell ⟨B, 4, none⟩ a4).setCell ⟨B, 5, none⟩ a5).setCell ⟨B, 6, none⟩ a6).setCell ⟨B, 7, none⟩ a7).setCell ⟨B, 8, none⟩ a8).setCell ⟨B, 9, none⟩ a9).setCell ⟨B, 10, none⟩ a10).heap[B]? = some (.cells #[a0, a1, a2, a3, a4, a5, a6, a7, a8, a9, a10] 157 (0, 0)) := heap_set B 10 _ 157 a10 y9
  exact x10
theorem ResF.start (w : World) : ResF w.heap.size w (w.alloc (.cells #[.bool false, .slice none 0 0, .slice none 0 0, .int .i64 0, .int .i64 0, .int .i64 0, .int .i64 0, .int .i64 0, .int .i64 0, .int .i64 0, .int .i64 0] 157)) :=
  ⟨bea _ _, _, _, _, _, _, _, _, _, _, _, _, heap_new _ _, nub _, nus _ _ _, nus _ _ _, nui _, nui _, nui _, nui _, nui _, nui _, nui _, nui _⟩
theorem Keep.putF_far {L : List Blk} (h : Keep w0 W L) (hB : w0.heap.size ≤ B) (hne : ∀ x ∈ L, x.1 ≠ B) (a0 a1 a2 a3 a4 a5 a6 a7 a8 a9 a10 : Value) : Keep w0 ((((((((((((W).setCell ⟨B, 0, none⟩ a0).setCell ⟨B, 1, none⟩ a1).setCell ⟨B, 2, none⟩ a2).setCell ⟨B, 3, none⟩ a3).setCell ⟨B, 4, none⟩ a4).setCell ⟨B, 5, none⟩ a5).setCell ⟨B, 6, none⟩ a6).setCell ⟨B, 7, none⟩ a7).setCell ⟨B, 8, none⟩ a8).setCell ⟨B, 9, none⟩ a9).setCell ⟨B, 10, none⟩ a10) L :=
  have one : ∀ {W : World} (k : Nat) (v : Value), Keep w0 W L → Keep w0 (W.setCell ⟨B, k, none⟩ v) L := fun _k _v h => ⟨h.below.setCell hB _, fun x hx => (Below.heap_setCell _ _ _ _ (hne x hx)).trans (h.all x hx)⟩
  one 10 a10 (one 9 a9 (one 8 a8 (one 7 a7 (one 6 a6 (one 5 a5 (one 4 a4 (one 3 a3 (one 2 a2 (one 1 a1 (one 0 a0 h))))))))))
end
def FacAt (w : World) (x : Value) (f : FacT) (K : Nat) : Prop := ∃ b p n c q m d p0 p1 p2 p3 p4 p5 p6, x = .agg #[.bool b, .slice p n c, .slice q m d, .int .i64 p0, .int .i64 p1, .int .i64 p2, .int .i64 p3, .int .i64 p4, .int .i64 p5, .int .i64 p6, .int .i64 f.e] ∧ RatIs w (.agg #[.bool b, .slice p n c, .slice q m d]) f.v K ∧ [p0, p1, p2, p3, p4, p5, p6] = f.ps
theorem FacAt.below {w w' : World} {x : Value} {f : FacT} {K : Nat} (h : FacAt w x f K) (hb : Below w.heap.size w w') : FacAt w' x f K := by
  obtain ⟨b, p, n, c, q, m, d, p0, p1, p2, p3, p4, p5, p6, h1, h2, h3⟩ := h
  exact ⟨b, p, n, c, q, m, d, p0, p1, p2, p3, p4, p5, p6, h1, h2.below hb, h3⟩
theorem known_any (s : ByteArray) (sg : Bool) (n d : Nat) (w : World) (hl : s.size ≤ 90) (hr : readL s.data.toList = some (sg, n, d)) : Calls Tryz.prog 227 #[.string s] w (IsPost (readR s.data.toList) 20 w) := by
  have hrd : Hid (∀ W, Calls Tryz.prog 63 #[.string s] W fun e w' => Below W.heap.size W w' ∧ ∃ b p n c q m d, e = .returned (.tuple #[.agg #[.bool b, .slice p n c, .slice q m d], .bool true]) ∧ RatIs w' (.agg #[.bool b, .slice p n c, .slice q m d]) (readR s.data.toList) 20) := hiD fun W => by
    refine (read_any s W (by omega)).mono fun e w' h => ⟨h.1, ?_⟩
    have h2 := h.2
    rw [hr] at h2
    obtain ⟨x, rfl, u, v, rfl, hu, hv, hs⟩ := h2
    obtain ⟨p, n1, c, rfl⟩ := hu.slice
    obtain ⟨q, m1, d1, rfl⟩ := hv.slice
    obtain ⟨b1, b2, b3⟩ := readL_lt hr (by simpa using hl)
    refine ⟨_, _, _, _, _, _, _, rfl, _, _, _, ⟨_, _, rfl, hu, hv, hs⟩, ?_, b3, b1, b2⟩
    rw [ratv_drop]; unfold readR; rw [hr]
  generalize readR s.data.toList = r at hrd ⊢
  have hres := hiD (Res.start w)
  clear hr hl
  go_enter Tryz.func227, Tryz.ntmps227
  go_wp2_with fail
  refine (hrd.out _).mono ?_
  rintro e w2 ⟨hb2, b1, p, n, c, q, m, d, rfl, hR⟩
  have hres3 := (hres.out.next hb2).next (bea w2 (.cells #[.bool b1, .slice p n c, .slice q m d] 66))
  have hR3 := hiD (hR.below (bea w2 (.cells #[.bool b1, .slice p n c, .slice q m d] 66)))
  obtain ⟨z0, z1, z2, l0, l1, l2, f0, f1, f2⟩ := hres3.slots
  have Hres3 := hiD hres3
  clear hb2 hR hres3
  have hfin : Hid (∀ W, W = ((((w2.alloc (.cells #[.bool b1, .slice p n c, .slice q m d] 66)).setCell ⟨w.heap.size, 0, none⟩ (.bool b1)).setCell ⟨w.heap.size, 1, none⟩ (.slice p n c)).setCell ⟨w.heap.size, 2, none⟩ (.slice q m d)) → IsPost r 20 w (.returned (.agg #[.bool b1, .slice p n c, .slice q m d])) W) := hiD (by
    rintro W rfl
    obtain ⟨s, x, y, ⟨u, v, e1, hu, hv, hs⟩, hrest⟩ := hR3.out
    cases e1
    exact ⟨_, rfl, ⟨b1, x, y, ⟨_, _, rfl, Hres3.out.nat3 (Nat.le_refl _) hu b1 p q n c m d, Hres3.out.nat3 (Nat.le_refl _) hv b1 p q n c m d, hs⟩, hrest⟩, (Hres3.out.put3 (Nat.le_refl _) b1 p q n c m d).below⟩)
  go_wp2_with fail
  refine bodyPost_ret (v := .agg #[.bool b1, .slice p n c, .slice q m d]) (by simp [results, Tryz.results227, go_sem, l0, l1, l2]) rfl ?_
  exact hfin.out _ rfl
end Go.Proofs.YtoegbjmoecbjdaaGreatDoor
