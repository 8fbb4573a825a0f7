/- Plain arithmetic: one digit of a quotient, by a guess from the highest digits that is then lowered. -/
import Derived.Test.YtoegbjmoecbjdaaGreatDoorPart01
import Derived.Deep.QuietTactic
import Derived.BigQuiet
import Derived.Laws.BitsAllLaws
set_option maxHeartbeats 1600000
set_option maxRecDepth 100000
namespace Go.Proofs.YtoegbjmoecbjdaaGreatDoor
open Go.RowKit Big
theorem run_clear_row (g n c : Nat) (L : List Nat) (w : World) (hn : 0 < n) (hL : n ≤ L.length) (hr : Row w g 76 L) :
    ∃ w', (∀ ty, (Builtin.clear_ #[64] ty #[.slice (some ⟨g, 0, none⟩) n c]).run Tryz.prog w = .ok (.tuple #[]) w') ∧ Only g w w' ∧ Row w' g 76 (List.replicate n 0 ++ L.drop n) := by
  obtain ⟨i0, hi, hz0, hz1, hz2⟩ := info_parts info79
  have hs := run_storeCells_at Tryz.prog g 0 76 (u64s (List.replicate n 0)) 0 (u64s L).toArray w hr (by simp [u64s]; exact hL) (u64s_one _)
  have hz : (Builtin.zeroCells #[Value.int .u64 0] n).toList = u64s (List.replicate n 0) := by
    apply List.ext_getElem
    · simp [Builtin.zeroCells, u64s]
    · intro i h1 h2
      simp [Builtin.zeroCells, u64s, Nat.mod_one]
  obtain ⟨m, rfl⟩ : ∃ m, n = m + 1 := ⟨n - 1, by omega⟩
  have hzv : (zeroValue 76).run Tryz.prog w = .ok (.int .u64 0) w := by
    simp [zeroValue, typeInfo, hi, hz0]
  have hrun : ∀ ty, (Builtin.clear_ #[64] ty #[.slice (some ⟨g, 0, none⟩) (m + 1) c]).run Tryz.prog w = .ok (.tuple #[]) (w.setRow g (((u64s L).toArray.toList.take (0 + 0)) ++ u64s (List.replicate (m + 1) 0) ++ (u64s L).toArray.toList.drop (0 + 0 + (u64s (List.replicate (m + 1) 0)).length)).toArray) := by
    intro ty
    simp only [Builtin.clear_]
    simp [run_underlying Tryz.underlying64, hzv, Value.cells, hz, hs]
  refine ⟨_, hrun, ⟨rfl, rfl, rfl, by simp [World.setRow], fun k hk => setRow_other w g k _ hk⟩, ?_⟩
  unfold Row
  rw [setRow_heap w g _ _ 76 (0, 0) hr]
  simp [u64s, List.map_drop]
theorem mul_step (L L' : List Nat) (k n N : Nat) (x y : List Nat) (c : Nat) (hN : N = n + y.length) (hL : N ≤ L.length) (hk : k < y.length) (hput : Put L k n L') (hd : Dig B64 (seg L' k n)) (hc : c < B64)
    (hv : val B64 (seg L' k n) + B64 ^ n * c = val B64 (seg L k n) + val B64 x * y.getD k 0) (hin : val B64 (seg L 0 (n + k)) = val B64 x * val B64 (y.take k)) (hdL : Dig B64 (seg L 0 N)) (hz : ∀ j, n + k ≤ j → j < N → L.getD j 0 = 0) :
    val B64 (seg (L'.set (k + n) c) 0 (n + (k + 1))) = val B64 x * val B64 (y.take (k + 1)) ∧ Dig B64 (seg (L'.set (k + n) c) 0 N) ∧ ∀ j, n + (k + 1) ≤ j → j < N → (L'.set (k + n) c).getD j 0 = 0 := by
  have hput2 := hput.set c
  have hlen : (L'.set (k + n) c).length = L.length := hput2.length
  have hsplit : ∀ M : List Nat, ∀ a b, seg M 0 (a + b) = seg M 0 a ++ seg M a b := by
    intro M a b; simp only [seg, List.drop_zero]; rw [List.take_add]
  have h1 : seg (L'.set (k + n) c) 0 (n + (k + 1)) = seg L 0 k ++ (seg L' k n ++ [c]) := by
    rw [show n + (k + 1) = k + (n + 1) from by omega, hsplit, hput2.before_seg 0 k (by omega), hput.seg_set (by omega)]
  have h2 : seg L 0 (n + k) = seg L 0 k ++ seg L k n := by rw [show n + k = k + n from by omega, hsplit]
  have hl0 : (seg L 0 k).length = k := seg_length _ _ _ (by omega)
  have hl1 : (seg L' k n).length = n := seg_length _ _ _ (by rw [hput.length]; omega)
  refine ⟨?_, ?_, ?_⟩
  · rw [h1, val_append, val_snoc, hl0, hl1, hv, val_take_succD]
    rw [h2, val_append, hl0] at hin
    rw [Nat.mul_add, Nat.mul_add, ← hin]
    grind
  · have e : seg (L'.set (k + n) c) 0 N = seg (L'.set (k + n) c) 0 (n + (k + 1)) ++ seg (L'.set (k + n) c) (n + (k + 1)) (N - (n + (k + 1))) := by
      rw [← hsplit]; congr 1; omega
    rw [e, h1]
    have e2 : seg L 0 N = seg L 0 k ++ seg L k (N - k) := by rw [← hsplit]; congr 1; omega
    have e3 : seg L 0 N = seg L 0 (n + (k + 1)) ++ seg L (n + (k + 1)) (N - (n + (k + 1))) := by rw [← hsplit]; congr 1; omega
    refine (Dig.append ?_ (hd.append (Dig.one hc))).append ?_
    · rw [e2] at hdL; exact hdL.left
    · rw [hput2.behind_seg _ _ (by omega)]; rw [e3] at hdL; exact hdL.right
  · intro j h3 h4
    rw [hput2.getD j (by omega)]; exact hz j (by omega) h4
def MulPost (X g cz : Nat) (base w : World) (e : Ending) (w' : World) : Prop :=
  ∃ k L, e = .returned (.slice (some ⟨g, 0, none⟩) k cz) ∧ k ≤ cz ∧ Row w' g 76 L ∧ L.length = cz ∧ Canon B64 (L.take k) ∧ val B64 (L.take k) = X ∧ Below base.heap.size base w' ∧ w.heap.size ≤ w'.heap.size ∧ ∀ b, b < w.heap.size → b ≠ g → w'.heap[b]? = w.heap[b]?
theorem trim_canon {p : Option Addr} {n c : Nat} {l : List Nat} {w w' : World} {e : Ending} (hl : l.length = n) (hd : Dig B64 l) (h : Trim p n c l w e w') : ∃ k, k ≤ n ∧ e = .returned (.slice p k c) ∧ w = w' ∧ Canon B64 (l.take k) ∧ val B64 (l.take k) = val B64 l := by
  obtain ⟨k, hk, rfl, rfl, hz, h0⟩ := h
  refine ⟨k, hk, rfl, rfl, ⟨hd.take k, ?_⟩, ?_⟩
  · rcases h0 with rfl | h0
    · simp
    · obtain ⟨j, rfl⟩ : ∃ j, k = j + 1 := ⟨k - 1, by
        have : k ≠ 0 := by
          rintro rfl
          by_cases h1 : 0 < n
          · exact h0 (hz 0 (by omega) h1)
          · apply h0; rw [List.getD_eq_getElem?_getD, List.getElem?_eq_none (by omega)]; rfl
        omega⟩
      rw [List.getLast?_eq_getElem?, List.length_take, Nat.min_eq_left (by omega), Nat.add_sub_cancel, List.getElem?_take_of_lt (by omega)]
      rw [Nat.add_sub_cancel, List.getD_eq_getElem?_getD] at h0
      intro e1; rw [e1] at h0; exact h0 rfl
  · rw [val_split B64 l k (by omega), val_drop_zero l k (fun j h1 h2 => hz j h1 (by omega))]
    omega
theorem multiply_spare (g nz cz : Nat) (Z : List Nat) (p : Option Addr) (n c : Nat) (x : List Nat) (q : Option Addr) (m d : Nat) (y : List Nat) (base w : World) (hcz : cz ≤ most) (hnm : n + m ≤ cz) (hpos : 0 < n + m)
    (hz : Row w g 76 Z) (hZ : Z.length = cz) (hx : Rd w p n x) (hy : Rd w q m y) (dx : Dig B64 x) (dy : Dig B64 y) (hpx : n = 0 ∨ ∀ b o, p = some ⟨b, o, none⟩ → b ≠ g) (hqy : m = 0 ∨ ∀ b o, q = some ⟨b, o, none⟩ → b ≠ g)
    (hb : Below base.heap.size base w) (hg : base.heap.size ≤ g) :
    Calls Tryz.prog 166 #[.slice (some ⟨g, 0, none⟩) nz cz, .slice p n c, .slice q m d] w (MulPost (val B64 x * val B64 y) g cz base w) := by
  have hc64 : (cz : Int) ≤ 4294967296 := by unfold most at hcz; omega
  have hdec : decide ((cz : Int) < n + m) = false := by simp; omega
  obtain ⟨w2, hclr, ho2, hr2⟩ := run_clear_row g (n + m) cz Z w hpos (by omega) hz
  have Hclr := hiD hclr
  clear hclr
  go_enter Tryz.func166, Tryz.ntmps166
  go_wp2_with fail
  rw [Hclr.out]
  have hx2 : Rd w2 p n x := ho2.rd hx hpx
  have hy2 : Rd w2 q m y := ho2.rd hy hqy
  have hL2 : (List.replicate (n + m) 0 ++ Z.drop (n + m)).length = cz := by simp [hZ]; omega
  obtain ⟨L0, hL0⟩ : ∃ L0, Hid (L0 = List.replicate (n + m) 0 ++ Z.drop (n + m)) := ⟨_, hiD rfl⟩
  rw [← hL0.out] at hr2 hL2
  have hs0 : seg L0 0 (n + m) = List.replicate (n + m) 0 := by rw [hL0.out]; simp [seg]
  have hz0 : ∀ j, n + 0 ≤ j → j < n + m → L0.getD j 0 = 0 := by
    intro j h1 h2
    rw [hL0.out, List.getD_eq_getElem?_getD, List.getElem?_append_left (by simp; omega)]
    simp [h2]
  have hv0 : val B64 (seg L0 0 (n + 0)) = val B64 x * val B64 (y.take 0) := by
    rw [show n + 0 = n from rfl, ← seg_take L0 0 (n + m) n (by omega), hs0]
    simp [val_zeros, val]
  have hd0 : Dig B64 (seg L0 0 (n + m)) := by rw [hs0]; exact Dig.zeros B64_pos _
  have hstart : ∃ (k : Nat) (L : List Nat), k ≤ m ∧ Value.int .i64 0 = .int .i64 k ∧ Row w2 g 76 L ∧ L.length = cz ∧ Dig B64 (seg L 0 (n + m)) ∧ val B64 (seg L 0 (n + k)) = val B64 x * val B64 (y.take k) ∧ (∀ j, n + k ≤ j → j < n + m → L.getD j 0 = 0) ∧ Only g w2 w2 :=
    ⟨0, L0, Nat.zero_le _, rfl, hr2, hL2, hd0, hv0, hz0, Only.refl _ _⟩
  have Hstart := hiD hstart
  clear hstart hs0 hz0 hv0 hd0 hL0 hr2 hL2
  go_wp2_with fail
  go_loopw [27] (fun i wr => ∃ (k : Nat) (L : List Nat), k ≤ m ∧ i = .int .i64 k ∧ Row wr g 76 L ∧ L.length = cz ∧ Dig B64 (seg L 0 (n + m)) ∧ val B64 (seg L 0 (n + k)) = val B64 x * val B64 (y.take k) ∧ (∀ j, n + k ≤ j → j < n + m → L.getD j 0 = 0) ∧ Only g w2 wr) (fun i _ => m - (intOf i).toNat)
  case atStart => exact Hstart.out
  case round =>
    obtain ⟨k, L, hk, rfl, hr, hlen, hdig, hval, hzero, ho⟩ := hrel
    have Hval := hiD hval
    have Hzero := hiD hzero
    have Hlen := hiD hlen
    clear hval hzero hlen Hstart
    by_cases hlt : k < m
    · obtain ⟨b0, o0, v, rfl, hb0, hc0, hv⟩ := hy2.at hlt
      have dv : v < B64 := by rw [← hv.out]; exact dy.getD B64_pos k
      have hcy : wr.cell? ⟨b0, o0 + k, none⟩ = some (.int .u64 (v : Int)) := by
        rw [← hc0]
        exact World.cell?_of_block (w := w2) (ho.block b0 ((hqy.resolve_left (by omega)) b0 o0 rfl))
      have hseg : Dig B64 (seg L k n) := by
        intro a ha
        refine hdig a ?_
        have e : seg L 0 (n + m) = seg L 0 k ++ seg L k (n + m - k) := by
          simp only [seg, List.drop_zero]; rw [← List.take_add]; congr 1; omega
        have e2 : seg L k n = (seg L k (n + m - k)).take n := by rw [seg_take _ _ _ _ (by omega)]
        rw [e2] at ha
        rw [e]; exact List.mem_append_right _ (List.mem_of_mem_take ha)
      have hadd := addTimes_any g k n (cz - k) 76 L p c x v wr (by unfold maxLen; omega) (by rw [Hlen.out]; omega) hr (ho.rd hx2 hpx) hpx hseg dx dv
      have Hadd := hiD hadd
      have hkc : ¬ cz = k := by omega
      clear hadd hc0
      go_wp2_with fail
      refine Hadd.out.mono ?_
      rintro e w3 ⟨L', cy, hput, hd', hcy', hv', rfl, ho', hr'⟩
      have hcell := hr'.cell (k + n) (by rw [hput.length, Hlen.out]; omega)
      have hfree := hr'.free (k + n)
      obtain ⟨t1, t2, t3⟩ := mul_step L L' k n (n + m) x y cy (by rw [hy2.len]) (by rw [Hlen.out]; omega) (by rw [hy2.len]; exact hlt) hput hd' hcy' (by rw [hv', hv.out]) Hval.out hdig Hzero.out
      have Hrel := hiD (And.intro t1 (And.intro t2 t3))
      have hlen' : (L'.set (k + n) cy).length = cz := by rw [List.length_set, hput.length]; exact Hlen.out
      have Hlen' := hiD hlen'
      have hput' := hiD hput
      clear t1 t2 t3 hlen' hput hv' hd'
      go_wp2_with fail
      go_roundw
      case rel => exact ⟨k + 1, _, by omega, by go_num, hr'.set _ _, Hlen'.out, Hrel.out.2.1, Hrel.out.1, Hrel.out.2.2, (ho.trans ho').setCell _ _⟩
      case measure => simp [intOf]; omega
    · obtain rfl : k = m := by omega
      have hfin : ∀ e w', Trim (some ⟨g, 0, none⟩) (n + k) cz (seg L 0 (n + k)) wr e w' → MulPost (val B64 x * val B64 y) g cz base w e w' := by
        intro e w' h
        obtain ⟨j, hj, rfl, rfl, hcan, hv⟩ := trim_canon (seg_length _ _ _ (by rw [Hlen.out]; omega)) hdig h
        rw [seg_take _ _ _ _ hj] at hcan hv
        rw [Hval.out, List.take_of_length_le (by rw [hy2.len]; omega)] at hv
        refine ⟨j, L, rfl, by omega, hr, Hlen.out, by simpa [seg] using hcan, by simpa [seg] using hv, ?BELOW, ?SIZE, ?BLOCKS⟩
        case BELOW => exact Only.below hb (ho2.trans ho) hg
        case SIZE => rw [(ho2.trans ho).size]; exact Nat.le_refl _
        case BLOCKS => exact fun b h1 h2 => (ho2.trans ho).block b h2
      have Hfin := hiD hfin
      have ht := trimmed_any (some ⟨g, 0, none⟩) (n + k) cz (seg L 0 (n + k)) wr (by unfold maxLen; omega) (by omega) (hr.rd 0 (n + k) (by rw [Hlen.out]; omega))
      have Ht := hiD ht
      clear hfin ht
      go_wp2_with fail
      refine Ht.out.mono ?_
      intro e w' h
      have Hp := Hfin.out e w' h
      obtain ⟨j, L1, rfl, hrest⟩ := Hp
      have Hrest := hiD hrest
      clear hrest h
      go_wp2_with fail
      go_ret
      exact ⟨j, L1, rfl, Hrest.out⟩
theorem multiply_new (pz : Option Addr) (nz zc : Nat) (p : Option Addr) (n c : Nat) (x : List Nat) (q : Option Addr) (m d : Nat) (y : List Nat) (base w : World) (hnm0 : n + m ≤ most) (hpos : 0 < n + m) (hzc : zc < n + m)
    (hx : Rd w p n x) (hy : Rd w q m y) (dx : Dig B64 x) (dy : Dig B64 y) (hb : Below base.heap.size base w) :
    Calls Tryz.prog 166 #[.slice pz nz zc, .slice p n c, .slice q m d] w (MulPost (val B64 x * val B64 y) w.heap.size (n + m) base w) := by
  obtain ⟨i0, hi, hz0, hz1, hz2⟩ := info_parts info79
  have hc64 : (n : Int) + m ≤ 4294967296 := by unfold most at hnm0; omega
  have hdec : decide ((zc : Int) < n + m) = true := by simp; omega
  have hcz : n + m ≤ most := hnm0
  have hpx : n = 0 ∨ ∀ b o, p = some ⟨b, o, none⟩ → b ≠ w.heap.size := by
    rcases hx.cell with h | ⟨b, o, h1, h2, _⟩
    · exact .inl h
    · refine .inr fun b' o' h => ?_
      rw [h1] at h; cases h; omega
  have hqy : m = 0 ∨ ∀ b o, q = some ⟨b, o, none⟩ → b ≠ w.heap.size := by
    rcases hy.cell with h | ⟨b, o, h1, h2, _⟩
    · exact .inl h
    · refine .inr fun b' o' h => ?_
      rw [h1] at h; cases h; omega
  have hg := hb.size
  go_enter Tryz.func166, Tryz.ntmps166
  go_wp2_with (at_make; refine wpList_make_full _ rfl _ _ 64 rfl w.heap.size 76 i0 (.int .u64 0) 1 Tryz.underlying64 hi hz0 hz1 _ _ _ _ (n + m) rfl rfl (by omega) (by omega) ?b2 ?b3 (Nat.le_refl _) ?_)
  case b2 => rw [hz2]; unfold most at hnm0; omega
  case b3 => unfold maxLen; unfold most at hnm0; omega
  intro w1 hown hgrow
  have hr1 : Row w1 w.heap.size 76 (List.replicate (n + m) 0) := row_of_made hown
  have hbw1 : Below w.heap.size w w1 := (Below.refl _ _).grown hgrow (Nat.le_refl _) (fun k h => by cases h)
  obtain ⟨w2, hclr, ho2, hr2⟩ := run_clear_row w.heap.size (n + m) (n + m) _ w1 hpos (by simp) hr1
  rw [List.drop_of_length_le (by simp)] at hr2
  have Hclr := hiD hclr
  clear hown hgrow hclr hr1
  go_wp2_with fail
  rw [Hclr.out]
  have hx2 : Rd w2 p n x := ho2.rd (hx.below hbw1) hpx
  have hy2 : Rd w2 q m y := ho2.rd (hy.below hbw1) hqy
  have hL2 : (List.replicate (n + m) 0 ++ ([] : List Nat)).length = (n + m) := by simp
  obtain ⟨L0, hL0⟩ : ∃ L0, Hid (L0 = List.replicate (n + m) 0 ++ ([] : List Nat)) := ⟨_, hiD rfl⟩
  rw [← hL0.out] at hr2 hL2
  have hs0 : seg L0 0 (n + m) = List.replicate (n + m) 0 := by rw [hL0.out]; simp [seg]
  have hz0 : ∀ j, n + 0 ≤ j → j < n + m → L0.getD j 0 = 0 := by
    intro j h1 h2
    rw [hL0.out, List.getD_eq_getElem?_getD, List.getElem?_append_left (by simp; omega)]
    simp [h2]
  have hv0 : val B64 (seg L0 0 (n + 0)) = val B64 x * val B64 (y.take 0) := by
    rw [show n + 0 = n from rfl, ← seg_take L0 0 (n + m) n (by omega), hs0]
    simp [val_zeros, val]
  have hd0 : Dig B64 (seg L0 0 (n + m)) := by rw [hs0]; exact Dig.zeros B64_pos _
  have hstart : ∃ (k : Nat) (L : List Nat), k ≤ m ∧ Value.int .i64 0 = .int .i64 k ∧ Row w2 w.heap.size 76 L ∧ L.length = (n + m) ∧ Dig B64 (seg L 0 (n + m)) ∧ val B64 (seg L 0 (n + k)) = val B64 x * val B64 (y.take k) ∧ (∀ j, n + k ≤ j → j < n + m → L.getD j 0 = 0) ∧ Only w.heap.size w2 w2 :=
    ⟨0, L0, Nat.zero_le _, rfl, hr2, hL2, hd0, hv0, hz0, Only.refl _ _⟩
  have Hstart := hiD hstart
  clear hstart hs0 hz0 hv0 hd0 hL0 hr2 hL2
  go_wp2_with fail
  go_loopw [27] (fun i wr => ∃ (k : Nat) (L : List Nat), k ≤ m ∧ i = .int .i64 k ∧ Row wr w.heap.size 76 L ∧ L.length = (n + m) ∧ Dig B64 (seg L 0 (n + m)) ∧ val B64 (seg L 0 (n + k)) = val B64 x * val B64 (y.take k) ∧ (∀ j, n + k ≤ j → j < n + m → L.getD j 0 = 0) ∧ Only w.heap.size w2 wr) (fun i _ => m - (intOf i).toNat)
  case atStart => exact Hstart.out
  case round =>
    obtain ⟨k, L, hk, rfl, hr, hlen, hdig, hval, hzero, ho⟩ := hrel
    have Hval := hiD hval
    have Hzero := hiD hzero
    have Hlen := hiD hlen
    clear hval hzero hlen Hstart
    by_cases hlt : k < m
    · obtain ⟨b0, o0, v, rfl, hb0, hc0, hv⟩ := hy2.at hlt
      have dv : v < B64 := by rw [← hv.out]; exact dy.getD B64_pos k
      have hcy : wr.cell? ⟨b0, o0 + k, none⟩ = some (.int .u64 (v : Int)) := by
        rw [← hc0]
        exact World.cell?_of_block (w := w2) (ho.block b0 ((hqy.resolve_left (by omega)) b0 o0 rfl))
      have hseg : Dig B64 (seg L k n) := by
        intro a ha
        refine hdig a ?_
        have e : seg L 0 (n + m) = seg L 0 k ++ seg L k (n + m - k) := by
          simp only [seg, List.drop_zero]; rw [← List.take_add]; congr 1; omega
        have e2 : seg L k n = (seg L k (n + m - k)).take n := by rw [seg_take _ _ _ _ (by omega)]
        rw [e2] at ha
        rw [e]; exact List.mem_append_right _ (List.mem_of_mem_take ha)
      have hadd := addTimes_any w.heap.size k n ((n + m) - k) 76 L p c x v wr (by unfold maxLen; omega) (by rw [Hlen.out]; omega) hr (ho.rd hx2 hpx) hpx hseg dx dv
      have Hadd := hiD hadd
      have hkc : ¬ n + m = k := by omega
      clear hadd hc0
      go_wp2_with fail
      refine Hadd.out.mono ?_
      rintro e w3 ⟨L', cy, hput, hd', hcy', hv', rfl, ho', hr'⟩
      have hcell := hr'.cell (k + n) (by rw [hput.length, Hlen.out]; omega)
      have hfree := hr'.free (k + n)
      obtain ⟨t1, t2, t3⟩ := mul_step L L' k n (n + m) x y cy (by rw [hy2.len]) (by rw [Hlen.out]; omega) (by rw [hy2.len]; exact hlt) hput hd' hcy' (by rw [hv', hv.out]) Hval.out hdig Hzero.out
      have Hrel := hiD (And.intro t1 (And.intro t2 t3))
      have hlen' : (L'.set (k + n) cy).length = (n + m) := by rw [List.length_set, hput.length]; exact Hlen.out
      have Hlen' := hiD hlen'
      have hput' := hiD hput
      clear t1 t2 t3 hlen' hput hv' hd'
      go_wp2_with fail
      go_roundw
      case rel => exact ⟨k + 1, _, by omega, by go_num, hr'.set _ _, Hlen'.out, Hrel.out.2.1, Hrel.out.1, Hrel.out.2.2, (ho.trans ho').setCell _ _⟩
      case measure => simp [intOf]; omega
    · obtain rfl : k = m := by omega
      have hfin : ∀ e w', Trim (some ⟨w.heap.size, 0, none⟩) (n + k) (n + k) (seg L 0 (n + k)) wr e w' → MulPost (val B64 x * val B64 y) w.heap.size (n + k) base w e w' := by
        intro e w' h
        obtain ⟨j, hj, rfl, rfl, hcan, hv⟩ := trim_canon (seg_length _ _ _ (by rw [Hlen.out]; omega)) hdig h
        rw [seg_take _ _ _ _ hj] at hcan hv
        rw [Hval.out, List.take_of_length_le (by rw [hy2.len]; omega)] at hv
        refine ⟨j, L, rfl, by omega, hr, Hlen.out, by simpa [seg] using hcan, by simpa [seg] using hv, ?BELOW, ?SIZE, ?BLOCKS⟩
        case BELOW => exact Only.below (hb.trans (hbw1.mono hb.size)) (ho2.trans ho) hg
        case SIZE => rw [(ho2.trans ho).size]; exact hbw1.size
        case BLOCKS => exact fun b h1 h2 => ((ho2.trans ho).block b h2).trans (hbw1.block b h1)
      have Hfin := hiD hfin
      have ht := trimmed_any (some ⟨w.heap.size, 0, none⟩) (n + k) (n + k) (seg L 0 (n + k)) wr (by unfold maxLen; omega) (by omega) (hr.rd 0 (n + k) (by rw [Hlen.out]; omega))
      have Ht := hiD ht
      clear hfin ht
      go_wp2_with fail
      refine Ht.out.mono ?_
      intro e w' h
      have Hp := Hfin.out e w' h
      obtain ⟨j, L1, rfl, hrest⟩ := Hp
      have Hrest := hiD hrest
      clear hrest h
      go_wp2_with fail
      go_ret
      exact ⟨j, L1, rfl, Hrest.out⟩
theorem plus_lt (p : Option Addr) (n c : Nat) (x : List Nat) (q : Option Addr) (m d : Nat) (y : List Nat) (w : World) (hn0 : n ≤ most) (hmn : m < n) (hx : Rd w p n x) (hy : Rd w q m y) (dx : Dig B64 x) (dy : Dig B64 y) :
    Calls Tryz.prog 130 #[.slice q m d, .slice p n c] w (NatPost (val B64 x + val B64 y) w) := by
  obtain ⟨i0, hi, hz0, hz1, hz2⟩ := info_parts info79
  have hn : (n : Int) ≤ 4294967296 := by unfold most at hn0; omega
  go_enter Tryz.func130, Tryz.ntmps130
  go_wp2_with (at_make; refine wpList_make_full _ rfl _ _ 64 rfl w.heap.size 76 i0 (.int .u64 0) 1 Tryz.underlying64 hi hz0 hz1 _ _ _ _ (n + 1) rfl rfl (by omega) (by omega) ?b2 ?b3 (Nat.le_refl _) ?_)
  case b2 => rw [hz2]; unfold most at hn0; omega
  case b3 => unfold maxLen; unfold most at hn0; omega
  intro w1 hown hgrow
  have hr1 : Row w1 w.heap.size 76 (List.replicate (n + 1) 0) := row_of_made hown
  have hb1 : Below w.heap.size w w1 := (Below.refl _ _).grown hgrow (Nat.le_refl _) (fun k h => by cases h)
  have hx1 := hx.below hb1
  clear hown hgrow
  go_wp2_with (refine wpList_copy_splice (o := ⟨some 19, _, _, _, _, _⟩) rfl (.tmp 17) (.tmp 18) 64 64 rfl 76 Tryz.underlying64 (by kernel_rfl) _ _ _ _ _ _ rfl rfl w.heap.size 0 (u64s (List.replicate (n + 1) 0)) 76 hr1 (u64s x) ?c1 ?c2 ?c3 (u64s_one x) w.heap.size w hb1 (Nat.le_refl _) ?_)
  case c1 => rw [u64s_length, hx.len]; exact (Nat.min_eq_left (by omega)).symm
  case c2 => exact fun h => hx1.cells h
  case c3 => rw [u64s_length, u64s_length, hx.len, List.length_replicate]; omega
  intro w2 hr2 hb2
  have hr : Row w2 w.heap.size 76 (x ++ List.replicate (n + 1 - n) 0) := by
    have := hr2.out
    rw [u64s_splice _ x _ _ rfl, splice_head x (n + 1) (by rw [hx.len]; omega), hx.len] at this
    exact this
  have hlen : (x ++ List.replicate (n + 1 - n) 0).length = n + 1 := by rw [List.length_append, List.length_replicate, hx.len]; omega
  have hdig : Dig B64 (x ++ List.replicate (n + 1 - n) 0) := dx.append (Dig.zeros B64_pos _)
  have hval : val B64 (x ++ List.replicate (n + 1 - n) 0) = val B64 x := by rw [val_append, val_zeros]; omega
  obtain ⟨L, hL⟩ : ∃ L, Hid (L = x ++ List.replicate (n + 1 - n) 0) := ⟨_, hiD rfl⟩
  rw [← hL.out] at hr hlen hdig hval
  have Hlen := hiD hlen
  have Hval := hiD hval
  have hq : m = 0 ∨ ∀ b o, q = some ⟨b, o, none⟩ → b ≠ w.heap.size := by
    rcases hy.cell with h | ⟨b, o, h1, h2, _⟩
    · exact .inl h
    · refine .inr fun b' o' h => ?_
      rw [h1] at h; cases h; omega
  have hsegL : seg L 0 (n + 1) = L := seg_all L (n + 1) hlen.symm
  have hsegd : Dig B64 (seg L 0 (n + 1)) := by rw [hsegL]; exact hdig
  have HsegL := hiD hsegL
  clear hr2 hlen hval hsegL
  have hbn : n + 1 ≤ maxLen := by unfold maxLen; omega
  go_wp2_with fail
  refine (addInto_any w.heap.size 0 (n + 1) (n + 1) 76 L q m d y _ hbn (by rw [Hlen.out]; omega) (by omega) hr (hy.below hb2) hq hsegd dy).mono ?_
  rintro e w3 ⟨L', cy, hput, hd', hc1, hv', rfl, ho, hr'⟩
  have hl' : L'.length = n + 1 := by rw [hput.length]; exact Hlen.out
  rw [HsegL.out, Hval.out, seg_all L' (n + 1) hl'.symm] at hv'
  rw [seg_all L' (n + 1) hl'.symm] at hd'
  have hlx := val_lt x dx
  have hly := val_lt y dy
  rw [hx.len] at hlx
  rw [hy.len] at hly
  have hpow : B64 ^ m ≤ B64 ^ n := Nat.pow_le_pow_right B64_pos (by omega)
  obtain ⟨hs, -⟩ := no_carry hv' hlx (by omega) (by rw [B64_eq]; omega)
  have hb3 := Only.below hb2 ho (Nat.le_refl _)
  have ht := trimmed_nat (some ⟨w.heap.size, 0, none⟩) (n + 1) (n + 1) L' w w3 hbn (Nat.le_refl _) (hr'.rd0 (n + 1) hl'.symm) hd' hb3
  rw [hs] at ht
  have Ht := hiD ht
  clear ht hs hv' hl' hlx hly hpow
  go_wp2_with fail
  refine Ht.out.mono ?_
  rintro e w4 ⟨v, rfl, hv⟩
  go_wp2_with fail
  go_ret
  exact ⟨v, rfl, hv⟩
theorem no_borrow {B n s c a b : Nat} (h : s + b = a + B ^ n * c) (hs : s < B ^ n) (hle : b ≤ a) : s = a - b := by
  have h2 : c = 0 := by
    apply Nat.eq_zero_of_not_pos; intro hc
    have : B ^ n * 1 ≤ B ^ n * c := Nat.mul_le_mul_left _ hc
    omega
  subst h2; omega
theorem minus_any0 (p : Option Addr) (n c : Nat) (x : List Nat) (q : Option Addr) (m d : Nat) (y : List Nat) (w : World) (hn0 : n ≤ most) (hmn : m ≤ n) (hx : Rd w p n x) (hy : Rd w q m y) (dx : Dig B64 x) (dy : Dig B64 y) (hle : val B64 y ≤ val B64 x) :
    Calls Tryz.prog 131 #[.slice p n c, .slice q m d] w (NatPost (val B64 x - val B64 y) w) := by
  obtain ⟨i0, hi, hz0, hz1, hz2⟩ := info_parts info79
  have hn : (n : Int) ≤ 4294967296 := by unfold most at hn0; omega
  go_enter Tryz.func131, Tryz.ntmps131
  go_wp2_with (at_make; refine wpList_make_full _ rfl _ _ 64 rfl w.heap.size 76 i0 (.int .u64 0) 1 Tryz.underlying64 hi hz0 hz1 _ _ _ _ (n) rfl rfl (by omega) (by omega) ?b2 ?b3 (Nat.le_refl _) ?_)
  case b2 => rw [hz2]; unfold most at hn0; omega
  case b3 => unfold maxLen; unfold most at hn0; omega
  intro w1 hown hgrow
  have hr1 : Row w1 w.heap.size 76 (List.replicate (n) 0) := row_of_made hown
  have hb1 : Below w.heap.size w w1 := (Below.refl _ _).grown hgrow (Nat.le_refl _) (fun k h => by cases h)
  have hx1 := hx.below hb1
  clear hown hgrow
  go_wp2_with (refine wpList_copy_splice (o := ⟨some 11, _, _, _, _, _⟩) rfl (.tmp 9) (.tmp 10) 64 64 rfl 76 Tryz.underlying64 (by kernel_rfl) _ _ _ _ _ _ rfl rfl w.heap.size 0 (u64s (List.replicate (n) 0)) 76 hr1 (u64s x) ?c1 ?c2 ?c3 (u64s_one x) w.heap.size w hb1 (Nat.le_refl _) ?_)
  case c1 => rw [u64s_length, hx.len]; exact (Nat.min_eq_left (by omega)).symm
  case c2 => exact fun h => hx1.cells h
  case c3 => rw [u64s_length, u64s_length, hx.len, List.length_replicate]; omega
  intro w2 hr2 hb2
  have hr : Row w2 w.heap.size 76 (x ++ List.replicate (n - n) 0) := by
    have := hr2.out
    rw [u64s_splice _ x _ _ rfl, splice_head x (n) (by rw [hx.len]; omega), hx.len] at this
    exact this
  have hlen : (x ++ List.replicate (n - n) 0).length = n := by rw [List.length_append, List.length_replicate, hx.len]; omega
  have hdig : Dig B64 (x ++ List.replicate (n - n) 0) := dx.append (Dig.zeros B64_pos _)
  have hval : val B64 (x ++ List.replicate (n - n) 0) = val B64 x := by rw [val_append, val_zeros]; omega
  obtain ⟨L, hL⟩ : ∃ L, Hid (L = x ++ List.replicate (n - n) 0) := ⟨_, hiD rfl⟩
  rw [← hL.out] at hr hlen hdig hval
  have Hlen := hiD hlen
  have Hval := hiD hval
  have hq : m = 0 ∨ ∀ b o, q = some ⟨b, o, none⟩ → b ≠ w.heap.size := by
    rcases hy.cell with h | ⟨b, o, h1, h2, _⟩
    · exact .inl h
    · refine .inr fun b' o' h => ?_
      rw [h1] at h; cases h; omega
  have hsegL : seg L 0 (n) = L := seg_all L (n) hlen.symm
  have hsegd : Dig B64 (seg L 0 (n)) := by rw [hsegL]; exact hdig
  have HsegL := hiD hsegL
  clear hr2 hlen hval hsegL
  have hbn : n ≤ maxLen := by unfold maxLen; omega
  go_wp2_with fail
  refine (subtractFrom_any w.heap.size 0 (n) (n) 76 L q m d y _ hbn (by rw [Hlen.out]; omega) (by omega) hr (hy.below hb2) hq hsegd dy).mono ?_
  rintro e w3 ⟨L', cy, hput, hd', hc1, hv', rfl, ho, hr'⟩
  have hl' : L'.length = n := by rw [hput.length]; exact Hlen.out
  rw [HsegL.out, Hval.out, seg_all L' (n) hl'.symm] at hv'
  rw [seg_all L' (n) hl'.symm] at hd'
  have hlx := val_lt (seg L' 0 n) (by rw [seg_all L' n hl'.symm]; exact hd')
  rw [seg_all L' n hl'.symm, hl'] at hlx
  have hs := no_borrow hv' hlx hle
  have hb3 := Only.below hb2 ho (Nat.le_refl _)
  have ht := trimmed_nat (some ⟨w.heap.size, 0, none⟩) (n) (n) L' w w3 hbn (Nat.le_refl _) (hr'.rd0 (n) hl'.symm) hd' hb3
  rw [hs] at ht
  have Ht := hiD ht
  clear ht hs hv' hl' hlx
  go_wp2_with fail
  refine Ht.out.mono ?_
  rintro e w4 ⟨v, rfl, hv⟩
  go_wp2_with fail
  go_ret
  exact ⟨v, rfl, hv⟩
def cmp3 (a b : Nat) : Int := if a < b then -1 else if b < a then 1 else 0
theorem isNaN_any (a : Nat) (w : World) : Calls Tryz.prog 201 #[.int .u64 a] w fun e w' => e = .returned (.bool false) ∧ w = w' := by
  have h : ((a : Int) != a) = false := by simp
  go_enter Tryz.func201, Tryz.ntmps201
  go_wp2
  go_ret
  exact ⟨rfl, rfl⟩
theorem compare_u64 (a b : Nat) (w : World) : Calls Tryz.prog 165 #[.int .u64 a, .int .u64 b] w fun e w' => e = .returned (.int .i64 (cmp3 a b)) ∧ w = w' := by
  by_cases h1 : a < b
  · have e : cmp3 a b = -1 := by simp [cmp3, h1]
    rw [e]
    go_enter Tryz.func165, Tryz.ntmps165
    go_wp2_with (go_at_call 201; refine (isNaN_any _ _).mono ?_; rintro e w' ⟨rfl, rfl⟩)
    go_ret
    exact ⟨rfl, rfl⟩
  · by_cases h2 : b < a
    · have e : cmp3 a b = 1 := by simp [cmp3, h1, h2]
      rw [e]
      go_enter Tryz.func165, Tryz.ntmps165
      go_wp2_with (go_at_call 201; refine (isNaN_any _ _).mono ?_; rintro e w' ⟨rfl, rfl⟩)
      go_ret
      exact ⟨rfl, rfl⟩
    · have e : cmp3 a b = 0 := by simp [cmp3, h1, h2]
      rw [e]
      go_enter Tryz.func165, Tryz.ntmps165
      go_wp2_with (go_at_call 201; refine (isNaN_any _ _).mono ?_; rintro e w' ⟨rfl, rfl⟩)
      go_ret
      exact ⟨rfl, rfl⟩
theorem cmp_length {x y : List Nat} (hx : Canon B64 x) (hy : Canon B64 y) (h : x.length ≠ y.length) : Lib.compareInt (x.length : Int) (y.length : Int) = cmp3 (val B64 x) (val B64 y) := by
  unfold Lib.compareInt cmp3
  rcases Nat.lt_or_gt_of_ne h with h1 | h1
  · have := Canon.lt_of_length hx.1 hy h1
    rw [if_pos (by omega), if_pos this]
  · have := Canon.lt_of_length hy.1 hx h1
    rw [if_neg (by omega), if_pos (by omega), if_neg (by omega), if_pos this]
theorem cmp_digit {x y : List Nat} (hl : x.length = y.length) (hx : Dig B64 x) (hy : Dig B64 y) (k : Nat) (hk : k < x.length) (hd : x.drop (k + 1) = y.drop (k + 1)) (hne : x.getD k 0 ≠ y.getD k 0) : cmp3 (x.getD k 0) (y.getD k 0) = cmp3 (val B64 x) (val B64 y) := by
  have e1 := val_split B64 x (k + 1) (by omega)
  have e2 := val_split B64 y (k + 1) (by omega)
  have hky : k < y.length := by rw [← hl]; exact hk
  have g1 : x.getD k 0 = x[k] := by rw [List.getD_eq_getElem?_getD, List.getElem?_eq_getElem hk]; rfl
  have g2 : y.getD k 0 = y[k] := by rw [List.getD_eq_getElem?_getD, List.getElem?_eq_getElem hky]; rfl
  rw [g1, g2] at hne
  rw [hd] at e1
  unfold cmp3
  rw [g1, g2]
  rcases Nat.lt_or_gt_of_ne hne with h1 | h1
  · have := val_lt_of_digit (B := B64) x y k hx hk hky h1
    rw [if_pos h1, if_pos (by omega)]
  · have := val_lt_of_digit (B := B64) y x k hy hky hk h1
    rw [if_neg (by omega), if_pos h1, if_neg (by omega), if_pos (by omega)]
theorem drop_eq_of_succ {x y : List Nat} (hl : x.length = y.length) (k : Nat) (hk : k < x.length) (h : x.drop (k + 1) = y.drop (k + 1)) (he : x.getD k 0 = y.getD k 0) : x.drop k = y.drop k := by
  have hky : k < y.length := by rw [← hl]; exact hk
  rw [List.drop_eq_getElem_cons hk, List.drop_eq_getElem_cons hky, h]
  congr 1
  rw [List.getD_eq_getElem?_getD, List.getElem?_eq_getElem hk, List.getD_eq_getElem?_getD, List.getElem?_eq_getElem hky] at he
  exact he
theorem below_drewN (B : Nat) (w : World) (k : Nat) : Below B w (w.drewN k) := ⟨rfl, rfl, rfl, Nat.le_refl _, fun _ _ => rfl⟩
theorem drewN3 (w : World) (a b c : Nat) : ∃ k, w.drewN k = ((w.drewN a).drewN b).drewN c := ⟨a + b + c, by simp only [World.drewN_drewN]⟩
def CmpPost (a b : Nat) (w : World) (e : Ending) (w' : World) : Prop := e = .returned (.int .i64 (cmp3 a b)) ∧ ∃ k, w.drewN k = w'
theorem compare_same (p : Option Addr) (n c : Nat) (x : List Nat) (q : Option Addr) (d : Nat) (y : List Nat) (w : World) (hn : n ≤ most) (hx : Rd w p n x) (hy : Rd w q n y) (dx : Dig B64 x) (dy : Dig B64 y) :
    Calls Tryz.prog 127 #[.slice p n c, .slice q n d] w (CmpPost (val B64 x) (val B64 y) w) := by
  have hn1 : (n : Int) ≤ 4294967296 := by unfold most at hn; omega
  have h1 : ((n : Int) != n) = false := by simp
  have hl : x.length = y.length := by rw [hx.len, hy.len]
  have Hl := hiD hl
  clear hl
  go_enter Tryz.func127, Tryz.ntmps127
  go_wp2
  go_loopw [5] (fun i wr => ∃ (k : Nat) (z : Int) (t : Nat), k ≤ n ∧ i = .int .i64 z ∧ z + 1 = k ∧ x.drop k = y.drop k ∧ wr = w.drewN t) (fun i _ => (intOf i + 1).toNat)
  case atStart => exact ⟨n, (n : Int) - 1, 0, Nat.le_refl _, rfl, by omega, by rw [List.drop_eq_nil_of_le (by rw [hx.len]; omega), List.drop_eq_nil_of_le (by rw [hy.len]; omega)], rfl⟩
  case round =>
    obtain ⟨k, z, t, hk, rfl, hz, hd, rfl⟩ := hrel
    have Hd := hiD hd
    clear hd
    by_cases h0 : k = 0
    · obtain rfl : z = -1 := by omega
      subst h0
      have hxy : cmp3 (val B64 x) (val B64 y) = 0 := by
        have := Hd.out; simp at this; rw [this]; simp [cmp3]
      have Hxy := hiD hxy
      clear hxy hz
      go_wp2
      go_ret
      exact ⟨by rw [Hxy.out]; rfl, t, rfl⟩
    · obtain ⟨j, rfl⟩ : ∃ j : Nat, z = j := ⟨z.toNat, by omega⟩
      obtain rfl : k = j + 1 := by omega
      clear hz h0
      obtain ⟨b1, o1, a, rfl, hb1, hc1, ha⟩ := hx.at (k := j) (by omega)
      obtain ⟨b2, o2, b, rfl, hb2, hc2, hb⟩ := hy.at (k := j) (by omega)
      have g1 : (w.drewN t).cell? ⟨b1, o1 + j, none⟩ = some (.int .u64 (a : Int)) := hc1
      have g2 : (w.drewN t).cell? ⟨b2, o2 + j, none⟩ = some (.int .u64 (b : Int)) := hc2
      have bj : (0 : Int) ≤ j := by omega
      have bj2 : (j : Int) < n := by omega
      have hlx : j < x.length := by rw [hx.len]; omega
      by_cases hab : a = b
      · have hne : ((a : Int) != b) = false := by simp [hab]
        have hd' := drop_eq_of_succ Hl.out j hlx Hd.out (by rw [ha.out, hb.out, hab])
        have Hd' := hiD hd'
        clear hd' hab
        go_wp2
        go_quiet (fail)
        go_wp2
        go_roundw
        case rel => exact ⟨j, (j : Int) - 1, _, by omega, rfl, by omega, Hd'.out, rfl⟩
        case measure => simp [intOf]
      · have hne : ((a : Int) != b) = true := by simp; omega
        have hcmp := cmp_digit Hl.out dx dy j hlx Hd.out (by rw [ha.out, hb.out]; exact hab)
        rw [ha.out, hb.out] at hcmp
        have Hcmp := hiD hcmp
        clear hcmp hab
        go_wp2
        go_quiet (fail)
        go_wp2
        go_quiet ((go_at_call 165; exact (compare_u64 _ _ _).mono fun _ _ h => ⟨h.1, _, h.2.symm⟩))
        go_wp2
        go_ret
        exact ⟨by rw [← Hcmp.out]; rfl, drewN3 _ _ _ _⟩
theorem compare_other (p : Option Addr) (n c : Nat) (x : List Nat) (q : Option Addr) (m d : Nat) (y : List Nat) (w : World) (hn : n ≤ most) (hm : m ≤ most) (hnm : n ≠ m) (hx : Rd w p n x) (hy : Rd w q m y) (cx : Canon B64 x) (cy : Canon B64 y) :
    Calls Tryz.prog 127 #[.slice p n c, .slice q m d] w (CmpPost (val B64 x) (val B64 y) w) := by
  have hn1 : (n : Int) ≤ 4294967296 := by unfold most at hn; omega
  have hm1 : (m : Int) ≤ 4294967296 := by unfold most at hm; omega
  have h1 : ((n : Int) != m) = true := by simp; omega
  have hc := cmp_length cx cy (by rw [hx.len, hy.len]; exact hnm)
  rw [hx.len, hy.len] at hc
  have Hc := hiD hc
  clear hc
  go_enter Tryz.func127, Tryz.ntmps127
  go_wp2_with fail
  refine (Go.Proofs.Tryz.cmp_Compare_int _ _ _).mono ?_
  rintro e w' ⟨rfl, rfl⟩
  rw [Hc.out]
  go_wp2_with fail
  go_ret
  exact ⟨rfl, 0, rfl⟩
theorem NatAt.drewN {w : World} {v : Value} {x : Nat} (h : NatAt w v x) (k : Nat) : NatAt (w.drewN k) v x := h.below (below_drewN _ _ _)
theorem pow_most {x K : Nat} {l : List Nat} {n : Nat} {p : Option Addr} {w : World} (hc : Canon B64 l) (hv : val B64 l = x) (hx : x < B64 ^ K) (hl : Rd w p n l) : n ≤ K := by
  have := limbs_le hc hv hx; rw [hl.len] at this; exact this
theorem compare_nat (u v : Value) (a b K : Nat) (w : World) (hK : K ≤ most) (ha : a < B64 ^ K) (hb : b < B64 ^ K) (hu : NatAt w u a) (hv : NatAt w v b) : Calls Tryz.prog 127 #[u, v] w (CmpPost a b w) := by
  obtain ⟨p, n, c, x, rfl, h1, h2, h3, h4⟩ := hu
  obtain ⟨q, m, d, y, rfl, g1, g2, g3, g4⟩ := hv
  have hn := pow_most h3 h4 ha h2
  have hm := pow_most g3 g4 hb g2
  rw [← h4, ← g4]
  by_cases hnm : n = m
  · subst hnm
    exact compare_same p n c x q d y w (by omega) h2 g2 h3.1 g3.1
  · exact compare_other p n c x q m d y w (by omega) (by omega) hnm h2 g2 h3 g3
theorem plus_nat (u v : Value) (a b K : Nat) (w : World) (hK : K ≤ most) (ha : a < B64 ^ K) (hb : b < B64 ^ K) (hu : NatAt w u a) (hv : NatAt w v b) : Calls Tryz.prog 130 #[u, v] w (NatPost (a + b) w) := by
  obtain ⟨p, n, c, x, rfl, h1, h2, h3, h4⟩ := hu
  obtain ⟨q, m, d, y, rfl, g1, g2, g3, g4⟩ := hv
  have hn := pow_most h3 h4 ha h2
  have hm := pow_most g3 g4 hb g2
  rw [← h4, ← g4]
  by_cases hnm : m ≤ n
  · exact plus_ge p n c x q m d y w (by omega) hnm h2 g2 h3.1 g3.1
  · rw [Nat.add_comm]
    exact plus_lt q m d y p n c x w (by omega) (by omega) g2 h2 g3.1 h3.1
theorem minus_nat (u v : Value) (a b K : Nat) (w : World) (hK : K ≤ most) (ha : a < B64 ^ K) (hle : b ≤ a) (hu : NatAt w u a) (hv : NatAt w v b) : Calls Tryz.prog 131 #[u, v] w (NatPost (a - b) w) := by
  obtain ⟨p, n, c, x, rfl, h1, h2, h3, h4⟩ := hu
  obtain ⟨q, m, d, y, rfl, g1, g2, g3, g4⟩ := hv
  have hn := pow_most h3 h4 ha h2
  have hm : m ≤ n := by
    have := Canon.length_le g3 h3.1 (by rw [h4, g4]; exact hle)
    rw [h2.len, g2.len] at this; exact this
  subst h4 g4
  exact minus_any0 p n c x q m d y w (by omega) hm h2 g2 h3.1 g3.1 hle
theorem MulPost.nat {X g cz : Nat} {w : World} {e : Ending} {w' : World} (h : MulPost X g cz w w e w') : NatPost X w e w' := by
  obtain ⟨k, L, rfl, hk, hr, hl, hc, hv, hb, -, -⟩ := h
  refine ⟨_, rfl, ⟨_, k, cz, L.take k, rfl, hk, ?_, hc, hv⟩, hb⟩
  have := hr.rd 0 k (by omega)
  simpa using this
theorem run_clear_zero (pz : Option Addr) (c : Nat) (ty : TypeId) (w : World) : (Builtin.clear_ #[64] ty #[.slice pz 0 c]).run Tryz.prog w = .ok (.tuple #[]) w := by
  cases pz <;> simp [Builtin.clear_, run_underlying Tryz.underlying64]
theorem multiply_none (pz : Option Addr) (nz zc : Nat) (p : Option Addr) (c : Nat) (q : Option Addr) (d : Nat) (w : World) (hz : (zc : Int) ≤ 4294967296) :
    Calls Tryz.prog 166 #[.slice pz nz zc, .slice p 0 c, .slice q 0 d] w fun e w' => e = .returned (.slice pz 0 zc) ∧ w = w' := by
  have h1 : decide ((zc : Int) < 0) = false := by simp
  go_enter Tryz.func166, Tryz.ntmps166
  go_wp2_with fail
  rw [run_clear_zero]
  go_wp2_with fail
  go_loopw [27] (fun i wr => i = .int .i64 0 ∧ w = wr) (fun _ _ => 0)
  case atStart => exact ⟨rfl, rfl⟩
  case round =>
    obtain ⟨rfl, rfl⟩ := hrel
    go_wp2_with fail
    refine (trimmed_any pz 0 zc [] _ (by unfold maxLen; omega) (by omega) (Rd.nil _ _)).mono ?_
    rintro e w' ⟨k, hk, rfl, rfl, -, -⟩
    obtain rfl : k = 0 := by omega
    go_wp2_with fail
    go_ret
    exact ⟨rfl, rfl⟩
theorem times_nat (u v : Value) (a b K : Nat) (w : World) (hK : K ≤ 2147483648) (ha : a < B64 ^ K) (hb : b < B64 ^ K) (hu : NatAt w u a) (hv : NatAt w v b) : Calls Tryz.prog 128 #[u, v] w (NatPost (a * b) w) := by
  obtain ⟨p, n, c, x, rfl, h1, h2, h3, h4⟩ := hu
  obtain ⟨q, m, d, y, rfl, g1, g2, g3, g4⟩ := hv
  have hn := pow_most h3 h4 ha h2
  have hm := pow_most g3 g4 hb g2
  subst h4 g4
  by_cases hnm : n + m = 0
  · obtain rfl : n = 0 := by omega
    obtain rfl : m = 0 := by omega
    have hx0 : x = [] := List.eq_nil_of_length_eq_zero h2.len
    subst hx0
    have Hpost : Hid (∀ w', w = w' → NatPost (val B64 [] * val B64 y) w (.returned (.slice none 0 0)) w') := by
      intro w' h; subst h
      exact ⟨_, rfl, by rw [val_nil, Nat.zero_mul]; exact NatAt.zero _, Below.refl _ _⟩
    go_enter Tryz.func128, Tryz.ntmps128
    go_wp2_with fail
    refine (multiply_none none 0 0 p c q d _ (by omega)).mono ?_
    rintro e w' ⟨rfl, rfl⟩
    go_wp2_with fail
    go_ret
    exact Hpost.out _ rfl
  · have hmul := multiply_new none 0 0 p n c x q m d y w w (by unfold most; omega) (by omega) (by omega) h2 g2 h3.1 g3.1 (Below.refl _ _)
    have Hm := hiD hmul
    clear hmul
    go_enter Tryz.func128, Tryz.ntmps128
    go_wp2_with fail
    refine Hm.out.mono ?_
    intro e w' h
    obtain ⟨v, rfl, hv⟩ := h.nat
    clear h
    go_wp2_with fail
    go_ret
    exact ⟨v, rfl, hv⟩
end Go.Proofs.YtoegbjmoecbjdaaGreatDoor
namespace Big
structure Guess (b u y1 y0 u1 q r : Nat) : Prop where
  sum : q * y1 + r = u
  ge : (u * b + u1) / (y1 * b + y0) ≤ q
  le : q ≤ b + 1
theorem Guess.start {b u y1 y0 u1 : Nat} (h1 : b ≤ 2 * y1) (hy1 : 0 < y1) (hy0 : y0 < b) (hu : u < y1 * b + y0) (hu1 : u1 < b) : Guess b u y1 y0 u1 (u / y1) (u % y1) := by
  have hge : (u * b + u1) / (y1 * b + y0) ≤ u / y1 := by
    refine guess_ge (D := y1 * b + y0) (R := u * b + u1) (P := b) (low := u1) hy1 (Nat.div_mul_le_self _ _) (by omega) rfl hu1
  have hle : u / y1 ≤ b + 1 := by
    apply Nat.le_of_lt_succ
    rw [Nat.div_lt_iff_lt_mul hy1]
    show u < (b + 1 + 1) * y1
    have : (b + 1 + 1) * y1 = y1 * b + 2 * y1 := by grind
    omega
  exact ⟨by rw [Nat.mul_comm]; exact Nat.div_add_mod u y1, hge, hle⟩
theorem Guess.expand {b u y1 y0 u1 q r : Nat} (h : Guess b u y1 y0 u1 q r) : q * (y1 * b + y0) + r * b = u * b + q * y0 := by
  rw [← h.sum]; grind
theorem Guess.lower {b u y1 y0 u1 q r : Nat} (h : Guess b u y1 y0 u1 q r) (hu : u < y1 * b + y0) (hu1 : u1 < b) (ht : b ≤ q ∨ b * r + u1 < q * y0) :
    Guess b u y1 y0 u1 (q - 1) (r + y1) ∧ 1 ≤ q ∧ q - 1 ≤ b := by
  have hY : 0 < y1 * b + y0 := Nat.lt_of_le_of_lt (Nat.zero_le _) hu
  have hlt : (u * b + u1) / (y1 * b + y0) < q := by
    rw [Nat.div_lt_iff_lt_mul hY]
    rcases ht with ht | ht
    · have h1 : b * (y1 * b + y0) ≤ q * (y1 * b + y0) := Nat.mul_le_mul_right _ ht
      have h2 : (u + 1) * b ≤ (y1 * b + y0) * b := Nat.mul_le_mul_right _ hu
      have h3 : (u + 1) * b = u * b + b := by grind
      have h4 : b * (y1 * b + y0) = (y1 * b + y0) * b := Nat.mul_comm _ _
      omega
    · have h1 := h.expand
      have h2 : r * b = b * r := Nat.mul_comm _ _
      omega
  obtain ⟨p, rfl⟩ := Nat.exists_eq_succ_of_ne_zero (Nat.ne_of_gt (Nat.lt_of_le_of_lt (Nat.zero_le _) hlt))
  refine ⟨⟨?_, ?_, ?_⟩, by omega, ?_⟩
  · rw [← h.sum, Nat.succ_eq_add_one, Nat.add_sub_cancel]; grind
  · exact Nat.le_of_lt_succ hlt
  · have := h.le; omega
  · have := h.le; omega
theorem Guess.done {b u y1 y0 u1 q r : Nat} (h : Guess b u y1 y0 u1 q r) (hY : 0 < y1 * b + y0) (ht : q * y0 ≤ b * r + u1) : q = (u * b + u1) / (y1 * b + y0) := by
  apply Nat.le_antisymm _ h.ge
  rw [Nat.le_div_iff_mul_le hY]
  have h1 := h.expand
  have h2 : r * b = b * r := Nat.mul_comm _ _
  omega
theorem Guess.done_break {b u y1 y0 u1 q r : Nat} (h : Guess b u y1 y0 u1 q r) (hY : 0 < y1 * b + y0) (hy0 : y0 < b) (hq : q ≤ b) (hr : b ≤ r) : q = (u * b + u1) / (y1 * b + y0) := by
  refine h.done hY ?_
  have h1 : q * y0 ≤ b * y0 := Nat.mul_le_mul_right _ hq
  have h2 : b * y0 ≤ b * b := Nat.mul_le_mul_left _ (by omega)
  have h3 : b * b ≤ b * r := Nat.mul_le_mul_left _ hr
  omega
theorem two_digits {b u Y n1 n0 : Nat} : (u * (b * b) + (n1 * b + n0)) = (((u * b + n1) / Y) * b + (((u * b + n1) % Y) * b + n0) / Y) * Y + (((u * b + n1) % Y) * b + n0) % Y := by
  have h1 := Nat.div_add_mod (u * b + n1) Y
  have h2 := Nat.div_add_mod (((u * b + n1) % Y) * b + n0) Y
  have h3 : u * (b * b) + (n1 * b + n0) = (u * b + n1) * b + n0 := by grind
  generalize (u * b + n1) / Y = q1 at *
  generalize (u * b + n1) % Y = r1 at *
  generalize (r1 * b + n0) / Y = q0 at *
  generalize (r1 * b + n0) % Y = r0 at *
  rw [h3, ← h1]
  have h4 : (Y * q1 + r1) * b + n0 = Y * q1 * b + (r1 * b + n0) := by grind
  rw [h4, ← h2]; grind
theorem digit_lt_base {u n Y b : Nat} (hu : u < Y) (hn : n < b) : (u * b + n) / Y < b := by
  rw [Nat.div_lt_iff_lt_mul (by omega)]
  have h1 : (u + 1) * b ≤ Y * b := Nat.mul_le_mul_right _ hu
  have h2 : (u + 1) * b = u * b + b := by grind
  have h3 : b * Y = Y * b := Nat.mul_comm _ _
  omega
theorem scaled {U y s q r : Nat} (hs : 0 < s) (hy : 0 < y) (h : U * s = q * (y * s) + r) (hr : r < y * s) : q = U / y ∧ r / s = U % y := by
  have h1 : (U * s) / (y * s) = q := by
    rw [h, Nat.mul_comm q, Nat.mul_add_div (Nat.mul_pos hy hs), Nat.div_eq_of_lt hr]; rfl
  have h2 : (U * s) % (y * s) = r := by
    rw [h, Nat.mul_comm q, Nat.mul_add_mod, Nat.mod_eq_of_lt hr]
  rw [Nat.mul_div_mul_right _ _ hs] at h1
  rw [Nat.mul_mod_mul_right] at h2
  exact ⟨h1.symm, by rw [← h2, Nat.mul_div_cancel _ hs]⟩
end Big
namespace Go.Proofs.YtoegbjmoecbjdaaGreatDoor
open Go.RowKit Big
theorem wrap_in (n : Nat) (h : n < B64) : IntKind.u64.wrap (n : Int) = n := by
  rw [IntKind.wrap_u64]; rw [B64_eq] at h; omega
theorem wrap_mod (n : Nat) : IntKind.u64.wrap (n : Int) = ((n % B64 : Nat) : Int) := by
  rw [IntKind.wrap_u64, B64_eq]; omega
theorem or_parts (a c s : Nat) (h : c < 2 ^ s) (hc : c < B64) (ha : a * 2 ^ s < B64) : bits .or .u64 ((a * 2 ^ s : Nat) : Int) (c : Int) = ((a * 2 ^ s + c : Nat) : Int) := by
  rw [u64_or_nat _ _ (by rw [B64_eq] at ha; exact ha) (by rw [B64_eq] at hc; exact hc)]
  congr 1
  rw [Nat.mul_comm]
  exact (Nat.two_pow_add_eq_or_of_lt h a).symm
theorem and_mask (a : Nat) (ha : a < B64) : bits .and .u64 (a : Int) 4294967295 = ((a % 4294967296 : Nat) : Int) := by
  rw [show (4294967295 : Int) = ((4294967295 : Nat) : Int) from rfl, u64_and_nat _ _ (by rw [B64_eq] at ha; exact ha) (by omega)]
  congr 1
  exact Nat.and_two_pow_sub_one_eq_mod a 32
theorem cast_pow (a s : Nat) : (a : Int) * 2 ^ s = ((a * 2 ^ s : Nat) : Int) := by push_cast; rfl
theorem lz_facts (y : Nat) (h0 : 0 < y) (hB : y < B64) : ∃ s : Nat, Hid ((64 - (Lib.bitLen y : Int)) = s) ∧ s < 64 ∧ y * 2 ^ s < B64 ∧ 9223372036854775808 ≤ y * 2 ^ s := by
  have hb := Lib.bitLenAux_bounds 64 y (by rw [B64_eq] at hB; exact hB) (by omega)
  obtain ⟨h1, h2, h3⟩ := hb
  have h4 : Lib.bitLenAux 64 y - 1 < 64 := by
    apply (Nat.pow_lt_pow_iff_right (a := 2) (by omega)).1
    rw [B64_eq] at hB
    exact Nat.lt_of_le_of_lt h2 hB
  have e : Lib.bitLen y = Lib.bitLenAux 64 y := rfl
  refine ⟨64 - Lib.bitLenAux 64 y, ?_, by omega, ?_, ?_⟩
  · show _ = _
    rw [e]; omega
  · have h5 : y * 2 ^ (64 - Lib.bitLenAux 64 y) < 2 ^ Lib.bitLenAux 64 y * 2 ^ (64 - Lib.bitLenAux 64 y) := Nat.mul_lt_mul_of_pos_right h3 (Nat.pow_pos (by omega))
    rw [← Nat.pow_add, show Lib.bitLenAux 64 y + (64 - Lib.bitLenAux 64 y) = 64 from by omega] at h5
    rw [B64_eq]; exact h5
  · have h5 : 2 ^ (Lib.bitLenAux 64 y - 1) * 2 ^ (64 - Lib.bitLenAux 64 y) ≤ y * 2 ^ (64 - Lib.bitLenAux 64 y) := Nat.mul_le_mul_right _ h2
    rw [← Nat.pow_add, show Lib.bitLenAux 64 y - 1 + (64 - Lib.bitLenAux 64 y) = 63 from by omega] at h5
    exact h5
theorem div64_parts (hi lo y s : Nat) (hy : hi < y) (hs : s < 64) (hlo : lo < B64) (hY : y * 2 ^ s < B64) :
    IntKind.u64.wrap ((y : Int) * 2 ^ s) = ((y * 2 ^ s : Nat) : Int) ∧ IntKind.u64.wrap ((hi : Int) * 2 ^ s) = ((hi * 2 ^ s : Nat) : Int) ∧ (lo : Int) / 2 ^ (64 - s) = ((lo / 2 ^ (64 - s) : Nat) : Int) ∧
    IntKind.u64.wrap ((lo : Int) * 2 ^ s) = ((lo % 2 ^ (64 - s) * 2 ^ s : Nat) : Int) ∧
    bits .or .u64 ((hi * 2 ^ s : Nat) : Int) ((lo / 2 ^ (64 - s) : Nat) : Int) = ((hi * 2 ^ s + lo / 2 ^ (64 - s) : Nat) : Int) ∧
    (hi * 2 ^ s + lo / 2 ^ (64 - s)) * B64 + lo % 2 ^ (64 - s) * 2 ^ s = (hi * B64 + lo) * 2 ^ s ∧ hi * 2 ^ s + lo / 2 ^ (64 - s) < y * 2 ^ s ∧ lo % 2 ^ (64 - s) * 2 ^ s < B64 := by
  have hpq : 2 ^ s * 2 ^ (64 - s) = B64 := by
    rw [← Nat.pow_add, show s + (64 - s) = 64 from by omega]; rfl
  have hp : 0 < 2 ^ s := Nat.pow_pos (by omega)
  have hq : 0 < 2 ^ (64 - s) := Nat.pow_pos (by omega)
  have hL : lo / 2 ^ (64 - s) < 2 ^ s := by rw [Nat.div_lt_iff_lt_mul hq, hpq]; exact hlo
  have hH : (hi + 1) * 2 ^ s ≤ y * 2 ^ s := Nat.mul_le_mul_right _ hy
  rw [Nat.add_mul, Nat.one_mul] at hH
  have hdm := Nat.div_add_mod lo (2 ^ (64 - s))
  have hN : lo % 2 ^ (64 - s) * 2 ^ s < B64 := by
    have := Nat.mul_lt_mul_of_pos_right (Nat.mod_lt lo hq) hp
    rw [Nat.mul_comm (2 ^ (64 - s)), hpq] at this; exact this
  refine ⟨by rw [cast_pow, wrap_in _ hY], by rw [cast_pow, wrap_in _ (by omega)], by push_cast; rfl, ?_, ?_, ?_, by omega, hN⟩
  · rw [cast_pow, wrap_mod]
    congr 1
    rw [← hpq, Nat.mul_comm (2 ^ s), Nat.mul_mod_mul_right]
  · exact or_parts hi _ s hL (by have := Nat.div_le_self lo (2 ^ (64 - s)); omega) (by omega)
  · generalize lo / 2 ^ (64 - s) = L at *
    generalize lo % 2 ^ (64 - s) = M at *
    rw [← hdm, ← hpq]
    grind
end Go.Proofs.YtoegbjmoecbjdaaGreatDoor
