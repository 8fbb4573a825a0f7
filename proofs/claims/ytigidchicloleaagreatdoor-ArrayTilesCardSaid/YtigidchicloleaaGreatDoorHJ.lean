/- The document's Paste, where it is good. -/
import Derived.Test.YtigidchicloleaaGreatDoorHO
import Derived.Test.YtigidchicloleaaGreatDoorJE
import Derived.Test.YtigidchicloleaaGreatDoorJB
namespace Go.Proofs.YtigidchicloleaaGreatDoor.Arr
open Go.RowKit Go.Shelf
open Go.Lib
attribute [local go_sem] Oper.semAt_some
def pasG (pos : Nat → Nat) (bl : List (List UInt8)) (n : Nat) (l : List (List UInt8)) : List (List UInt8) := (List.range n).foldl (fun L i => L.set (pos i) (bl.getD i [])) l
theorem pasG_succ (pos : Nat → Nat) (bl : List (List UInt8)) (n : Nat) (l : List (List UInt8)) : pasG pos bl (n + 1) l = (pasG pos bl n l).set (pos n) (bl.getD n []) := by
  simp [pasG, List.range_succ]
theorem pasG_len (pos : Nat → Nat) (bl : List (List UInt8)) : ∀ (n : Nat) (l : List (List UInt8)), (pasG pos bl n l).length = l.length
  | 0, _ => rfl
  | n + 1, l => by rw [pasG_succ, List.length_set, pasG_len pos bl n l]
end Go.Proofs.YtigidchicloleaaGreatDoor.Arr
namespace Go.Proofs.YtigidchicloleaaGreatDoor.Arr
open Go.RowKit Go.Shelf
open Go.Lib
def posOf (s : List Nat) (cuts : List (Int × Int × Int)) (i : Nat) : Nat := plc s (thr cuts (ixOf (cnts cuts) i)) 0
theorem list_nat_eq {a b : List Nat} (h : a.length = b.length) (hk : ∀ k, k < a.length → a.getD k 0 = b.getD k 0) : a = b := by
  refine List.ext_getElem h (fun k h1 h2 => ?_)
  have := hk k h1
  rwa [List.getD_eq_getElem?_getD, List.getElem?_eq_getElem h1, List.getD_eq_getElem?_getD, List.getElem?_eq_getElem h2] at this
theorem posOf_inj {s : List Nat} {cuts : List (Int × Int × Int)} (hs : Shp s) (h : slabOk s cuts = true) {i j : Nat} (hi : i < prod (cnts cuts)) (hj : j < prod (cnts cuts)) (e : posOf s cuts i = posOf s cuts j) : i = j := by
  obtain ⟨hi1, hi2⟩ := ixOf_is (cnts cuts) i hi
  obtain ⟨hj1, hj2⟩ := ixOf_is (cnts cuts) j hj
  obtain ⟨ti, ui⟩ := thr_ok h hs.2.1 hi1
  obtain ⟨tj, uj⟩ := thr_ok h hs.2.1 hj1
  have e2 : thr cuts (ixOf (cnts cuts) i) = thr cuts (ixOf (cnts cuts) j) := by
    rw [← ixOf_plc s _ ui, ← ixOf_plc s _ uj]
    unfold posOf at e
    rw [e]
  have hlen : cuts.length = s.length := by
    unfold slabOk at h
    rw [Bool.and_eq_true, decide_eq_true_eq] at h
    exact h.1
  have hcl : (cnts cuts).length = cuts.length := by rw [cnts, List.length_map]
  have e3 : ixOf (cnts cuts) i = ixOf (cnts cuts) j := by
    refine list_nat_eq (by rw [ixOf_len, ixOf_len]) (fun k hk => ?_)
    rw [ixOf_len, hcl] at hk
    have h1 : thrAt cuts (ixOf (cnts cuts) i) k = thrAt cuts (ixOf (cnts cuts) j) k := by
      rw [← thr_get hk, ← thr_get hk, e2]
    obtain ⟨a1, -, a3, -⟩ := ti k hk
    obtain ⟨-, -, b3, -⟩ := tj k hk
    unfold thrAt at h1
    have hst : 1 ≤ (cuts.getD k (0, 0, 0)).2.2 := by
      unfold slabOk at h
      rw [Bool.and_eq_true, List.all_eq_true] at h
      have := h.2 k (List.mem_range.2 (by omega))
      unfold cutAt at this
      exact (last_le this).2.2.1
    generalize cuts.getD k (0, 0, 0) = z at *
    obtain ⟨za, zn', zs⟩ := z
    have e4 : ((ixOf (cnts cuts) i).getD k 0 : Int) * zs = ((ixOf (cnts cuts) j).getD k 0 : Int) * zs := by
      simp only at h1 a1 a3 b3
      omega
    have e5 := Int.eq_of_mul_eq_mul_right (show zs ≠ 0 by simp only at hst; omega) e4
    exact Int.ofNat_inj.1 e5
  rw [← hi2, ← hj2, e3]
theorem pasG_hit {pos : Nat → Nat} {bl l : List (List UInt8)} : ∀ (n : Nat), (∀ i j, i < n → j < n → pos i = pos j → i = j) → (∀ i, i < n → pos i < l.length) → ∀ i, i < n → (pasG pos bl n l).getD (pos i) [] = bl.getD i []
  | 0, _, _, i, hi => by omega
  | n + 1, h1, h2, i, hi => by
    rw [pasG_succ]
    by_cases e : i = n
    · subst e
      rw [List.getD_eq_getElem?_getD, List.getElem?_set_self (by rw [pasG_len]; exact h2 i hi)]; rfl
    · rw [List.getD_eq_getElem?_getD, List.getElem?_set_ne (fun e2 => e (h1 i n hi (by omega) e2.symm)), ← List.getD_eq_getElem?_getD]
      exact pasG_hit n (fun a b ha hb => h1 a b (by omega) (by omega)) (fun a ha => h2 a (by omega)) i (by omega)
theorem pasG_miss {pos : Nat → Nat} {bl l : List (List UInt8)} {y : Nat} : ∀ (n : Nat), (∀ i, i < n → pos i ≠ y) → (pasG pos bl n l).getD y [] = l.getD y []
  | 0, _ => rfl
  | n + 1, h => by
    rw [pasG_succ, List.getD_eq_getElem?_getD, List.getElem?_set_ne (h n (by omega)), ← List.getD_eq_getElem?_getD]
    exact pasG_miss n (fun i hi => h i (by omega))
theorem pasteV_is (s : List Nat) (l : List (List UInt8)) (cuts : List (Int × Int × Int)) (bl : List (List UInt8)) : pasteV s l cuts bl = pasG (posOf s cuts) bl (prod (cnts cuts)) l := rfl
theorem texts_eq {a b : List (List UInt8)} (h : a.length = b.length) (hk : ∀ k, k < a.length → a.getD k [] = b.getD k []) : a = b := by
  refine List.ext_getElem h (fun k h1 h2 => ?_)
  have := hk k h1
  rwa [List.getD_eq_getElem?_getD, List.getElem?_eq_getElem h1, List.getD_eq_getElem?_getD, List.getElem?_eq_getElem h2] at this
theorem sliceV_get {s : List Nat} {l : List (List UInt8)} {cuts : List (Int × Int × Int)} {i : Nat} (hi : i < prod (cnts cuts)) : (sliceV s l cuts).getD i [] = l.getD (posOf s cuts i) [] := by
  unfold sliceV
  rw [List.getD_eq_getElem?_getD, List.getElem?_map, List.getElem?_range hi]; rfl
theorem all_set {L : List (List UInt8)} {p : Nat} {x : List UInt8} (h : L.all isV = true) (hx : isV x = true) : (L.set p x).all isV = true := by
  rw [List.all_eq_true] at h ⊢
  intro y hy
  rcases List.mem_or_eq_of_mem_set hy with h1 | h1
  · exact h y h1
  · rw [h1]; exact hx
theorem pasG_all {pos : Nat → Nat} {bl l : List (List UInt8)} (h1 : l.all isV = true) (h2 : bl.all isV = true) : ∀ n, (pasG pos bl n l).all isV = true
  | 0 => h1
  | n + 1 => by
    rw [pasG_succ]
    refine all_set (pasG_all h1 h2 n) ?_
    rw [List.getD_eq_getElem?_getD]
    cases he : bl[n]? with
    | none => rfl
    | some x => exact List.all_eq_true.1 h2 x (List.mem_of_getElem? he)
theorem valid_paste {s : List Nat} {l bl : List (List UInt8)} {cuts : List (Int × Int × Int)} {t : List Int} (hv : validA (s.map Int.ofNat) l = true) (hw : validA t bl = true) : validA (s.map Int.ofNat) (pasteV s l cuts bl) = true := by
  unfold validA at hv hw ⊢
  simp only [Bool.and_eq_true, decide_eq_true_eq] at hv hw ⊢
  refine ⟨hv.1, ?_, ?_⟩
  · rw [pasteV_is, pasG_len]; exact hv.2.1
  · rw [pasteV_is]; exact pasG_all hv.2.2 hw.2.2 _
theorem pst_zero {s t : List Int} {l bl : List (List UInt8)} {cuts : List (Int × Int × Int)} (h : (pstV s t l bl cuts).1 = 0) : ∃ s0 : List Nat, s = s0.map Int.ofNat ∧ Shp s0 ∧ validA s l = true ∧ validA t bl = true ∧ slabOk s0 cuts = true ∧ t = (cnts cuts).map Int.ofNat ∧ pstV s t l bl cuts = (0, s0, pasteV s0 l cuts bl) := by
  unfold pstV at h ⊢
  by_cases hv : validA s l = false
  · rw [if_pos hv] at h; cases h
  rw [if_neg hv] at h ⊢
  by_cases hw : validA t bl = false
  · rw [if_pos hw] at h; cases h
  rw [if_neg hw] at h ⊢
  by_cases hf : slabOk (s.map Int.toNat) cuts = false
  · rw [if_pos hf] at h; cases h
  rw [if_neg hf] at h ⊢
  by_cases ht : ¬ t = (cnts cuts).map Int.ofNat
  · rw [if_pos ht] at h; cases h
  rw [if_neg ht]
  have hv2 : validA s l = true := by simpa using hv
  have hvs : vs s = true := by unfold validA at hv2; rw [Bool.and_eq_true] at hv2; exact hv2.1
  obtain ⟨s0, rfl, hs0⟩ := vs_yes hvs
  rw [toNat_map] at hf ⊢
  exact ⟨s0, rfl, hs0, hv2, by simpa using hw, by simpa using hf, by simpa using ht, rfl⟩
theorem ppaste_any (p q p2 q2 cq : Option Addr) (c d c2 d2 n m n2 m2 k cd : Nat) (s t : List Int) (l bl : List (List UInt8)) (cuts : List (Int × Int × Int)) (w : World) (he : Env w) (hs : Hid (s.length = n)) (hl : Hid (l.length = m)) (hm : m ≤ 5000) (ht : Hid (t.length = n2)) (hbl : Hid (bl.length = m2)) (hm2 : m2 ≤ 5000) (hk : Hid (cuts.length = k)) (hp : Rd w p s) (hq : RdS w q l) (hp2 : Rd w p2 t) (hq2 : RdS w q2 bl) (hcq : RdC w cq cuts) :
    Calls Tryz.prog 26 #[.agg #[.slice p n c, .slice q m d], .slice cq k cd, .agg #[.slice p2 n2 c2, .slice q2 m2 d2]] w (ArrPost w (pstV s t l bl cuts).1 (pstV s t l bl cuts).2.1 (pstV s t l bl cuts).2.2) := by
  by_cases h0 : (pstV s t l bl cuts).1 = 0
  · obtain ⟨s0, rfl, hsh, hva, hvb, hsl, rfl, e⟩ := pst_zero h0
    rw [e]
    obtain ⟨hcl, -, -, -⟩ := cnts_ok hsl hsh.2.1
    have hsn : s0.length = n := by rw [← hs.out, List.length_map]
    obtain rfl : k = n := by rw [← hk.out, hcl, hsn]
    obtain rfl : n2 = k := by rw [← ht.out, List.length_map, cnts, List.length_map, hk.out]
    exact ppaste_yes p q p2 q2 cq c d c2 d2 n2 m m2 cd s0 l bl cuts w he (Lib.hid hsn) hl hm hbl hm2 hk (Lib.hid hsh) hp hq hp2 hq2 hcq hva hvb (Lib.hid hsl)
  · exact ppaste_no p q p2 q2 cq c d c2 d2 n m n2 m2 k cd s t l bl cuts w he hs hl hm ht hbl hm2 hk hp hq hp2 hq2 hcq h0
end Go.Proofs.YtigidchicloleaaGreatDoor.Arr
namespace Go.Proofs.YtigidchicloleaaGreatDoor.Arr
open Go.RowKit Go.Shelf
open Go.Lib
attribute [local go_sem] Oper.semAt_some
theorem boxL_cons (x y a : Nat) (s z ix : List Nat) : boxL (x :: s) (y :: z) (a :: ix) = (((a * y : Nat) : Int), ((min y (x - a * y) : Nat) : Int), 1) :: boxL s z ix := by
  unfold boxL
  rw [List.length_cons, List.range_succ_eq_map, List.map_cons, List.map_map]
  rfl
theorem nums_cons (x y : Nat) (s z : List Nat) : nums (x :: s) (y :: z) = ((x + y - 1) / y) :: nums s z := by
  unfold nums
  rw [List.length_cons, List.range_succ_eq_map, List.map_cons, List.map_map]
  rfl
theorem cnts_cons (c : Int × Int × Int) (l : List (Int × Int × Int)) : cnts (c :: l) = c.2.1.toNat :: cnts l := rfl
def sumN (f : Nat → Nat) : Nat → Nat
  | 0 => 0
  | n + 1 => sumN f n + f n
theorem sumN_congr {f g : Nat → Nat} : ∀ (n : Nat), (∀ i, i < n → f i = g i) → sumN f n = sumN g n
  | 0, _ => rfl
  | n + 1, h => by
    show sumN f n + f n = sumN g n + g n
    rw [sumN_congr n (fun i hi => h i (by omega)), h n (by omega)]
theorem sumN_add (f : Nat → Nat) (m : Nat) : ∀ n, sumN f (m + n) = sumN f m + sumN (fun i => f (m + i)) n
  | 0 => rfl
  | n + 1 => by
    show sumN f (m + n) + f (m + n) = sumN f m + (sumN (fun i => f (m + i)) n + f (m + n))
    rw [sumN_add f m n, Nat.add_assoc]
theorem sumN_mul (c : Nat) (f : Nat → Nat) : ∀ n, sumN (fun i => c * f i) n = c * sumN f n
  | 0 => by simp [sumN]
  | n + 1 => by
    show sumN (fun i => c * f i) n + c * f n = c * (sumN f n + f n)
    rw [sumN_mul c f n, Nat.mul_add]
theorem sumN_prod (g h : Nat → Nat) (P : Nat) : ∀ x, sumN (fun i => g (i / P) * h (i % P)) (x * P) = sumN g x * sumN h P
  | 0 => by simp [sumN]
  | x + 1 => by
    rw [Nat.add_mul, Nat.one_mul, sumN_add, sumN_prod g h P x]
    show _ = (sumN g x + g x) * sumN h P
    rw [Nat.add_mul, ← sumN_mul (g x) h P]
    congr 1
    refine sumN_congr P (fun i hi => ?_)
    have e1 : (x * P + i) / P = x := by
      rw [Nat.mul_comm, Nat.mul_add_div (by omega), Nat.div_eq_of_lt hi, Nat.add_zero]
    have e2 : (x * P + i) % P = i := by rw [Nat.mul_comm, Nat.mul_add_mod, Nat.mod_eq_of_lt hi]
    simp only [e1, e2]
theorem sum_min (x y : Nat) : ∀ m, sumN (fun c => min y (x - c * y)) m = min x (m * y)
  | 0 => by simp [sumN]
  | m + 1 => by
    show sumN (fun c => min y (x - c * y)) m + min y (x - m * y) = min x ((m + 1) * y)
    rw [sum_min x y m, Nat.add_mul, Nat.one_mul]
    omega
theorem ceil_mul {x y : Nat} (hy : 1 ≤ y) : x ≤ (x + y - 1) / y * y := by
  have h1 := Nat.div_add_mod (x + y - 1) y
  have h2 := Nat.mod_lt (x + y - 1) (show 0 < y by omega)
  rw [Nat.mul_comm] at h1
  omega
theorem box_sum : ∀ (s z : List Nat), z.length = s.length → (∀ x ∈ z, 1 ≤ x ∧ x ≤ 1024) → sumN (fun i => prod (cnts (boxL s z (ixOf (nums s z) i)))) (prod (nums s z)) = prod s
  | [], [], _, _ => rfl
  | x :: s, y :: z, hl, hz => by
    have hy := (hz y (by simp)).1
    have ih := box_sum s z (by simpa using hl) (fun u hu => hz u (List.mem_cons_of_mem _ hu))
    rw [nums_cons, prod_cons, prod_cons]
    have e : sumN (fun i => prod (cnts (boxL (x :: s) (y :: z) (ixOf (((x + y - 1) / y) :: nums s z) i)))) ((x + y - 1) / y * prod (nums s z))
        = sumN (fun i => (fun c => min y (x - c * y)) (i / prod (nums s z)) * (fun j => prod (cnts (boxL s z (ixOf (nums s z) j)))) (i % prod (nums s z))) ((x + y - 1) / y * prod (nums s z)) := by
      refine sumN_congr _ (fun i _ => ?_)
      show prod (cnts (boxL (x :: s) (y :: z) ((i / prod (nums s z)) :: ixOf (nums s z) (i % prod (nums s z))))) = _
      rw [boxL_cons, cnts_cons, prod_cons]
      rfl
    rw [e]
    refine (sumN_prod (fun c => min y (x - c * y)) (fun j => prod (cnts (boxL s z (ixOf (nums s z) j)))) (prod (nums s z)) _).trans ?_
    rw [ih, sum_min, Nat.min_eq_left (ceil_mul hy)]
theorem box_cnt {s z ix : List Nat} {k : Nat} (hk : k < s.length) : (cnts (boxL s z ix)).getD k 0 = min (z.getD k 0) (s.getD k 0 - ix.getD k 0 * z.getD k 0) := by
  rw [cnts_at (by rw [boxL_len]; exact hk), boxL_at hk]
  rfl
theorem box_ok {s z ix : List Nat} (hz : z.length = s.length) (hzb : ∀ x ∈ z, 1 ≤ x ∧ x ≤ 1024) (h : IsIx (nums s z) ix) : slabOk s (boxL s z ix) = true := by
  refine slabOk_yes (boxL_len s z ix) (fun k hk => ?_)
  unfold cutAt
  rw [boxL_at hk]
  unfold boxAt
  have h1 := chunk_lt hz hzb h hk
  refine cut_of (Int.natCast_nonneg _) (Int.natCast_nonneg _) (Int.le_refl _) ?_ (fun h2 => ?_)
  · simp only; omega
  · simp only at h2 ⊢; omega
theorem box_all_in {s z : List Nat} (hz : z.length = s.length) (hzb : ∀ x ∈ z, 1 ≤ x ∧ x ≤ 1024) {y : Nat} (hy : y < prod s) : ∃ j k, j < prod (nums s z) ∧ k < prod (cnts (boxL s z (ixOf (nums s z) j))) ∧ posOf s (boxL s z (ixOf (nums s z) j)) k = y := by
  obtain ⟨hi1, hi2⟩ := ixOf_is s y hy
  obtain ⟨e, HE⟩ : ∃ e, e = ixOf s y := ⟨_, rfl⟩
  rw [← HE] at hi1 hi2
  have hzp : ∀ k, k < s.length → 1 ≤ z.getD k 0 := fun k hk => by
    rw [List.getD_eq_getElem?_getD, List.getElem?_eq_getElem (by rw [hz]; exact hk)]
    exact (hzb _ (List.getElem_mem _)).1
  obtain ⟨c, HC⟩ : ∃ c, c = (List.range s.length).map (fun k => e.getD k 0 / z.getD k 0) := ⟨_, rfl⟩
  have hcat : ∀ k, k < s.length → c.getD k 0 = e.getD k 0 / z.getD k 0 := fun k hk => by
    rw [HC, List.getD_eq_getElem?_getD, List.getElem?_map, List.getElem?_range hk]; rfl
  have hcl : c.length = s.length := by rw [HC, List.length_map, List.length_range]
  have hci : IsIx (nums s z) c := ⟨by rw [hcl, nums_len], fun k hk => by
    rw [nums_len] at hk
    rw [hcat k hk, nums_at hk]
    have h1 := hi1.2 k hk
    have h2 := hzp k hk
    have h3 := Nat.div_mul_le_self (e.getD k 0) (z.getD k 0)
    show e.getD k 0 / z.getD k 0 + 1 ≤ _
    rw [Nat.le_div_iff_mul_le (by omega), Nat.add_mul, Nat.one_mul]
    omega⟩
  have hj : plc (nums s z) c 0 < prod (nums s z) := by
    have := (plc_lt _ _ 0 hci).1
    simpa using this
  have ec := ixOf_plc (nums s z) c hci
  obtain ⟨r, HR⟩ : ∃ r, r = (List.range s.length).map (fun k => e.getD k 0 % z.getD k 0) := ⟨_, rfl⟩
  have hrat : ∀ k, k < s.length → r.getD k 0 = e.getD k 0 % z.getD k 0 := fun k hk => by
    rw [HR, List.getD_eq_getElem?_getD, List.getElem?_map, List.getElem?_range hk]; rfl
  have hrl : r.length = s.length := by rw [HR, List.length_map, List.length_range]
  have hri : IsIx (cnts (boxL s z c)) r := ⟨by rw [hrl, cnts, List.length_map, boxL_len], fun k hk => by
    rw [cnts, List.length_map, boxL_len] at hk
    rw [hrat k hk, box_cnt hk, hcat k hk]
    have h1 := hi1.2 k hk
    have h2 := hzp k hk
    have h3 := Nat.div_add_mod (e.getD k 0) (z.getD k 0)
    have h4 := Nat.mod_lt (e.getD k 0) (show 0 < z.getD k 0 by omega)
    rw [Nat.mul_comm] at h3
    omega⟩
  have hk : plc (cnts (boxL s z c)) r 0 < prod (cnts (boxL s z c)) := by
    have := (plc_lt _ _ 0 hri).1
    simpa using this
  have er := ixOf_plc (cnts (boxL s z c)) r hri
  refine ⟨plc (nums s z) c 0, plc (cnts (boxL s z c)) r 0, hj, by rw [ec]; exact hk, ?_⟩
  unfold posOf
  rw [ec, er]
  have et : thr (boxL s z c) r = e := ext_getD (by rw [thr_len, boxL_len, hi1.1]) (fun k hk => by
    rw [thr_len, boxL_len] at hk
    rw [thr_get (by rw [boxL_len]; exact hk)]
    unfold thrAt
    rw [boxL_at hk]
    unfold boxAt
    rw [hcat k hk, hrat k hk]
    have h3 := Nat.div_add_mod (e.getD k 0) (z.getD k 0)
    rw [Nat.mul_comm] at h3
    simp only [Int.mul_one]
    omega)
  rw [et]
  exact hi2
def Tiled (s z : List Nat) (l out : List (List UInt8)) (i : Nat) : Prop := out.length = prod s ∧ out.all isV = true ∧ ∀ j k, j < i → k < prod (cnts (boxL s z (ixOf (nums s z) j))) → out.getD (posOf s (boxL s z (ixOf (nums s z) j)) k) [] = l.getD (posOf s (boxL s z (ixOf (nums s z) j)) k) []
theorem Tiled.zero (s z : List Nat) (l : List (List UInt8)) : Tiled s z l (List.replicate (prod s) []) 0 := ⟨List.length_replicate .., by rw [List.all_eq_true]; intro x hx; obtain rfl := List.eq_of_mem_replicate hx; rfl, fun j k hj => by omega⟩
theorem Tiled.valid {s z : List Nat} {l out : List (List UInt8)} {i : Nat} (hs : Shp s) (h : Tiled s z l out i) : validA (s.map Int.ofNat) out = true := by
  unfold validA
  rw [vs_of_shp hs, toNat_map, decide_eq_true h.1, h.2.1]; rfl
theorem Tiled.step {s z : List Nat} {l out : List (List UInt8)} {i : Nat} (hs : Shp s) (hz : z.length = s.length) (hzb : ∀ x ∈ z, 1 ≤ x ∧ x ≤ 1024) (hv : validA (s.map Int.ofNat) l = true) (h : Tiled s z l out i) (hi : i < prod (nums s z)) : Tiled s z l (pasteV s out (boxL s z (ixOf (nums s z) i)) (sliceV s l (boxL s z (ixOf (nums s z) i)))) (i + 1) := by
  have hok := box_ok hz hzb (ixOf_is (nums s z) i hi).1
  have hvs := valid_slice hs hok hv
  have hvp := valid_paste (t := (cnts (boxL s z (ixOf (nums s z) i))).map Int.ofNat) (h.valid hs) hvs (cuts := boxL s z (ixOf (nums s z) i))
  have hpl : ∀ k, k < prod (cnts (boxL s z (ixOf (nums s z) i))) → posOf s (boxL s z (ixOf (nums s z) i)) k < out.length := fun k hk => by rw [h.1]; exact place_lt hs hok hk
  have hself : ∀ k, k < prod (cnts (boxL s z (ixOf (nums s z) i))) → (pasteV s out (boxL s z (ixOf (nums s z) i)) (sliceV s l (boxL s z (ixOf (nums s z) i)))).getD (posOf s (boxL s z (ixOf (nums s z) i)) k) [] = l.getD (posOf s (boxL s z (ixOf (nums s z) i)) k) [] := fun k hk => by
    rw [pasteV_is, pasG_hit _ (fun a b ha hb e => posOf_inj hs hok ha hb e) hpl k hk, sliceV_get hk]
  refine ⟨by rw [pasteV_is, pasG_len]; exact h.1, by unfold validA at hvp; rw [Bool.and_eq_true, Bool.and_eq_true] at hvp; exact hvp.2.2, fun j k hj hk => ?_⟩
  by_cases e : ∃ k', k' < prod (cnts (boxL s z (ixOf (nums s z) i))) ∧ posOf s (boxL s z (ixOf (nums s z) i)) k' = posOf s (boxL s z (ixOf (nums s z) j)) k
  · obtain ⟨k', hk', e⟩ := e
    rw [← e]
    exact hself k' hk'
  · rw [pasteV_is, pasG_miss _ (fun k' hk' e2 => e ⟨k', hk', e2⟩)]
    by_cases ej : j = i
    · subst ej
      exact absurd ⟨k, hk, rfl⟩ e
    · exact h.2.2 j k (by omega) hk
theorem Tiled.all {s z : List Nat} {l out : List (List UInt8)} (hz : z.length = s.length) (hzb : ∀ x ∈ z, 1 ≤ x ∧ x ≤ 1024) (hl : l.length = prod s) (h : Tiled s z l out (prod (nums s z))) : out = l := by
  refine texts_eq (by rw [h.1, hl]) (fun y hy => ?_)
  rw [h.1] at hy
  obtain ⟨j, k, hj, hk, e⟩ := box_all_in hz hzb hy
  rw [← e]
  exact h.2.2 j k hj hk
end Go.Proofs.YtigidchicloleaaGreatDoor.Arr
namespace Go.Proofs.YtigidchicloleaaGreatDoor.Arr
open Go.RowKit Go.Shelf
open Go.Lib
attribute [local go_sem] Oper.semAt_some
structure RO (B0 A n m c d : Nat) (p q : Option Addr) (s : List Nat) (l : List (List UInt8)) (v : List UInt8) (W : World) : Prop where
  box : W.heap[A]? = some (.cells #[.slice p n c, .slice q m d] 25 (0, 0))
  bv : W.heap[A + 1]? = some (.cells #[.string ⟨List.toArray v⟩] 9 (0, 0))
  sh : RdN W p s
  vals : RdS W q l
  lt : A + 1 < B0
  pb : ∀ b off, p = some ⟨b, off, none⟩ → 0 < s.length → b < B0
  qb : ∀ b off, q = some ⟨b, off, none⟩ → 0 < l.length → b < B0
theorem RO.above {B0 A n m c d : Nat} {p q : Option Addr} {s : List Nat} {l : List (List UInt8)} {v : List UInt8} {W W' : World} {r : Option Nat} (h : RO B0 A n m c d p q s l v W) (hg : W.grownBy W' r) (hr : ∀ k, r = some k → B0 ≤ k) : RO B0 A n m c d p q s l v W' := by
  have hk : ∀ b, b < W.heap.size → b < B0 → W'.heap[b]? = W.heap[b]? := fun b h1 h2 => hg.block b h1 (by intro e; have := hr b e.symm; omega)
  have hl := h.lt
  refine ⟨(hk A (Array.getElem?_eq_some_iff.1 h.box).1 (by omega)).trans h.box, (hk (A + 1) (Array.getElem?_eq_some_iff.1 h.bv).1 hl).trans h.bv, h.sh.keep hg.size (fun b off e h0 => ?_), h.vals.keep hg.size (fun b off e h0 => ?_), hl, h.pb, h.qb⟩
  · obtain ⟨b', off', x, e', hb', -⟩ := h.sh.at h0
    rw [e] at e'; cases e'
    exact hk b hb' (h.pb b off e h0)
  · obtain ⟨b', off', x, e', hb', -⟩ := h.vals.at h0
    rw [e] at e'; cases e'
    exact hk b hb' (h.qb b off e h0)
end Go.Proofs.YtigidchicloleaaGreatDoor.Arr
namespace Go.Proofs.YtigidchicloleaaGreatDoor.Arr
open Go.RowKit Go.Shelf
open Go.Lib
attribute [local go_sem] Oper.semAt_some
structure Vz (w W0 : World) (A : Nat) (p q : Option Addr) (n c m d : Nat) (W : World) : Prop where
  below : Below w.heap.size w W
  more : Below W0.heap.size W0 W
  c0 : W.cell? ⟨A, 0, none⟩ = some (.slice p n c)
  c1 : W.cell? ⟨A, 1, none⟩ = some (.slice q m d)
end Go.Proofs.YtigidchicloleaaGreatDoor.Arr
