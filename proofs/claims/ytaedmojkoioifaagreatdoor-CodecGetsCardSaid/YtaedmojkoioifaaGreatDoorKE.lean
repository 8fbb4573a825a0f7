/- Bytes of values: the document's Put. -/
import Derived.Test.YtaedmojkoioifaaGreatDoorKD
import Derived.Laws.AppendOwnNone
import Derived.BigQuiet
set_option maxHeartbeats 2000000
set_option maxRecDepth 100000
namespace Go.Proofs.YtaedmojkoioifaaGreatDoor
open Go.RowKit
open Go.Lib
def ElPost (w : World) (L : List UInt8) (e : Ending) (w' : World) : Prop := ∃ v, e = .returned v ∧ Below w.heap.size w w' ∧ ((v = .slice none 0 0 ∧ L = []) ∨ ∃ ad c, v = .slice (some ad) L.length c ∧ ∀ j u, (ubs L)[j]? = some u → w'.cell? (ad.add j) = some u)
theorem own_one (w : World) (c : UInt8) : (w.alloc (.cells #[.int .u8 (c.toNat : Int)] 5)).ownsRow w.heap.size 5 1 (.slice (some ⟨w.heap.size, 0, none⟩) 1 1) 1 [.int .u8 (c.toNat : Int)] :=
  ⟨rfl, .inr ⟨w.heap.size, 1, #[.int .u8 (c.toNat : Int)], rfl, Nat.le_refl _, heap_alloc_new w _, Nat.le_refl _, by unfold maxLen; omega, rfl, rfl⟩⟩
theorem el_of_own {w w' : World} {v : Value} {L : List UInt8} (h : w'.ownsRow w.heap.size 5 1 v L.length (ubs L)) (hb : Below w.heap.size w w') (h0 : 0 < L.length) : ElPost w L (.returned v) w' := by
  obtain ⟨p, c, rfl, hB, -⟩ := own_bytes h
  obtain ⟨ad, rfl⟩ := hB.some h0
  exact ⟨_, rfl, hb, .inr ⟨ad, c, rfl, hB.news (Below.refl _ _) ad rfl⟩⟩
theorem widT_pos {k : Int} (h1 : 1 ≤ k) (h4 : k ≤ 4) : 0 < widT k := by
  unfold widT
  have : k = 1 ∨ k = 2 ∨ k = 3 ∨ k = 4 := by omega
  rcases this with rfl | rfl | rfl | rfl <;> decide
theorem el_app {w w' : World} {L : List UInt8} {e : Ending} (h0 : 0 < L.length) (h : App w.heap.size w (.slice none 0 0) L e w') : ElPost w L e w' := by
  obtain ⟨v', rfl, hg⟩ := h
  exact el_of_own hg.own (hg.below (Nat.le_refl _) (fun k e => by cases e)) h0
theorem elem_num (x : List UInt8) (w : World) (hx : x.length ≤ 82) :
    Calls Tryz.prog 18 #[.int .i64 5, .string ⟨x.toArray⟩] w (ElPost w (elemL 5 x)) := by
  obtain ⟨i0, hi, hz0, hz1, hz2⟩ := info_parts infoB5
  have e5 : elemL 5 x = if x = [] then [] else UInt8.ofNat x.length :: x := by unfold elemL; rw [if_pos rfl]
  rw [e5]
  by_cases he : x = []
  · subst he
    have HR : Hid (ElPost w [] (.returned (.slice none 0 0)) w) := Lib.hid ⟨_, rfl, Below.refl _ _, .inl ⟨rfl, rfl⟩⟩
    rw [if_pos rfl]
    go_enter Tryz.func18, Tryz.ntmps18
    go_wp2_with fail
    go_ret
    exact HR.out
  rw [if_neg he]
  obtain ⟨m, HM⟩ : ∃ m, Hid (x.length = m) := ⟨_, rfl⟩
  have hne : x.isEmpty = false := by
    cases x with
    | nil => exact absurd rfl he
    | cons => rfl
  have hm82 : (m : Int) ≤ 82 := by rw [← HM.out]; omega
  have hsz : (⟨x.toArray⟩ : ByteArray).size = m := by rw [← ByteArray.size_data]; simpa using HM.out
  obtain ⟨c, HC⟩ : ∃ c, Hid (c = UInt8.ofNat m) := ⟨_, rfl⟩
  have HCM : Hid (((c.toNat : Nat) : Int) = (m : Int)) := Lib.hid (by rw [HC.out, UInt8.toNat_ofNat']; omega)
  have hres : Hid (UInt8.ofNat x.length :: x = [c] ++ x) := Lib.hid (by rw [HM.out, ← HC.out]; rfl)
  rw [hres.out]
  have HO := Lib.hid (own_one w c)
  have HB1 : Hid (Below w.heap.size w (w.alloc (.cells #[.int .u8 (c.toNat : Int)] 5))) := Lib.hid ((Below.refl _ w).alloc (Nat.le_refl _) _)
  have hbl2 : Hid (1 + (⟨x.toArray⟩ : ByteArray).size ≤ maxLen ∧ 1 + (⟨x.toArray⟩ : ByteArray).size ≤ 140737488355328 ∧ w.heap.size ≤ (w.alloc (.cells #[.int .u8 (c.toNat : Int)] 5)).heap.size) := Lib.hid (by
    have h4 := HB1.out.size
    have h5 := HM.out
    rw [hsz]
    unfold maxLen; omega)
  rw [HCM.out] at HO HB1 hbl2
  clear hx
  go_enter Tryz.func18, Tryz.ntmps18
  go_wp2_with (at_builtin; refine wpList_append_own_string _ rfl (.tmp 13) (.tmp 14) 25 9 rfl w.heap.size 5 i0 Tryz.underlying25 Tryz.underlying9 hi hz0 hz1 hz2 _ _ _ rfl HO.out ⟨x.toArray⟩ rfl hbl2.out.1 hbl2.out.2.1 hbl2.out.2.2 ?_)
  intro v6 w6 hown6 hgrow6 _
  have HR : Hid (ElPost w ([c] ++ x) (.returned v6) w6) := Lib.hid (by
    refine el_of_own ?_ (HB1.out.grown hgrow6 HB1.out.size (fun _ e => by cases e; exact Nat.le_refl _)) (by simp)
    rw [str_u8s, ← HCM.out] at hown6
    have e : 1 + m = ([c] ++ x).length := by simp only [List.length_append, HM.out, List.length_singleton]
    have e2 : ubs ([c] ++ x) = [Value.int .u8 (c.toNat : Int)] ++ ubs x := u8s_app [c] x
    rw [e2, ← e]
    exact hown6)
  clear hown6 hgrow6
  go_wp2_with fail
  go_ret
  exact HR.out
theorem elem_int (k : Int) (x : List UInt8) (w : World) (hf : fitT k x = true) (h1 : 1 ≤ k) (h4 : k ≤ 4) :
    Calls Tryz.prog 18 #[.int .i64 k, .string ⟨x.toArray⟩] w (ElPost w (elemL k x)) := by
  have e5 : elemL k x = be (widT k) (vT x) := by unfold elemL; rw [if_neg (by omega)]
  rw [e5]
  have g5 : (k == 5) = false := by simpa using (by omega : ¬ k = 5)
  have HN := Lib.hid (fun W => (rnumber_any (vT x) (widT k) W (widT_le k) (vT_lt x)).mono fun _ _ => el_app (by rw [be_length]; exact widT_pos h1 h4))
  have HW := Lib.hid (fun W => rwidth_any k W)
  by_cases hx : x = []
  · subst hx
    rw [vT_nil] at HN ⊢
    go_enter Tryz.func18, Tryz.ntmps18
    go_wp2_with fail
    refine (HW.out _).mono ?_
    rintro e w' ⟨rfl, rfl⟩
    go_wp2_with fail
    refine (HN.out _).mono ?_
    rintro e w3 ⟨v, rfl, h⟩
    have HR := Lib.hid h
    clear h
    go_wp2_with fail
    go_ret
    exact ⟨_, rfl, HR.out⟩
  · obtain ⟨q, hq, hd, hl, hh⟩ := fit_int hf h1 h4 hx
    have hp := pow_le64 k
    have HI := Lib.hid (fun W => int64_any x q W (Lib.hid hq) (Lib.hid hd) (Lib.hid ⟨by omega, by omega⟩))
    have hne : x.isEmpty = false := by
      cases x with
      | nil => exact absurd rfl hx
      | cons => rfl
    clear hq hd hl hh hp hf
    go_enter Tryz.func18, Tryz.ntmps18
    go_wp2_with fail
    refine (HI.out _).mono ?_
    rintro e w' ⟨rfl, rfl⟩
    go_wp2_with fail
    refine (HW.out _).mono ?_
    rintro e w' ⟨rfl, rfl⟩
    go_wp2_with fail
    refine (HN.out _).mono ?_
    rintro e w3 ⟨v, rfl, h⟩
    have HR := Lib.hid h
    clear h
    go_wp2_with fail
    go_ret
    exact ⟨_, rfl, HR.out⟩
theorem elem_any (k : Int) (x : List UInt8) (w : World) (hf : fitT k x = true) (h1 : 1 ≤ k) (h5 : k ≤ 5) : Calls Tryz.prog 18 #[.int .i64 k, .string ⟨x.toArray⟩] w (ElPost w (elemL k x)) := by
  by_cases h : k = 5
  · subst h; exact elem_num x w (fit_len hf)
  · exact elem_int k x w hf h1 (by omega)
end Go.Proofs.YtaedmojkoioifaaGreatDoor
