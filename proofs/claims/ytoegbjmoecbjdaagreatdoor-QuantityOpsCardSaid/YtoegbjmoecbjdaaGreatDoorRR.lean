/- The document's Text and Put: what they return. -/
import Derived.Test.YtoegbjmoecbjdaaGreatDoorRQ
set_option maxHeartbeats 3200000
set_option maxRecDepth 100000
namespace Go.Proofs.YtoegbjmoecbjdaaGreatDoor
open Go.RowKit Big
open Go.Lib
theorem bytes_eq {a b : ByteArray} (h : a.data.toList = b.data.toList) : a = b := by
  cases a; cases b; congr 1; exact Array.toList_inj.1 h
theorem dec_one_iff9 (d : Nat) : (decDigits d == [49]) = decide (d = 1) := by
  by_cases h : d = 1
  · subst h; rw [decDigits_one (by omega)]; rfl
  · rw [decide_eq_false h, beq_eq_false_iff_ne]
    intro e
    have h1 := (dec_all d).2
    rw [e] at h1
    exact h (by rw [← h1]; rfl)
def TextPost9 (q : Rat) (w : World) (e : Ending) (w' : World) : Prop := e = .returned (.tuple #[.string ⟨(txt q).toArray⟩, .bool (!(txt q).isEmpty)]) ∧ Below w.heap.size w w'
theorem txt_yes {q : Rat} (h1 : nDigits q.num.natAbs ≤ 40) (h2 : nDigits q.den ≤ 40) : txt q = wrote (decide (q.num < 0)) q.num.natAbs q.den ∧ (!(txt q).isEmpty) = true := by
  have e := txt_eq q
  rw [if_pos ⟨h1, h2⟩] at e
  refine ⟨e, ?_⟩
  rw [e]
  have := wrote_ne (decide (q.num < 0)) q.num.natAbs q.den
  cases h : wrote (decide (q.num < 0)) q.num.natAbs q.den with
  | nil => exact absurd h this
  | cons x l => rfl
theorem txt_no {q : Rat} (h : ¬ (nDigits q.num.natAbs ≤ 40 ∧ nDigits q.den ≤ 40)) : txt q = [] := by
  rw [txt_eq, if_neg h]
theorem text_q (x : Value) (q : Rat) (K : Nat) (w : World) (hK : K ≤ 900000) (hq : QLt K q) (hx : QAt w x q) : Calls Tryz.prog 66 #[x] w (TextPost9 q w) := by
  have hden0 := fun W (hW : Below w.heap.size w W) => den_any x q W (hx.below hW)
  obtain ⟨u1, v1, rfl, hu, hv⟩ := hx
  obtain ⟨sn, hsn⟩ : ∃ sn : ByteArray, sn = ⟨(decDigits q.num.natAbs).toArray⟩ := ⟨_, rfl⟩
  obtain ⟨sd, hsd⟩ : ∃ sd : ByteArray, sd = ⟨(decDigits q.den).toArray⟩ := ⟨_, rfl⟩
  have hX : Hid (∀ W, Below w.heap.size w W → Calls Tryz.prog 120 #[u1] W fun e w' => e = .returned (.string sn) ∧ Below W.heap.size W w') := hiD fun W hW => by
    rw [hsn]; exact natText_any u1 _ K W hK hq.1 (hu.below hW)
  have hD : Hid (∀ W v, Nat9 W v q.den → Calls Tryz.prog 120 #[v] W fun e w' => e = .returned (.string sd) ∧ Below W.heap.size W w') := hiD fun W v h => by
    rw [hsd]; exact natText_any v _ K W hK hq.2 h
  obtain ⟨s, hs⟩ : ∃ s, s = decide (q.num < 0) := ⟨_, rfl⟩
  rw [← hs] at hden0 ⊢
  have hden := hiD hden0
  have z1 : sn.size = nDigits q.num.natAbs := by rw [hsn, size_toArray, decDigits_length]
  have z2 : sd.size = nDigits q.den := by rw [hsd, size_toArray, decDigits_length]
  have t1 : sn.data.toList = decDigits q.num.natAbs := by rw [hsn]
  have t2 : sd.data.toList = decDigits q.den := by rw [hsd]
  unfold TextPost9
  by_cases h1 : nDigits q.num.natAbs ≤ 40
  · by_cases h2 : nDigits q.den ≤ 40
    · obtain ⟨e1, e2⟩ := txt_yes h1 h2
      rw [e2]
      have h3 : (sd.toList == [49]) = decide (q.den = 1) := by
        have e : sd.toList = decDigits q.den := by rw [Lib.toList_data]; exact t2
        rw [e]; exact dec_one_iff9 _
      have fin : ∀ y : ByteArray, y.data.toList = txt q → (Calls Tryz.prog 66 #[.agg #[.bool s, u1, v1]] w fun e w' => e = .returned (.tuple #[.string y, .bool true]) ∧ Below w.heap.size w w') → Calls Tryz.prog 66 #[.agg #[.bool s, u1, v1]] w fun e w' => e = .returned (.tuple #[.string ⟨(txt q).toArray⟩, .bool true]) ∧ Below w.heap.size w w' := by
        intro y hy h
        have : y = ⟨(txt q).toArray⟩ := bytes_eq (by rw [hy])
        rw [this] at h; exact h
      rw [e1] at fin ⊢
      rw [← hs] at fin ⊢
      unfold wrote at fin ⊢
      by_cases hd : q.den = 1
      · rw [hd, decide_eq_true rfl] at h3
        rw [if_pos hd] at fin ⊢
        cases s with
        | true => exact fin _ (by simp [t1]) (text_true_true u1 v1 true q sn sd ⟨#[]⟩ w true hX hden hD (by omega) (by omega) h3 rfl)
        | false => exact fin _ (by simp [t1]) (text_false_true u1 v1 false q sn sd ⟨#[]⟩ w true hX hden hD (by omega) (by omega) h3 rfl)
      · rw [decide_eq_false hd] at h3
        rw [if_neg hd] at fin ⊢
        cases s with
        | true => exact fin _ (by simp [t1, t2]) (text_true_false u1 v1 true q sn sd ⟨#[]⟩ w true hX hden hD (by omega) (by omega) h3 rfl)
        | false => exact fin _ (by simp [t1, t2]) (text_false_false u1 v1 false q sn sd ⟨#[]⟩ w true hX hden hD (by omega) (by omega) h3 rfl)
    · rw [txt_no (fun h => h2 h.2)]
      exact text_long2 u1 v1 s q sn sd ⟨#[]⟩ w true hX hden hD (by omega) (by omega)
  · rw [txt_no (fun h => h1 h.1)]
    exact text_long1 u1 v1 s q sn sd ⟨#[]⟩ w true hX hden hD (by omega)
theorem put_any (x : Value) (q : Rat) (K : Nat) (w : World) (hK : K ≤ 900000) (hq : QLt K q) (hx : QAt w x q) : Calls Tryz.prog 73 #[x] w fun e w' => e = .returned (.string ⟨(txt q).toArray⟩) ∧ Below w.heap.size w w' := by
  have htx := hiD (fun W (hW : Below w.heap.size w W) => text_q x q K W hK hq (hx.below hW))
  obtain ⟨p, n, c, p2, n2, c2, rfl, -, -⟩ := hx.slices
  obtain ⟨s, hs⟩ : ∃ s, Hid (s = decide (q.num < 0)) := ⟨_, hiD rfl⟩
  rw [← hs.out] at htx ⊢
  obtain ⟨y, hy⟩ : ∃ y : ByteArray, Hid (y = ⟨(txt q).toArray⟩) := ⟨_, hiD rfl⟩
  obtain ⟨f, hf⟩ : ∃ f, Hid (f = !(txt q).isEmpty) := ⟨_, hiD rfl⟩
  unfold TextPost9 at htx
  rw [← hy.out, ← hf.out] at htx
  rw [← hy.out]
  clear hx hq
  go_enter Tryz.func73, Tryz.ntmps73
  go_wp2_with fail
  refine (htx.out _ (below_alloc9 _ _)).mono ?_
  rintro e w1 ⟨rfl, hb1⟩
  have Hb1 := hiD ((below_alloc9 w _).trans (hb1.mono (below_alloc9 w _).size))
  clear hb1
  go_wp2_with fail
  go_ret
  exact ⟨rfl, Hb1.out⟩
end Go.Proofs.YtoegbjmoecbjdaaGreatDoor
