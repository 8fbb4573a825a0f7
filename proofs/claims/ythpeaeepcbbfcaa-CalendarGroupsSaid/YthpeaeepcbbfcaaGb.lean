/- The document's Groups: the walk. The document's Groups, cyclic: the walk. The document's Groups where a number is no day. -/
import Derived.Test.YthpeaeepcbbfcaaGa
namespace Go.Proofs.Ythpeaeepcbbfcaa
open Go.RowKit

theorem lo_of {L : List Int} {t : Nat} {k : Int} (h : ∀ j, j < t → L.getD j 0 < k) : ∀ x ∈ L.take t, x < k := by
  intro x hx
  obtain ⟨j, hj⟩ := List.getElem?_of_mem hx
  rw [List.getElem?_take] at hj
  split at hj
  · have := h j (by assumption)
    rw [List.getD_eq_getElem?_getD, hj] at this
    exact this
  · cases hj
theorem hi_of {L : List Int} {t : Nat} {k : Int} (hs : L.Pairwise (· < ·)) (h : t = L.length ∨ (t < L.length ∧ k < L.getD t 0)) : ∀ x ∈ L.drop t, k < x := by
  intro x hx
  rcases h with h | ⟨h, hk⟩
  · subst h; simp at hx
  · obtain ⟨j, hj⟩ := List.getElem?_of_mem hx
    rw [List.getElem?_drop] at hj
    rw [List.getD_eq_getElem?_getD, List.getElem?_eq_getElem h] at hk
    simp only [Option.getD_some] at hk
    by_cases e : j = 0
    · subst e
      rw [Nat.add_zero, List.getElem?_eq_getElem h] at hj
      injection hj with hj
      omega
    · obtain ⟨hj1, hj2⟩ := List.getElem?_eq_some_iff.1 hj
      rw [List.pairwise_iff_getElem] at hs
      have := hs t (t + j) h hj1 (by omega)
      omega
theorem not_of {L : List Int} {t : Nat} {k : Int} (h1 : ∀ x ∈ L.take t, x < k) (h2 : ∀ x ∈ L.drop t, k < x) : k ∉ L := by
  intro h
  rw [← List.take_append_drop t L] at h
  rcases List.mem_append.1 h with h | h
  · have := h1 k h; omega
  · have := h2 k h; omega
theorem owns_pos {W : World} {v : Value} {k base e : Nat} {xs : List Value} (h : W.ownsRow base e 1 v k xs) (hk : 0 < k) : ∃ g cap, v = .slice (some ⟨g, 0, none⟩) k cap ∧ k ≤ cap := by
  cases k with
  | zero => omega
  | succ k => exact owns_some h
theorem owns_any {W : World} {v : Value} {k base e : Nat} {xs : List Value} (h : W.ownsRow base e 1 v k xs) : ∃ q c, v = .slice q k c := by
  rcases h.2 with ⟨rfl, rfl⟩ | ⟨g, cap, cur, rfl, r⟩
  · exact ⟨none, 0, rfl⟩
  · exact ⟨_, _, rfl⟩
theorem new_facts {f : Nat → Int} {m nk t : Nat} {L : List Int} {k : Int} (hfm : f m = k) (hD : Gd f m L) (hlen : L.length = nk) (hlo : ∀ j, j < t → L.getD j 0 < k) (hhi : t = nk ∨ (t < nk ∧ k < L.getD t 0)) : idx f m k = [] ∧ Gd f (m + 1) (L.take t ++ k :: L.drop t) := by
  subst hfm hlen
  have h1 := lo_of hlo
  have h2 := hi_of hD.sorted hhi
  exact ⟨hD.fresh (not_of h1 h2), hD.new h1 h2⟩
theorem same_facts {f : Nat → Int} {m nk t : Nat} {L : List Int} {k : Int} (hfm : f m = k) (hD : Gd f m L) (hlen : L.length = nk) (ht : t < nk) (hd : L.getD t 0 = k) : L[t]? = some k ∧ Gd f (m + 1) L := by
  subst hfm hlen
  have e : L[t]? = some (f m) := by
    rw [List.getD_eq_getElem?_getD, List.getElem?_eq_getElem ht] at hd
    rw [List.getElem?_eq_getElem ht]
    exact congrArg some hd
  exact ⟨e, hD.same (List.mem_of_getElem? e)⟩
theorem Gr.put' {f : Nat → Int} {m n : Nat} {v1 : Value} {L : List Int} {vs : List Value} {w0 W W' : World} {v v' : Value} {t g2 cap : Nat} {k : Int} (hfm : f m = k) (h : Gr f m v1 (.slice (some ⟨g2, 0, none⟩) n cap) n L vs w0 W) (hs : L.Pairwise (· < ·)) (ht : L[t]? = some k) (hv : vs[t]? = some v)
    (h1 : W'.ownsRow w0.heap.size 3 1 v' ((idx f m k).length + 1) ((idx f m k).map (Value.int .i64) ++ [.int .i64 (m : Int)])) (hg : W.grownBy W' v.ownBlock) (hw : v'.ownBlock = v.ownBlock ∨ v'.ownBlock = some W.heap.size) :
    Gr f (m + 1) v1 (.slice (some ⟨g2, 0, none⟩) n cap) n L (vs.set t v') w0 (W'.setCell ⟨g2, t, none⟩ v') := by
  subst hfm
  exact h.put hs ht hv h1 hg hw
theorem Gr.place {f : Nat → Int} {m n t g2 cap : Nat} {v1 v : Value} {L : List Int} {vs : List Value} {w0 W W' : World} (h : Gr f m v1 (.slice (some ⟨g2, 0, none⟩) n cap) n L vs w0 W) (hv : vs[t]? = some v) (hg : W.grownBy W' v.ownBlock) : W'.cell? ⟨g2, t, none⟩ = some v ∧ W'.frozen? ⟨g2, t, none⟩ = false := by
  obtain ⟨hl1, hl2⟩ := h.lens
  obtain ⟨hi, -⟩ := List.getElem?_eq_some_iff.1 hv
  have hrow := h.rows t v (L[t]'(by omega)) hv (List.getElem?_eq_getElem (by omega))
  have o2 := kept_other' h.o2.o2 hg (fun g a b => by
    obtain ⟨c1, e1⟩ := owns_type hrow a
    obtain ⟨c2, e2⟩ := owns_type h.o2.o2 b
    rw [e1] at e2
    simp at e2)
  exact ⟨(o2.cellAt t (by omega)).trans hv, o2.frozenAt t⟩
theorem Gr.cell {f : Nat → Int} {m n t g2 cap : Nat} {v1 v : Value} {L : List Int} {vs : List Value} {w0 W : World} (h : Gr f m v1 (.slice (some ⟨g2, 0, none⟩) n cap) n L vs w0 W) (hv : vs[t]? = some v) : W.cell? ⟨g2, t, none⟩ = some v := by
  obtain ⟨hl1, hl2⟩ := h.lens
  obtain ⟨hi, -⟩ := List.getElem?_eq_some_iff.1 hv
  exact (h.o2.o2.cellAt t (by omega)).trans hv

set_option maxRecDepth 100000 in
set_option maxHeartbeats 3200000 in
theorem rgroups_key (cal fld : Int) (f : Nat → Int) (p : Option Addr) (n c : Nat) (l : List Int) (w : World) (ha : isCal cal) (hn : n ≤ 1000) (hnc : n ≤ c) (hf0 : 1 ≤ fld) (hf : fld ≤ 4) (hl : Rd w p n l)
    (hk : Hid (∀ i, i < n → ∀ W, Calls Try.prog 42 #[.int .i64 cal, .int .i64 (l.getD i 0), .int .i64 fld] W fun z w' => z = .returned (.tuple #[.int .i64 (f i), .int .i64 0]) ∧ Below W.heap.size W w')) :
    Calls Try.prog 44 #[.int .i64 cal, .slice p n c, .int .i64 fld, .bool false] w fun z w' => ∃ L, Gd f n L ∧ GrPost L.length L (L.map (idx f n)) 0 w z w' := by
  obtain ⟨nm, hnm, hn'⟩ := rname_any cal ha
  obtain ⟨e1, e2⟩ := hnm
  have h1 := Lib.hid hn'
  clear hn' ha
  have HB := Lib.hid (Below.refl w.heap.size w)
  have HL := Lib.hid hl
  clear hl
  go_enter Try.func44, Try.ntmps44
  go_wp2_with fail
  refine (h1.out _).mono ?_
  rintro e w2 ⟨rfl, hb⟩
  have HB := Lib.hid (bel_next HB.out hb)
  clear hb
  go_wp2_with fail
  go_loopw [11, 12, 13] (fun v1 v2 i wr => ∃ (m nk : Nat) (L : List Int) (vs : List Value), m ≤ n ∧ i = .int .i64 m ∧ Hid (Gr f m v1 v2 nk L vs w wr) ∧ Hid (Gd f m L) ∧ Hid (nk = 0 → v1 = .slice none 0 0 ∧ v2 = .slice none 0 0) ∧ nk ≤ m) (fun _ _ i _ => n - (intOf i).toNat)
  case atStart => exact ⟨0, 0, [], [], Nat.zero_le _, rfl, Lib.hid (Gr.start HB.out), Lib.hid (Gd.zero f), Lib.hid (fun _ => ⟨rfl, rfl⟩), Nat.le_refl _⟩
  case round =>
    obtain ⟨m, nk, L, vs, hm, rfl, hG, hD, hnil, hnk⟩ := hrel
    by_cases hlt : m < n
    · obtain ⟨bb, off, v, rfl, hbl, hcell, hv⟩ := (HL.out.below hG.out.o2.below).at hlt
      have hkm := Lib.hid (hk.out m hlt)
      rw [hv.out] at hkm
      clear hbl
      generalize hfm : f m = kv at hkm
      go_wp2_with fail
      refine (hkm.out _).mono ?_
      rintro e w5 ⟨rfl, hb⟩
      have hG5 := Lib.hid (hG.out.next hb)
      clear hb hcell
      obtain ⟨q1, c1, rfl, hc1, hr1⟩ := owns_form hG5.out.o2.o1
      have HR1 := Lib.hid hr1
      clear hr1
      go_wp2_with fail
      go_loopw [16] (fun i wr' => ∃ t : Nat, t ≤ nk ∧ i = .int .i64 t ∧ wr' = w5 ∧ Hid (∀ j, j < t → L.getD j 0 < kv)) (fun i _ => nk - (intOf i).toNat)
      case atStart => exact ⟨0, Nat.zero_le _, rfl, rfl, Lib.hid (fun j hj => absurd hj (Nat.not_lt_zero j))⟩
      case round =>
        obtain ⟨t, ht, rfl, rfl, hlo⟩ := hrel
        by_cases htl : t < nk
        · obtain ⟨b1, o1, d, rfl, hb1, hcell, hd⟩ := HR1.out.at htl
          clear hb1
          by_cases hdk : d < kv
          · have hlo' := Lib.hid (show ∀ j, j < t + 1 → L.getD j 0 < kv from fun j hj => by
              by_cases e : j = t
              · subst e; rw [hd.out]; exact hdk
              · exact hlo.out j (by omega))
            go_wp2_with fail
            go_roundw
            case rel => exact ⟨t + 1, by omega, by go_num, trivial, hlo'⟩
            case measure => simp [intOf]; omega
          · by_cases hde : d = kv
            · subst hde
              have hvL := hG5.out.lens
              have htv := List.getElem?_eq_getElem (l := vs) (i := t) (by omega)
              obtain ⟨ht0, hD1⟩ := same_facts hfm hD.out hvL.1 htl hd.out
              have hDn := Lib.hid hD1
              obtain ⟨g2, cap2, rfl, hcap2⟩ := owns_pos hG5.out.o2.o2 (by omega)
              clear hD1
              generalize vs[t] = vt at htv
              have hc7 := hG5.out.cell htv
              have hGa := Lib.hid (hG5.out.next (below_alloc wr (.cells #[.int .i64 (m : Int)] 3)))
              have hcn := (Bk.new wr #[.int .i64 (m : Int)] 3).cell 0
              have hrw := Lib.hid (hGa.out.rows t _ d htv ht0)
              have hil := idx_len f d m
              go_wp2_with (at_builtin; refine wpList_append_at _ (o := ⟨some 98, _, _, _, _, _⟩) rfl (.tmp 95) (.tmp 97) rfl w.heap.size _ _ _ rfl hrw.out ⟨wr.heap.size, 0, none⟩ 1 rfl (m : Int) hcn (by omega) hGa.out.o2.below.size ?_)
              intro v7 w7 g1 g2' g3
              obtain ⟨q7, c7, rfl, hq7⟩ := owns_pos g1 (by omega)
              obtain ⟨hp1, hp2⟩ := hGa.out.place htv g2'
              have hGn := Lib.hid (hGa.out.put' hfm hDn.out.sorted ht0 htv (by first | exact g1 | (rw [hi0]; exact g1)) g2' (by simpa using g3))
              clear g1 g2' g3 hcn hc7
              go_wp2_with fail
              go_roundw
              case rel => exact ⟨m + 1, _, _, _, by omega, by go_num, hGn, hDn, Lib.hid (fun h0 => absurd h0 (by omega)), by omega⟩
              case measure => simp [intOf]; omega
            · have hbe : (d == kv) = false := by simpa using hde
              have hbn : (d != kv) = true := by simpa using hde
              have hvL := hG5.out.lens
              obtain ⟨hi0, hD1⟩ := new_facts hfm hD.out hvL.1 hlo.out (.inr ⟨htl, by rw [hd.out]; omega⟩)
              have hDn := Lib.hid hD1
              clear hD1
              have hop := Lib.hid (opened_gr kv hG5.out hnil.out (by omega) ht hi0)
              go_wp2_with fail
              refine (hop.out).mono ?_
              rintro e w6 ⟨qa, ca, qb, cb, rfl, hca, hcb, hb6, hg6⟩
              have hG6 := Lib.hid hg6
              clear hg6 hb6 hop
              have ht0 : (L.take t ++ kv :: L.drop t)[t]? = some kv := by rw [ins_get _ _ _ (by omega), if_neg (Nat.lt_irrefl t), if_pos rfl]
              have htv : (vs.take t ++ Value.slice none 0 0 :: vs.drop t)[t]? = some (.slice none 0 0) := by rw [ins_get _ _ _ (by omega), if_neg (Nat.lt_irrefl t), if_pos rfl]
              have hc7 := hG6.out.cell htv
              have hGa := Lib.hid (hG6.out.next (below_alloc w6 (.cells #[.int .i64 (m : Int)] 3)))
              have hcn := (Bk.new w6 #[.int .i64 (m : Int)] 3).cell 0
              have hrw := Lib.hid (hGa.out.rows t _ kv htv ht0)
              have hil := idx_len f kv m
              go_wp2_with (at_builtin; refine wpList_append_at _ (o := ⟨some 98, _, _, _, _, _⟩) rfl (.tmp 95) (.tmp 97) rfl w.heap.size _ _ _ rfl hrw.out ⟨w6.heap.size, 0, none⟩ 1 rfl (m : Int) hcn (by omega) hGa.out.o2.below.size ?_)
              intro v7 w7 g1 g2' g3
              obtain ⟨q7, c7, rfl, hq7⟩ := owns_pos g1 (by omega)
              obtain ⟨hp1, hp2⟩ := hGa.out.place htv g2'
              have hGn := Lib.hid (hGa.out.put' hfm hDn.out.sorted ht0 htv (by first | exact g1 | (rw [hi0]; exact g1)) g2' (by simpa using g3))
              clear g1 g2' g3 hcn hc7
              go_wp2_with fail
              go_roundw
              case rel => exact ⟨m + 1, _, _, _, by omega, by go_num, hGn, hDn, Lib.hid (fun h0 => absurd h0 (by omega)), by omega⟩
              case measure => simp [intOf]; omega
        · obtain rfl : t = nk := by omega
          have hvL := hG5.out.lens
          obtain ⟨hi0, hD1⟩ := new_facts hfm hD.out hvL.1 hlo.out (.inl rfl)
          have hDn := Lib.hid hD1
          clear hD1
          have hop := Lib.hid (opened_gr kv hG5.out hnil.out (by omega) ht hi0)
          go_wp2_with fail
          refine (hop.out).mono ?_
          rintro e w6 ⟨qa, ca, qb, cb, rfl, hca, hcb, hb6, hg6⟩
          have hG6 := Lib.hid hg6
          clear hg6 hb6 hop
          have ht0 : (L.take t ++ kv :: L.drop t)[t]? = some kv := by rw [ins_get _ _ _ (by omega), if_neg (Nat.lt_irrefl t), if_pos rfl]
          have htv : (vs.take t ++ Value.slice none 0 0 :: vs.drop t)[t]? = some (.slice none 0 0) := by rw [ins_get _ _ _ (by omega), if_neg (Nat.lt_irrefl t), if_pos rfl]
          have hc7 := hG6.out.cell htv
          have hGa := Lib.hid (hG6.out.next (below_alloc w6 (.cells #[.int .i64 (m : Int)] 3)))
          have hcn := (Bk.new w6 #[.int .i64 (m : Int)] 3).cell 0
          have hrw := Lib.hid (hGa.out.rows t _ kv htv ht0)
          have hil := idx_len f kv m
          go_wp2_with (at_builtin; refine wpList_append_at _ (o := ⟨some 98, _, _, _, _, _⟩) rfl (.tmp 95) (.tmp 97) rfl w.heap.size _ _ _ rfl hrw.out ⟨w6.heap.size, 0, none⟩ 1 rfl (m : Int) hcn (by omega) hGa.out.o2.below.size ?_)
          intro v7 w7 g1 g2' g3
          obtain ⟨q7, c7, rfl, hq7⟩ := owns_pos g1 (by omega)
          obtain ⟨hp1, hp2⟩ := hGa.out.place htv g2'
          have hGn := Lib.hid (hGa.out.put' hfm hDn.out.sorted ht0 htv (by first | exact g1 | (rw [hi0]; exact g1)) g2' (by simpa using g3))
          clear g1 g2' g3 hcn hc7
          go_wp2_with fail
          go_roundw
          case rel => exact ⟨m + 1, _, _, _, by omega, by go_num, hGn, hDn, Lib.hid (fun h0 => absurd h0 (by omega)), by omega⟩
          case measure => simp [intOf]; omega
    · obtain rfl : m = n := by omega
      obtain rfl : nk = L.length := hG.out.lens.1.symm
      obtain ⟨qk, ck, rfl, hck, hrk⟩ := owns_form hG.out.o2.o1
      obtain ⟨qv, cv, rfl⟩ := owns_any hG.out.o2.o2
      obtain ⟨hcv, hrv⟩ := hG.out.reads (fun x => Nat.le_trans (idx_len f x _) (by omega))
      go_wp2_with fail
      go_ret3
      exact ⟨L, hD.out, qk, qv, ck, cv, rfl, hck, hcv, hrk, hrv, hG.out.o2.below⟩
end Go.Proofs.Ythpeaeepcbbfcaa
namespace Go.Proofs.Ythpeaeepcbbfcaa
open Go.RowKit

set_option maxRecDepth 100000 in
set_option maxHeartbeats 3200000 in
theorem rgroups_field (cal fld : Int) (f : Nat → Int) (p : Option Addr) (n c : Nat) (l : List Int) (w : World) (ha : isCal cal) (hn : n ≤ 1000) (hnc : n ≤ c) (hf0 : 1 ≤ fld) (hf : fld ≤ 4) (hl : Rd w p n l)
    (hk : Hid (∀ i, i < n → ∃ kz : Int, ∀ W, Calls Try.prog 42 #[.int .i64 cal, .int .i64 (l.getD i 0), .int .i64 fld] W fun z w' => z = .returned (.tuple #[.int .i64 kz, .int .i64 0]) ∧ Below W.heap.size W w'))
    (hq : Hid (∀ i, i < n → ∀ W, Calls Try.prog 40 #[.int .i64 cal, .int .i64 (l.getD i 0), .int .i64 fld] W fun z w' => z = .returned (.tuple #[.int .i64 (f i), .int .i64 0]) ∧ Below W.heap.size W w')) :
    Calls Try.prog 44 #[.int .i64 cal, .slice p n c, .int .i64 fld, .bool true] w fun z w' => ∃ L, Gd f n L ∧ GrPost L.length L (L.map (idx f n)) 0 w z w' := by
  obtain ⟨nm, hnm, hn'⟩ := rname_any cal ha
  obtain ⟨e1, e2⟩ := hnm
  have h1 := Lib.hid hn'
  clear hn' ha
  have HB := Lib.hid (Below.refl w.heap.size w)
  have HL := Lib.hid hl
  clear hl
  go_enter Try.func44, Try.ntmps44
  go_wp2_with fail
  refine (h1.out _).mono ?_
  rintro e w2 ⟨rfl, hb⟩
  have HB := Lib.hid (bel_next HB.out hb)
  clear hb
  go_wp2_with fail
  go_loopw [11, 12, 13] (fun v1 v2 i wr => ∃ (m nk : Nat) (L : List Int) (vs : List Value), m ≤ n ∧ i = .int .i64 m ∧ Hid (Gr f m v1 v2 nk L vs w wr) ∧ Hid (Gd f m L) ∧ Hid (nk = 0 → v1 = .slice none 0 0 ∧ v2 = .slice none 0 0) ∧ nk ≤ m) (fun _ _ i _ => n - (intOf i).toNat)
  case atStart => exact ⟨0, 0, [], [], Nat.zero_le _, rfl, Lib.hid (Gr.start HB.out), Lib.hid (Gd.zero f), Lib.hid (fun _ => ⟨rfl, rfl⟩), Nat.le_refl _⟩
  case round =>
    obtain ⟨m, nk, L, vs, hm, rfl, hG, hD, hnil, hnk⟩ := hrel
    by_cases hlt : m < n
    · obtain ⟨bb, off, v, rfl, hbl, hcell, hv⟩ := (HL.out.below hG.out.o2.below).at hlt
      obtain ⟨kz, hkz⟩ := hk.out m hlt
      have hkm := Lib.hid hkz
      have hfl := Lib.hid (hq.out m hlt)
      rw [hv.out] at hkm hfl
      clear hkz
      generalize hfm : f m = kv at hfl
      go_wp2_with fail
      refine (hkm.out _).mono ?_
      rintro e w4 ⟨rfl, hb⟩
      have hG4 := Lib.hid (hG.out.next hb)
      have hcell4 := (hb.cell (p := ⟨bb, off + m, none⟩) hbl).trans hcell
      clear hb hcell hbl
      go_wp2_with fail
      refine (hfl.out _).mono ?_
      rintro e w5 ⟨rfl, hb⟩
      have hG5 := Lib.hid (hG4.out.next hb)
      clear hb hcell4
      obtain ⟨q1, c1, rfl, hc1, hr1⟩ := owns_form hG5.out.o2.o1
      have HR1 := Lib.hid hr1
      clear hr1
      go_wp2_with fail
      go_loopw [16] (fun i wr' => ∃ t : Nat, t ≤ nk ∧ i = .int .i64 t ∧ wr' = w5 ∧ Hid (∀ j, j < t → L.getD j 0 < kv)) (fun i _ => nk - (intOf i).toNat)
      case atStart => exact ⟨0, Nat.zero_le _, rfl, rfl, Lib.hid (fun j hj => absurd hj (Nat.not_lt_zero j))⟩
      case round =>
        obtain ⟨t, ht, rfl, rfl, hlo⟩ := hrel
        by_cases htl : t < nk
        · obtain ⟨b1, o1, d, rfl, hb1, hcell, hd⟩ := HR1.out.at htl
          clear hb1
          by_cases hdk : d < kv
          · have hlo' := Lib.hid (show ∀ j, j < t + 1 → L.getD j 0 < kv from fun j hj => by
              by_cases e : j = t
              · subst e; rw [hd.out]; exact hdk
              · exact hlo.out j (by omega))
            go_wp2_with fail
            go_roundw
            case rel => exact ⟨t + 1, by omega, by go_num, trivial, hlo'⟩
            case measure => simp [intOf]; omega
          · by_cases hde : d = kv
            · subst hde
              have hvL := hG5.out.lens
              have htv := List.getElem?_eq_getElem (l := vs) (i := t) (by omega)
              obtain ⟨ht0, hD1⟩ := same_facts hfm hD.out hvL.1 htl hd.out
              have hDn := Lib.hid hD1
              obtain ⟨g2, cap2, rfl, hcap2⟩ := owns_pos hG5.out.o2.o2 (by omega)
              clear hD1
              generalize vs[t] = vt at htv
              have hc7 := hG5.out.cell htv
              have hGa := Lib.hid (hG5.out.next (below_alloc wr (.cells #[.int .i64 (m : Int)] 3)))
              have hcn := (Bk.new wr #[.int .i64 (m : Int)] 3).cell 0
              have hrw := Lib.hid (hGa.out.rows t _ d htv ht0)
              have hil := idx_len f d m
              go_wp2_with (at_builtin; refine wpList_append_at _ (o := ⟨some 98, _, _, _, _, _⟩) rfl (.tmp 95) (.tmp 97) rfl w.heap.size _ _ _ rfl hrw.out ⟨wr.heap.size, 0, none⟩ 1 rfl (m : Int) hcn (by omega) hGa.out.o2.below.size ?_)
              intro v7 w7 g1 g2' g3
              obtain ⟨q7, c7, rfl, hq7⟩ := owns_pos g1 (by omega)
              obtain ⟨hp1, hp2⟩ := hGa.out.place htv g2'
              have hGn := Lib.hid (hGa.out.put' hfm hDn.out.sorted ht0 htv (by first | exact g1 | (rw [hi0]; exact g1)) g2' (by simpa using g3))
              clear g1 g2' g3 hcn hc7
              go_wp2_with fail
              go_roundw
              case rel => exact ⟨m + 1, _, _, _, by omega, by go_num, hGn, hDn, Lib.hid (fun h0 => absurd h0 (by omega)), by omega⟩
              case measure => simp [intOf]; omega
            · have hbe : (d == kv) = false := by simpa using hde
              have hbn : (d != kv) = true := by simpa using hde
              have hvL := hG5.out.lens
              obtain ⟨hi0, hD1⟩ := new_facts hfm hD.out hvL.1 hlo.out (.inr ⟨htl, by rw [hd.out]; omega⟩)
              have hDn := Lib.hid hD1
              clear hD1
              have hop := Lib.hid (opened_gr kv hG5.out hnil.out (by omega) ht hi0)
              go_wp2_with fail
              refine (hop.out).mono ?_
              rintro e w6 ⟨qa, ca, qb, cb, rfl, hca, hcb, hb6, hg6⟩
              have hG6 := Lib.hid hg6
              clear hg6 hb6 hop
              have ht0 : (L.take t ++ kv :: L.drop t)[t]? = some kv := by rw [ins_get _ _ _ (by omega), if_neg (Nat.lt_irrefl t), if_pos rfl]
              have htv : (vs.take t ++ Value.slice none 0 0 :: vs.drop t)[t]? = some (.slice none 0 0) := by rw [ins_get _ _ _ (by omega), if_neg (Nat.lt_irrefl t), if_pos rfl]
              have hc7 := hG6.out.cell htv
              have hGa := Lib.hid (hG6.out.next (below_alloc w6 (.cells #[.int .i64 (m : Int)] 3)))
              have hcn := (Bk.new w6 #[.int .i64 (m : Int)] 3).cell 0
              have hrw := Lib.hid (hGa.out.rows t _ kv htv ht0)
              have hil := idx_len f kv m
              go_wp2_with (at_builtin; refine wpList_append_at _ (o := ⟨some 98, _, _, _, _, _⟩) rfl (.tmp 95) (.tmp 97) rfl w.heap.size _ _ _ rfl hrw.out ⟨w6.heap.size, 0, none⟩ 1 rfl (m : Int) hcn (by omega) hGa.out.o2.below.size ?_)
              intro v7 w7 g1 g2' g3
              obtain ⟨q7, c7, rfl, hq7⟩ := owns_pos g1 (by omega)
              obtain ⟨hp1, hp2⟩ := hGa.out.place htv g2'
              have hGn := Lib.hid (hGa.out.put' hfm hDn.out.sorted ht0 htv (by first | exact g1 | (rw [hi0]; exact g1)) g2' (by simpa using g3))
              clear g1 g2' g3 hcn hc7
              go_wp2_with fail
              go_roundw
              case rel => exact ⟨m + 1, _, _, _, by omega, by go_num, hGn, hDn, Lib.hid (fun h0 => absurd h0 (by omega)), by omega⟩
              case measure => simp [intOf]; omega
        · obtain rfl : t = nk := by omega
          have hvL := hG5.out.lens
          obtain ⟨hi0, hD1⟩ := new_facts hfm hD.out hvL.1 hlo.out (.inl rfl)
          have hDn := Lib.hid hD1
          clear hD1
          have hop := Lib.hid (opened_gr kv hG5.out hnil.out (by omega) ht hi0)
          go_wp2_with fail
          refine (hop.out).mono ?_
          rintro e w6 ⟨qa, ca, qb, cb, rfl, hca, hcb, hb6, hg6⟩
          have hG6 := Lib.hid hg6
          clear hg6 hb6 hop
          have ht0 : (L.take t ++ kv :: L.drop t)[t]? = some kv := by rw [ins_get _ _ _ (by omega), if_neg (Nat.lt_irrefl t), if_pos rfl]
          have htv : (vs.take t ++ Value.slice none 0 0 :: vs.drop t)[t]? = some (.slice none 0 0) := by rw [ins_get _ _ _ (by omega), if_neg (Nat.lt_irrefl t), if_pos rfl]
          have hc7 := hG6.out.cell htv
          have hGa := Lib.hid (hG6.out.next (below_alloc w6 (.cells #[.int .i64 (m : Int)] 3)))
          have hcn := (Bk.new w6 #[.int .i64 (m : Int)] 3).cell 0
          have hrw := Lib.hid (hGa.out.rows t _ kv htv ht0)
          have hil := idx_len f kv m
          go_wp2_with (at_builtin; refine wpList_append_at _ (o := ⟨some 98, _, _, _, _, _⟩) rfl (.tmp 95) (.tmp 97) rfl w.heap.size _ _ _ rfl hrw.out ⟨w6.heap.size, 0, none⟩ 1 rfl (m : Int) hcn (by omega) hGa.out.o2.below.size ?_)
          intro v7 w7 g1 g2' g3
          obtain ⟨q7, c7, rfl, hq7⟩ := owns_pos g1 (by omega)
          obtain ⟨hp1, hp2⟩ := hGa.out.place htv g2'
          have hGn := Lib.hid (hGa.out.put' hfm hDn.out.sorted ht0 htv (by first | exact g1 | (rw [hi0]; exact g1)) g2' (by simpa using g3))
          clear g1 g2' g3 hcn hc7
          go_wp2_with fail
          go_roundw
          case rel => exact ⟨m + 1, _, _, _, by omega, by go_num, hGn, hDn, Lib.hid (fun h0 => absurd h0 (by omega)), by omega⟩
          case measure => simp [intOf]; omega
    · obtain rfl : m = n := by omega
      obtain rfl : nk = L.length := hG.out.lens.1.symm
      obtain ⟨qk, ck, rfl, hck, hrk⟩ := owns_form hG.out.o2.o1
      obtain ⟨qv, cv, rfl⟩ := owns_any hG.out.o2.o2
      obtain ⟨hcv, hrv⟩ := hG.out.reads (fun x => Nat.le_trans (idx_len f x _) (by omega))
      go_wp2_with fail
      go_ret3
      exact ⟨L, hD.out, qk, qv, ck, cv, rfl, hck, hcv, hrk, hrv, hG.out.o2.below⟩
end Go.Proofs.Ythpeaeepcbbfcaa
namespace Go.Proofs.Ythpeaeepcbbfcaa
open Go.RowKit

set_option maxRecDepth 100000 in
set_option maxHeartbeats 3200000 in
theorem rgroups_key_bad (cal fld : Int) (f : Nat → Int) (good : Nat → Prop) (p : Option Addr) (n c : Nat) (l : List Int) (w : World) (ha : isCal cal) (hn : n ≤ 1000) (hnc : n ≤ c) (hf0 : 1 ≤ fld) (hf : fld ≤ 4) (hl : Rd w p n l)
    (hd : Hid (∃ i, i < n ∧ ¬ good i)) (hbad : Hid (∀ i, i < n → ¬ good i → ∀ W, Calls Try.prog 42 #[.int .i64 cal, .int .i64 (l.getD i 0), .int .i64 fld] W fun z w' => z = .returned (.tuple #[.int .i64 0, .int .i64 21]) ∧ Below W.heap.size W w'))
    (hk : Hid (∀ i, i < n → good i → ∀ W, Calls Try.prog 42 #[.int .i64 cal, .int .i64 (l.getD i 0), .int .i64 fld] W fun z w' => z = .returned (.tuple #[.int .i64 (f i), .int .i64 0]) ∧ Below W.heap.size W w')) :
    Calls Try.prog 44 #[.int .i64 cal, .slice p n c, .int .i64 fld, .bool false] w fun z w' => z = .returned (.tuple #[.slice none 0 0, .slice none 0 0, .int .i64 21]) ∧ Below w.heap.size w w' := by
  obtain ⟨nm, hnm, hn'⟩ := rname_any cal ha
  obtain ⟨e1, e2⟩ := hnm
  have h1 := Lib.hid hn'
  clear hn' ha
  have HB := Lib.hid (Below.refl w.heap.size w)
  have HL := Lib.hid hl
  clear hl
  go_enter Try.func44, Try.ntmps44
  go_wp2_with fail
  refine (h1.out _).mono ?_
  rintro e w2 ⟨rfl, hb⟩
  have HB := Lib.hid (bel_next HB.out hb)
  clear hb
  go_wp2_with fail
  go_loopw [11, 12, 13] (fun v1 v2 i wr => ∃ (m nk : Nat) (L : List Int) (vs : List Value), m ≤ n ∧ i = .int .i64 m ∧ Hid (Gr f m v1 v2 nk L vs w wr) ∧ Hid (Gd f m L) ∧ Hid (nk = 0 → v1 = .slice none 0 0 ∧ v2 = .slice none 0 0) ∧ nk ≤ m ∧ Hid (∀ i, i < m → good i)) (fun _ _ i _ => n - (intOf i).toNat)
  case atStart => exact ⟨0, 0, [], [], Nat.zero_le _, rfl, Lib.hid (Gr.start HB.out), Lib.hid (Gd.zero f), Lib.hid (fun _ => ⟨rfl, rfl⟩), Nat.le_refl _, Lib.hid (fun i hi => absurd hi (Nat.not_lt_zero i))⟩
  case round =>
    obtain ⟨m, nk, L, vs, hm, rfl, hG, hD, hnil, hnk, hDy⟩ := hrel
    by_cases hlt : m < n
    · obtain ⟨bb, off, v, rfl, hbl, hcell, hv⟩ := (HL.out.below hG.out.o2.below).at hlt
      by_cases hgood : good m
      case neg =>
        have hkm := Lib.hid (hbad.out m hlt hgood)
        rw [hv.out] at hkm
        clear hbl hgood
        go_wp2_with fail
        refine (hkm.out _).mono ?_
        rintro e w5 ⟨rfl, hb⟩
        have HB5 := Lib.hid (bel_next hG.out.o2.below hb)
        clear hb hcell
        go_wp2_with fail
        go_ret3
        exact ⟨rfl, HB5.out⟩
      have hkm := Lib.hid (hk.out m hlt hgood)
      have hDe := Lib.hid (show ∀ i, i < m + 1 → good i from fun i hi => by
        by_cases hik : i = m
        · subst hik; exact hgood
        · exact hDy.out i (by omega))
      clear hgood
      rw [hv.out] at hkm
      clear hbl
      generalize hfm : f m = kv at hkm
      go_wp2_with fail
      refine (hkm.out _).mono ?_
      rintro e w5 ⟨rfl, hb⟩
      have hG5 := Lib.hid (hG.out.next hb)
      clear hb hcell
      obtain ⟨q1, c1, rfl, hc1, hr1⟩ := owns_form hG5.out.o2.o1
      have HR1 := Lib.hid hr1
      clear hr1
      go_wp2_with fail
      go_loopw [16] (fun i wr' => ∃ t : Nat, t ≤ nk ∧ i = .int .i64 t ∧ wr' = w5 ∧ Hid (∀ j, j < t → L.getD j 0 < kv)) (fun i _ => nk - (intOf i).toNat)
      case atStart => exact ⟨0, Nat.zero_le _, rfl, rfl, Lib.hid (fun j hj => absurd hj (Nat.not_lt_zero j))⟩
      case round =>
        obtain ⟨t, ht, rfl, rfl, hlo⟩ := hrel
        by_cases htl : t < nk
        · obtain ⟨b1, o1, d, rfl, hb1, hcell, hd⟩ := HR1.out.at htl
          clear hb1
          by_cases hdk : d < kv
          · have hlo' := Lib.hid (show ∀ j, j < t + 1 → L.getD j 0 < kv from fun j hj => by
              by_cases e : j = t
              · subst e; rw [hd.out]; exact hdk
              · exact hlo.out j (by omega))
            go_wp2_with fail
            go_roundw
            case rel => exact ⟨t + 1, by omega, by go_num, trivial, hlo'⟩
            case measure => simp [intOf]; omega
          · by_cases hde : d = kv
            · subst hde
              have hvL := hG5.out.lens
              have htv := List.getElem?_eq_getElem (l := vs) (i := t) (by omega)
              obtain ⟨ht0, hD1⟩ := same_facts hfm hD.out hvL.1 htl hd.out
              have hDn := Lib.hid hD1
              obtain ⟨g2, cap2, rfl, hcap2⟩ := owns_pos hG5.out.o2.o2 (by omega)
              clear hD1
              generalize vs[t] = vt at htv
              have hc7 := hG5.out.cell htv
              have hGa := Lib.hid (hG5.out.next (below_alloc wr (.cells #[.int .i64 (m : Int)] 3)))
              have hcn := (Bk.new wr #[.int .i64 (m : Int)] 3).cell 0
              have hrw := Lib.hid (hGa.out.rows t _ d htv ht0)
              have hil := idx_len f d m
              go_wp2_with (at_builtin; refine wpList_append_at _ (o := ⟨some 98, _, _, _, _, _⟩) rfl (.tmp 95) (.tmp 97) rfl w.heap.size _ _ _ rfl hrw.out ⟨wr.heap.size, 0, none⟩ 1 rfl (m : Int) hcn (by omega) hGa.out.o2.below.size ?_)
              intro v7 w7 g1 g2' g3
              obtain ⟨q7, c7, rfl, hq7⟩ := owns_pos g1 (by omega)
              obtain ⟨hp1, hp2⟩ := hGa.out.place htv g2'
              have hGn := Lib.hid (hGa.out.put' hfm hDn.out.sorted ht0 htv (by first | exact g1 | (rw [hi0]; exact g1)) g2' (by simpa using g3))
              clear g1 g2' g3 hcn hc7
              go_wp2_with fail
              go_roundw
              case rel => exact ⟨m + 1, _, _, _, by omega, by go_num, hGn, hDn, Lib.hid (fun h0 => absurd h0 (by omega)), by omega, hDe⟩
              case measure => simp [intOf]; omega
            · have hbe : (d == kv) = false := by simpa using hde
              have hbn : (d != kv) = true := by simpa using hde
              have hvL := hG5.out.lens
              obtain ⟨hi0, hD1⟩ := new_facts hfm hD.out hvL.1 hlo.out (.inr ⟨htl, by rw [hd.out]; omega⟩)
              have hDn := Lib.hid hD1
              clear hD1
              have hop := Lib.hid (opened_gr kv hG5.out hnil.out (by omega) ht hi0)
              go_wp2_with fail
              refine (hop.out).mono ?_
              rintro e w6 ⟨qa, ca, qb, cb, rfl, hca, hcb, hb6, hg6⟩
              have hG6 := Lib.hid hg6
              clear hg6 hb6 hop
              have ht0 : (L.take t ++ kv :: L.drop t)[t]? = some kv := by rw [ins_get _ _ _ (by omega), if_neg (Nat.lt_irrefl t), if_pos rfl]
              have htv : (vs.take t ++ Value.slice none 0 0 :: vs.drop t)[t]? = some (.slice none 0 0) := by rw [ins_get _ _ _ (by omega), if_neg (Nat.lt_irrefl t), if_pos rfl]
              have hc7 := hG6.out.cell htv
              have hGa := Lib.hid (hG6.out.next (below_alloc w6 (.cells #[.int .i64 (m : Int)] 3)))
              have hcn := (Bk.new w6 #[.int .i64 (m : Int)] 3).cell 0
              have hrw := Lib.hid (hGa.out.rows t _ kv htv ht0)
              have hil := idx_len f kv m
              go_wp2_with (at_builtin; refine wpList_append_at _ (o := ⟨some 98, _, _, _, _, _⟩) rfl (.tmp 95) (.tmp 97) rfl w.heap.size _ _ _ rfl hrw.out ⟨w6.heap.size, 0, none⟩ 1 rfl (m : Int) hcn (by omega) hGa.out.o2.below.size ?_)
              intro v7 w7 g1 g2' g3
              obtain ⟨q7, c7, rfl, hq7⟩ := owns_pos g1 (by omega)
              obtain ⟨hp1, hp2⟩ := hGa.out.place htv g2'
              have hGn := Lib.hid (hGa.out.put' hfm hDn.out.sorted ht0 htv (by first | exact g1 | (rw [hi0]; exact g1)) g2' (by simpa using g3))
              clear g1 g2' g3 hcn hc7
              go_wp2_with fail
              go_roundw
              case rel => exact ⟨m + 1, _, _, _, by omega, by go_num, hGn, hDn, Lib.hid (fun h0 => absurd h0 (by omega)), by omega, hDe⟩
              case measure => simp [intOf]; omega
        · obtain rfl : t = nk := by omega
          have hvL := hG5.out.lens
          obtain ⟨hi0, hD1⟩ := new_facts hfm hD.out hvL.1 hlo.out (.inl rfl)
          have hDn := Lib.hid hD1
          clear hD1
          have hop := Lib.hid (opened_gr kv hG5.out hnil.out (by omega) ht hi0)
          go_wp2_with fail
          refine (hop.out).mono ?_
          rintro e w6 ⟨qa, ca, qb, cb, rfl, hca, hcb, hb6, hg6⟩
          have hG6 := Lib.hid hg6
          clear hg6 hb6 hop
          have ht0 : (L.take t ++ kv :: L.drop t)[t]? = some kv := by rw [ins_get _ _ _ (by omega), if_neg (Nat.lt_irrefl t), if_pos rfl]
          have htv : (vs.take t ++ Value.slice none 0 0 :: vs.drop t)[t]? = some (.slice none 0 0) := by rw [ins_get _ _ _ (by omega), if_neg (Nat.lt_irrefl t), if_pos rfl]
          have hc7 := hG6.out.cell htv
          have hGa := Lib.hid (hG6.out.next (below_alloc w6 (.cells #[.int .i64 (m : Int)] 3)))
          have hcn := (Bk.new w6 #[.int .i64 (m : Int)] 3).cell 0
          have hrw := Lib.hid (hGa.out.rows t _ kv htv ht0)
          have hil := idx_len f kv m
          go_wp2_with (at_builtin; refine wpList_append_at _ (o := ⟨some 98, _, _, _, _, _⟩) rfl (.tmp 95) (.tmp 97) rfl w.heap.size _ _ _ rfl hrw.out ⟨w6.heap.size, 0, none⟩ 1 rfl (m : Int) hcn (by omega) hGa.out.o2.below.size ?_)
          intro v7 w7 g1 g2' g3
          obtain ⟨q7, c7, rfl, hq7⟩ := owns_pos g1 (by omega)
          obtain ⟨hp1, hp2⟩ := hGa.out.place htv g2'
          have hGn := Lib.hid (hGa.out.put' hfm hDn.out.sorted ht0 htv (by first | exact g1 | (rw [hi0]; exact g1)) g2' (by simpa using g3))
          clear g1 g2' g3 hcn hc7
          go_wp2_with fail
          go_roundw
          case rel => exact ⟨m + 1, _, _, _, by omega, by go_num, hGn, hDn, Lib.hid (fun h0 => absurd h0 (by omega)), by omega, hDe⟩
          case measure => simp [intOf]; omega
    · obtain rfl : m = n := by omega
      obtain ⟨i, hi, hni⟩ := hd.out
      exact absurd (hDy.out i hi) hni

set_option maxRecDepth 100000 in
set_option maxHeartbeats 3200000 in
theorem rgroups_field_bad (cal fld : Int) (f : Nat → Int) (good : Nat → Prop) (p : Option Addr) (n c : Nat) (l : List Int) (w : World) (ha : isCal cal) (hn : n ≤ 1000) (hnc : n ≤ c) (hf0 : 1 ≤ fld) (hf : fld ≤ 4) (hl : Rd w p n l)
    (hd : Hid (∃ i, i < n ∧ ¬ good i)) (hbad : Hid (∀ i, i < n → ¬ good i → (∀ W, Calls Try.prog 42 #[.int .i64 cal, .int .i64 (l.getD i 0), .int .i64 fld] W fun z w' => z = .returned (.tuple #[.int .i64 0, .int .i64 21]) ∧ Below W.heap.size W w') ∧ (∀ W, Calls Try.prog 40 #[.int .i64 cal, .int .i64 (l.getD i 0), .int .i64 fld] W fun z w' => z = .returned (.tuple #[.int .i64 0, .int .i64 21]) ∧ Below W.heap.size W w')))
    (hk : Hid (∀ i, i < n → good i → ∃ kz : Int, ∀ W, Calls Try.prog 42 #[.int .i64 cal, .int .i64 (l.getD i 0), .int .i64 fld] W fun z w' => z = .returned (.tuple #[.int .i64 kz, .int .i64 0]) ∧ Below W.heap.size W w'))
    (hq : Hid (∀ i, i < n → good i → ∀ W, Calls Try.prog 40 #[.int .i64 cal, .int .i64 (l.getD i 0), .int .i64 fld] W fun z w' => z = .returned (.tuple #[.int .i64 (f i), .int .i64 0]) ∧ Below W.heap.size W w')) :
    Calls Try.prog 44 #[.int .i64 cal, .slice p n c, .int .i64 fld, .bool true] w fun z w' => z = .returned (.tuple #[.slice none 0 0, .slice none 0 0, .int .i64 21]) ∧ Below w.heap.size w w' := by
  obtain ⟨nm, hnm, hn'⟩ := rname_any cal ha
  obtain ⟨e1, e2⟩ := hnm
  have h1 := Lib.hid hn'
  clear hn' ha
  have HB := Lib.hid (Below.refl w.heap.size w)
  have HL := Lib.hid hl
  clear hl
  go_enter Try.func44, Try.ntmps44
  go_wp2_with fail
  refine (h1.out _).mono ?_
  rintro e w2 ⟨rfl, hb⟩
  have HB := Lib.hid (bel_next HB.out hb)
  clear hb
  go_wp2_with fail
  go_loopw [11, 12, 13] (fun v1 v2 i wr => ∃ (m nk : Nat) (L : List Int) (vs : List Value), m ≤ n ∧ i = .int .i64 m ∧ Hid (Gr f m v1 v2 nk L vs w wr) ∧ Hid (Gd f m L) ∧ Hid (nk = 0 → v1 = .slice none 0 0 ∧ v2 = .slice none 0 0) ∧ nk ≤ m ∧ Hid (∀ i, i < m → good i)) (fun _ _ i _ => n - (intOf i).toNat)
  case atStart => exact ⟨0, 0, [], [], Nat.zero_le _, rfl, Lib.hid (Gr.start HB.out), Lib.hid (Gd.zero f), Lib.hid (fun _ => ⟨rfl, rfl⟩), Nat.le_refl _, Lib.hid (fun i hi => absurd hi (Nat.not_lt_zero i))⟩
  case round =>
    obtain ⟨m, nk, L, vs, hm, rfl, hG, hD, hnil, hnk, hDy⟩ := hrel
    by_cases hlt : m < n
    · obtain ⟨bb, off, v, rfl, hbl, hcell, hv⟩ := (HL.out.below hG.out.o2.below).at hlt
      by_cases hgood : good m
      case neg =>
        have hkm := Lib.hid (hbad.out m hlt hgood).1
        have hfl := Lib.hid (hbad.out m hlt hgood).2
        rw [hv.out] at hkm hfl
        clear hgood
        go_wp2_with fail
        refine (hkm.out _).mono ?_
        rintro e w4 ⟨rfl, hb⟩
        have HB4 := Lib.hid (bel_next hG.out.o2.below hb)
        have hcell4 := (hb.cell (p := ⟨bb, off + m, none⟩) hbl).trans hcell
        clear hb hcell hbl
        go_wp2_with fail
        refine (hfl.out _).mono ?_
        rintro e w5 ⟨rfl, hb⟩
        have HB5 := Lib.hid (bel_next HB4.out hb)
        clear hb hcell4
        go_wp2_with fail
        go_ret3
        exact ⟨rfl, HB5.out⟩
      obtain ⟨kz, hkz⟩ := hk.out m hlt hgood
      have hkm := Lib.hid hkz
      have hfl := Lib.hid (hq.out m hlt hgood)
      rw [hv.out] at hkm hfl
      clear hkz
      have hDe := Lib.hid (show ∀ i, i < m + 1 → good i from fun i hi => by
        by_cases hik : i = m
        · subst hik; exact hgood
        · exact hDy.out i (by omega))
      clear hgood
      generalize hfm : f m = kv at hfl
      go_wp2_with fail
      refine (hkm.out _).mono ?_
      rintro e w4 ⟨rfl, hb⟩
      have hG4 := Lib.hid (hG.out.next hb)
      have hcell4 := (hb.cell (p := ⟨bb, off + m, none⟩) hbl).trans hcell
      clear hb hcell hbl
      go_wp2_with fail
      refine (hfl.out _).mono ?_
      rintro e w5 ⟨rfl, hb⟩
      have hG5 := Lib.hid (hG4.out.next hb)
      clear hb hcell4
      obtain ⟨q1, c1, rfl, hc1, hr1⟩ := owns_form hG5.out.o2.o1
      have HR1 := Lib.hid hr1
      clear hr1
      go_wp2_with fail
      go_loopw [16] (fun i wr' => ∃ t : Nat, t ≤ nk ∧ i = .int .i64 t ∧ wr' = w5 ∧ Hid (∀ j, j < t → L.getD j 0 < kv)) (fun i _ => nk - (intOf i).toNat)
      case atStart => exact ⟨0, Nat.zero_le _, rfl, rfl, Lib.hid (fun j hj => absurd hj (Nat.not_lt_zero j))⟩
      case round =>
        obtain ⟨t, ht, rfl, rfl, hlo⟩ := hrel
        by_cases htl : t < nk
        · obtain ⟨b1, o1, d, rfl, hb1, hcell, hd⟩ := HR1.out.at htl
          clear hb1
          by_cases hdk : d < kv
          · have hlo' := Lib.hid (show ∀ j, j < t + 1 → L.getD j 0 < kv from fun j hj => by
              by_cases e : j = t
              · subst e; rw [hd.out]; exact hdk
              · exact hlo.out j (by omega))
            go_wp2_with fail
            go_roundw
            case rel => exact ⟨t + 1, by omega, by go_num, trivial, hlo'⟩
            case measure => simp [intOf]; omega
          · by_cases hde : d = kv
            · subst hde
              have hvL := hG5.out.lens
              have htv := List.getElem?_eq_getElem (l := vs) (i := t) (by omega)
              obtain ⟨ht0, hD1⟩ := same_facts hfm hD.out hvL.1 htl hd.out
              have hDn := Lib.hid hD1
              obtain ⟨g2, cap2, rfl, hcap2⟩ := owns_pos hG5.out.o2.o2 (by omega)
              clear hD1
              generalize vs[t] = vt at htv
              have hc7 := hG5.out.cell htv
              have hGa := Lib.hid (hG5.out.next (below_alloc wr (.cells #[.int .i64 (m : Int)] 3)))
              have hcn := (Bk.new wr #[.int .i64 (m : Int)] 3).cell 0
              have hrw := Lib.hid (hGa.out.rows t _ d htv ht0)
              have hil := idx_len f d m
              go_wp2_with (at_builtin; refine wpList_append_at _ (o := ⟨some 98, _, _, _, _, _⟩) rfl (.tmp 95) (.tmp 97) rfl w.heap.size _ _ _ rfl hrw.out ⟨wr.heap.size, 0, none⟩ 1 rfl (m : Int) hcn (by omega) hGa.out.o2.below.size ?_)
              intro v7 w7 g1 g2' g3
              obtain ⟨q7, c7, rfl, hq7⟩ := owns_pos g1 (by omega)
              obtain ⟨hp1, hp2⟩ := hGa.out.place htv g2'
              have hGn := Lib.hid (hGa.out.put' hfm hDn.out.sorted ht0 htv (by first | exact g1 | (rw [hi0]; exact g1)) g2' (by simpa using g3))
              clear g1 g2' g3 hcn hc7
              go_wp2_with fail
              go_roundw
              case rel => exact ⟨m + 1, _, _, _, by omega, by go_num, hGn, hDn, Lib.hid (fun h0 => absurd h0 (by omega)), by omega, hDe⟩
              case measure => simp [intOf]; omega
            · have hbe : (d == kv) = false := by simpa using hde
              have hbn : (d != kv) = true := by simpa using hde
              have hvL := hG5.out.lens
              obtain ⟨hi0, hD1⟩ := new_facts hfm hD.out hvL.1 hlo.out (.inr ⟨htl, by rw [hd.out]; omega⟩)
              have hDn := Lib.hid hD1
              clear hD1
              have hop := Lib.hid (opened_gr kv hG5.out hnil.out (by omega) ht hi0)
              go_wp2_with fail
              refine (hop.out).mono ?_
              rintro e w6 ⟨qa, ca, qb, cb, rfl, hca, hcb, hb6, hg6⟩
              have hG6 := Lib.hid hg6
              clear hg6 hb6 hop
              have ht0 : (L.take t ++ kv :: L.drop t)[t]? = some kv := by rw [ins_get _ _ _ (by omega), if_neg (Nat.lt_irrefl t), if_pos rfl]
              have htv : (vs.take t ++ Value.slice none 0 0 :: vs.drop t)[t]? = some (.slice none 0 0) := by rw [ins_get _ _ _ (by omega), if_neg (Nat.lt_irrefl t), if_pos rfl]
              have hc7 := hG6.out.cell htv
              have hGa := Lib.hid (hG6.out.next (below_alloc w6 (.cells #[.int .i64 (m : Int)] 3)))
              have hcn := (Bk.new w6 #[.int .i64 (m : Int)] 3).cell 0
              have hrw := Lib.hid (hGa.out.rows t _ kv htv ht0)
              have hil := idx_len f kv m
              go_wp2_with (at_builtin; refine wpList_append_at _ (o := ⟨some 98, _, _, _, _, _⟩) rfl (.tmp 95) (.tmp 97) rfl w.heap.size _ _ _ rfl hrw.out ⟨w6.heap.size, 0, none⟩ 1 rfl (m : Int) hcn (by omega) hGa.out.o2.below.size ?_)
              intro v7 w7 g1 g2' g3
              obtain ⟨q7, c7, rfl, hq7⟩ := owns_pos g1 (by omega)
              obtain ⟨hp1, hp2⟩ := hGa.out.place htv g2'
              have hGn := Lib.hid (hGa.out.put' hfm hDn.out.sorted ht0 htv (by first | exact g1 | (rw [hi0]; exact g1)) g2' (by simpa using g3))
              clear g1 g2' g3 hcn hc7
              go_wp2_with fail
              go_roundw
              case rel => exact ⟨m + 1, _, _, _, by omega, by go_num, hGn, hDn, Lib.hid (fun h0 => absurd h0 (by omega)), by omega, hDe⟩
              case measure => simp [intOf]; omega
        · obtain rfl : t = nk := by omega
          have hvL := hG5.out.lens
          obtain ⟨hi0, hD1⟩ := new_facts hfm hD.out hvL.1 hlo.out (.inl rfl)
          have hDn := Lib.hid hD1
          clear hD1
          have hop := Lib.hid (opened_gr kv hG5.out hnil.out (by omega) ht hi0)
          go_wp2_with fail
          refine (hop.out).mono ?_
          rintro e w6 ⟨qa, ca, qb, cb, rfl, hca, hcb, hb6, hg6⟩
          have hG6 := Lib.hid hg6
          clear hg6 hb6 hop
          have ht0 : (L.take t ++ kv :: L.drop t)[t]? = some kv := by rw [ins_get _ _ _ (by omega), if_neg (Nat.lt_irrefl t), if_pos rfl]
          have htv : (vs.take t ++ Value.slice none 0 0 :: vs.drop t)[t]? = some (.slice none 0 0) := by rw [ins_get _ _ _ (by omega), if_neg (Nat.lt_irrefl t), if_pos rfl]
          have hc7 := hG6.out.cell htv
          have hGa := Lib.hid (hG6.out.next (below_alloc w6 (.cells #[.int .i64 (m : Int)] 3)))
          have hcn := (Bk.new w6 #[.int .i64 (m : Int)] 3).cell 0
          have hrw := Lib.hid (hGa.out.rows t _ kv htv ht0)
          have hil := idx_len f kv m
          go_wp2_with (at_builtin; refine wpList_append_at _ (o := ⟨some 98, _, _, _, _, _⟩) rfl (.tmp 95) (.tmp 97) rfl w.heap.size _ _ _ rfl hrw.out ⟨w6.heap.size, 0, none⟩ 1 rfl (m : Int) hcn (by omega) hGa.out.o2.below.size ?_)
          intro v7 w7 g1 g2' g3
          obtain ⟨q7, c7, rfl, hq7⟩ := owns_pos g1 (by omega)
          obtain ⟨hp1, hp2⟩ := hGa.out.place htv g2'
          have hGn := Lib.hid (hGa.out.put' hfm hDn.out.sorted ht0 htv (by first | exact g1 | (rw [hi0]; exact g1)) g2' (by simpa using g3))
          clear g1 g2' g3 hcn hc7
          go_wp2_with fail
          go_roundw
          case rel => exact ⟨m + 1, _, _, _, by omega, by go_num, hGn, hDn, Lib.hid (fun h0 => absurd h0 (by omega)), by omega, hDe⟩
          case measure => simp [intOf]; omega
    · obtain rfl : m = n := by omega
      obtain ⟨i, hi, hni⟩ := hd.out
      exact absurd (hDy.out i hi) hni
end Go.Proofs.Ythpeaeepcbbfcaa
