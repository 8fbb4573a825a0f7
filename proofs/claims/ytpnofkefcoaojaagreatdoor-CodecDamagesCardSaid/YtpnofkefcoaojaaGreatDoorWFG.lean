/- The program's appendPlain. -/
import Derived.Test.YtpnofkefcoaojaaGreatDoorKC
import Derived.Test.YtpnofkefcoaojaaGreatDoorWFF
set_option maxHeartbeats 4000000
set_option maxRecDepth 100000
namespace Go.Proofs.YtpnofkefcoaojaaGreatDoor
open Go.RowKit Go.Shelf
open Go.Lib
attribute [local go_sem] Oper.semAt_some
def ptT (l : List UInt8) (len t : Nat) : List UInt8 := UInt8.ofNat (ptL len t - 1) :: (l.drop (128 * t)).take (ptL len t)
def ptD (l : List UInt8) (len : Nat) (ts : List Nat) : List UInt8 := (ts.map (ptT l len)).flatten
theorem ptD_snoc (l : List UInt8) (len : Nat) (ts : List Nat) (t : Nat) : ptD l len (ts ++ [t]) = ptD l len ts ++ ptT l len t := by
  rw [ptD, List.map_append, List.flatten_append]; simp [ptD]
theorem ptD_range (l : List UInt8) : ∀ i, 128 * i < l.length + 128 → ptD l l.length (List.range i) ++ spL (l.drop (128 * i)) = spL l
  | 0, _ => rfl
  | i + 1, h => by
    have hd : 0 < (l.drop (128 * i)).length := by rw [List.length_drop]; omega
    have h1 := ptD_range l i (by omega)
    rw [spL_step hd, List.drop_drop] at h1
    have e1 : min (l.drop (128 * i)).length 128 = ptL l.length i := by rw [List.length_drop]
    rw [e1] at h1
    rw [List.range_succ, ptD_snoc, ptT, ← h1, List.append_assoc]
    congr 1
    rw [List.cons_append]
    by_cases hl : l.length - 128 * i < 128
    · have e2 : ptL l.length i = l.length - 128 * i := by simp only [ptL]; omega
      have e3 : l.drop (128 * (i + 1)) = [] := List.drop_of_length_le (by omega)
      have e4 : l.drop (128 * i + ptL l.length i) = [] := List.drop_of_length_le (by rw [e2]; omega)
      rw [e3, e4]
    · have e2 : ptL l.length i = 128 := by simp only [ptL]; omega
      rw [e2, show 128 * (i + 1) = 128 * i + 128 by omega]
theorem ptD_all (l : List UInt8) : ptD l l.length (List.range ((l.length + 127) / 128)) = spL l := by
  have h := ptD_range l ((l.length + 127) / 128) (by omega)
  rwa [List.drop_of_length_le (by omega), spL_nil, List.append_nil] at h
theorem ptD_len (l : List UInt8) (len : Nat) : ∀ ts : List Nat, (ptD l len ts).length ≤ 129 * ts.length
  | [] => Nat.le_refl _
  | t :: ts => by
    have h := ptD_len l len ts
    have e : ptD l len (t :: ts) = ptT l len t ++ ptD l len ts := rfl
    have h2 : ptL len t ≤ 128 := by simp only [ptL]; omega
    rw [e, List.length_append, ptT, List.length_cons, List.length_take, List.length_cons]; omega
structure ApI (B N : Nat) (p : Option Addr) (len c : Nat) (w : World) (v0 v : Value) (D : List UInt8) (W : World) : Prop where
  old : w.grownBy W v0.ownBlock
  lies : v.ownBlock = v0.ownBlock ∨ ∃ j, v.ownBlock = some j ∧ w.heap.size ≤ j
  own : W.ownsRow B 5 1 v D.length (ubs D)
  out : W.heap[N]? = some (.cells #[v] 39 (0, 0))
  i1 : W.heap[N + 1]? = some (.cells #[.slice p len c] 39 (0, 0))
  i2 : W.heap[N + 1 + 1]? = some (.cells #[.int .i64 128] 3 (0, 0))
  bel : Below B w W
section
variable {B N : Nat} {p : Option Addr} {len c : Nat} {w W W' : World} {v0 v v' : Value} {D D' : List UInt8}
theorem ApI.keep (h : ApI B N p len c w v0 v D W) {row : Option Nat} (hg : W.grownBy W' row) (hr : ∀ r, row = some r → w.heap.size ≤ r ∧ ∃ o : Obj, W.heap[r]? = some o ∧ o.isCells = false) (hBw : B ≤ w.heap.size) (hB : B ≤ W.heap.size) : ApI B N p len c w v0 v D W' := by
  have hk : ∀ {k : Nat} {o : Obj}, W.heap[k]? = some o → o.isCells = true → W'.heap[k]? = some o := fun h1 h2 => (grownBy_keeps_cells hg (fun r e => (hr r e).2) h1 h2).trans h1
  exact ⟨⟨hg.os.trans h.old.os, hg.tape.trans h.old.tape, hg.output.trans h.old.output, Nat.le_trans h.old.size hg.size, fun k hk9 hne => (hg.block k (Nat.lt_of_lt_of_le hk9 h.old.size) (fun e => by have := (hr k e.symm).1; omega)).trans (h.old.block k hk9 hne)⟩, h.lies, own_keepB h.own (fun k cs h1 => hk h1 rfl), hk h.out rfl, hk h.i1 rfl, hk h.i2 rfl, h.bel.grown hg hB (fun k e => Nat.le_trans hBw (hr k e).1)⟩
theorem ApI.app (h : ApI B N p len c w v0 v D W) (hBW : B ≤ W.heap.size) (hBN : B ≤ N) (hwN : w.heap.size ≤ N) (hg : Grew B W v D' W' v') : W'.ownsRow B 5 1 v' D'.length (ubs D') ∧ ApI B N p len c w v0 v' D' (W'.setCell ⟨N, 0, none⟩ v') ∧ KeepsOthers W (W'.setCell ⟨N, 0, none⟩ v') ∧ W'.heap[N]? = some (.cells #[v] 39 (0, 0)) ∧ Below B W (W'.setCell ⟨N, 0, none⟩ v') := by
  have hk : ∀ {k : Nat} {cs : Array Value} {t : TypeId}, W.heap[k]? = some (.cells cs t (0, 0)) → t ≠ 5 → W'.heap[k]? = some (.cells cs t (0, 0)) := fun h1 h2 => (hg.grown.block _ (Array.getElem?_eq_some_iff.1 h1).1 (own_ne h.own h1 h2)).trans h1
  have hs : ∀ {k : Nat} {o : Obj}, k ≠ N → W'.heap[k]? = some o → (W'.setCell ⟨N, 0, none⟩ v').heap[k]? = some o := fun hne h1 => (Below.heap_setCell W' ⟨N, 0, none⟩ _ _ hne).trans h1
  have hO := hk h.out (by decide)
  have hne : ∀ {k : Nat} {cs : Array Value}, W'.heap[k]? = some (.cells cs 5 (0, 0)) → k ≠ N := by
    rintro k cs h1 rfl
    rw [hO] at h1; cases h1
  have hb1 : Below B w W' := h.bel.grown hg.grown hBW (fun k e => own_ge h.own e)
  have hG : Grew B w v0 D' W' v' := Grew.trans ⟨h.own, h.old, h.lies⟩ hg
  refine ⟨hg.own, ⟨⟨hG.grown.os, hG.grown.tape, hG.grown.output, Nat.le_trans hG.grown.size (KeepsOthers.setCell W' ⟨N, 0, none⟩ v').size, fun k hk9 hne9 => (Below.heap_setCell W' ⟨N, 0, none⟩ _ _ (by show k ≠ N; omega)).trans (hG.grown.block k hk9 hne9)⟩, hG.lies, own_keepB hg.own (fun k cs h3 => hs (hne h3) h3), block_of_set hO, hs (by omega) (hk h.i1 (by decide)), hs (by omega) (hk h.i2 (by decide)), hb1.setCell (p := ⟨N, 0, none⟩) hBN _⟩, (KeepsOthers.of_grownBy hg.grown (own_cells h.own)).trans (KeepsOthers.setCell _ _ _), hO, ((Below.refl B W).grown hg.grown hBW (fun k e => own_ge h.own e)).setCell (p := ⟨N, 0, none⟩) hBN _⟩
end
theorem appendPlain_some (B b0 off len c : Nat) (v0 : Value) (D0 l : List UInt8) (w : World) (hlen : Hid (len = l.length)) (hl : len ≤ 20000) (hc : len ≤ c) (hD0 : D0.length ≤ 100000) (hB : B ≤ w.heap.size) (hown : w.ownsRow B 5 1 v0 D0.length (ubs D0)) (hbs : BsN B w (some ⟨b0, off, none⟩) l) :
    Calls Tryz.prog 154 #[v0, .slice (some ⟨b0, off, none⟩) len c] w (App B w v0 (D0 ++ spL l)) := by
  obtain ⟨k, HK⟩ : ∃ k, Hid (k = (len + 127) / 128) := ⟨_, rfl⟩
  have HB0 := Lib.hid hbs
  have HO0 := Lib.hid hown
  obtain ⟨pv, cv, rfl, -, -⟩ := own_bytes hown
  obtain ⟨m0, HM0⟩ : ∃ m0, Hid (m0 = D0.length) := ⟨_, rfl⟩
  rw [← HM0.out]
  clear hbs hown
  refine (callsIn_wide (n := 9)).1 ?_
  refine callsIn_of_wp_marks Tryz.func154 rfl trivial ?_ rfl
  simp only [Tryz.ntmps154, List.size_toArray, List.length_cons, List.length_nil, Nat.reduceAdd, Nat.reduceSub, Array.replicate_succ, Array.replicate_zero, List.push_toArray, List.append_toArray, List.nil_append, List.cons_append]
  gi_wp2_with (refine ⟨trivial, ?_⟩; gi_at_call 193; refine (chunk_in _ _ _ _ _).mono ?_; rintro e w' ⟨rfl, rfl⟩)
  obtain ⟨W0, hW0⟩ : ∃ W0, (((w.alloc (.cells #[.slice pv m0 cv] 39)).alloc (.cells #[.slice (some ⟨b0, off, none⟩) len c] 39)).alloc (.cells #[.int .i64 128] 3)) = W0 := ⟨_, rfl⟩
  have hs0 : W0.heap.size = w.heap.size + 3 := by rw [← hW0]; simp
  have hbe : Below w.heap.size w W0 := by rw [← hW0]; exact (((Below.refl _ w).alloc (Nat.le_refl _) _).alloc (by simp) _).alloc (by simp <;> omega) _
  have hI0 : ApI B w.heap.size (some ⟨b0, off, none⟩) len c w (.slice pv m0 cv) (.slice pv m0 cv) D0 W0 := by
    refine ⟨grown_below hbe _, .inl rfl, ?_, ?_, ?_, ?_, hbe.mono hB⟩
    · rw [HM0.out]; exact own_below HO0.out hbe
    all_goals (rw [← hW0])
    · exact (Below.heap_alloc _ _ _ (by simp <;> omega)).trans ((Below.heap_alloc _ _ _ (by simp)).trans (World.alloc_heap_new w _))
    · refine (Below.heap_alloc _ _ _ (by simp)).trans ?_
      have := World.alloc_heap_new (w.alloc (.cells #[.slice pv m0 cv] 39)) (.cells #[.slice (some ⟨b0, off, none⟩) len c] 39); rwa [World.size_alloc] at this
    · have := World.alloc_heap_new ((w.alloc (.cells #[.slice pv m0 cv] 39)).alloc (.cells #[.slice (some ⟨b0, off, none⟩) len c] 39)) (.cells #[.int .i64 128] 3); rwa [World.size_alloc, World.size_alloc] at this
  rw [hW0]
  refine wpIn_rangeFunc_ownF rfl (by omega) (gf := 226) (lb := #[.pointer (some ⟨w.heap.size + 1, 0, none⟩), .pointer (some ⟨w.heap.size + 1 + 1, 0, none⟩)]) rfl trivial (enters_of Tryz.func226 (by kernel_rfl) rfl)
    (chunk_stops _ (by omega) (w.heap.size + 1) (w.heap.size + 1 + 1) B len k c b0 off HK hl hc W0 (by omega) (by omega) (by simp [World.cell?, hI0.i2]) (by simp [World.cell?, hI0.i1])) Keep3.trans
    (fun W lo o o' hlo ho hc hw => ⟨(Below.refl _ W).grown (grownBy_putObj' W lo o') (by have := (Array.getElem?_eq_some_iff.1 ho).1; omega) (fun k e => by cases e; omega), World.putObj_heap_other (by omega), World.putObj_heap_other (by omega)⟩) (Below.refl _ _) (fun _ => rfl)
    (fun pre W => (∃ v, ApI B w.heap.size (some ⟨b0, off, none⟩) len c w (.slice pv m0 cv) v (D0 ++ ptD l len (pre.map (·.1))) W) ∧ B ≤ W.heap.size)
    (fun _ _ _ => False)
    (fun s W W' row h hg hr => by obtain ⟨⟨v, h⟩, hB9⟩ := h; exact ⟨⟨v, h.keep hg (fun r e => ⟨by have := (hr r e).1; omega, (hr r e).2⟩) hB hB9⟩, Nat.le_trans hB9 hg.size⟩)
    (fun _ _ _ _ _ h _ _ => h)
    ⟨⟨_, by rw [show ptD l len (([] : List (Pl k)).map (·.1)) = [] from rfl, List.append_nil]; exact hI0⟩, by omega⟩ ?a1 ?assign ?body ?done ?stop
  case assign =>
    intro lo x W K hK
    gi_wp2
    exact hK
  case body =>
    rintro lo pre x W ⟨⟨v, hI⟩, hBW⟩ hlen2
    obtain ⟨D, HD⟩ : ∃ D, Hid (D = D0 ++ ptD l len (pre.map (·.1))) := ⟨_, rfl⟩
    rw [← HD.out] at hI
    have HI := Lib.hid hI
    obtain ⟨e, HE⟩ : ∃ e, Hid (e = ptL len x.1) := ⟨_, rfl⟩
    obtain ⟨t, HT⟩ : ∃ t, Hid (t = 128 * x.1) := ⟨_, rfl⟩
    have hxl := x.2
    have htl : t < len := by have := HK.out; rw [HT.out]; omega
    have he1 : 1 ≤ e := by rw [HE.out]; have := HT.out; simp only [ptL]; omega
    have he2 : t + e ≤ len := by rw [HE.out]; have := HT.out; simp only [ptL]; omega
    have he3 : e ≤ 128 := by rw [HE.out]; simp only [ptL]; omega
    have ee : ptL len x.1 = e := HE.out.symm
    have et : 128 * x.1 = t := HT.out.symm
    simp only [ee, et]
    have hi1 : 1 ≤ (e : Int) := by omega
    have hi3 : (e : Int) ≤ 128 := by omega
    obtain ⟨y, HY⟩ : ∃ y : UInt8, Hid (y = UInt8.ofNat (e - 1)) := ⟨_, rfl⟩
    have hyn : y.toNat = e - 1 := by rw [HY.out, UInt8.toNat_ofNat']; omega
    have hyi : (e : Int) - 1 = ((y.toNat : Nat) : Int) := by rw [hyn]; omega
    have hyl : ((y.toNat : Nat) : Int) ≤ 127 := by rw [hyn]; omega
    obtain ⟨pt, HPT⟩ : ∃ pt, Hid (pt = (l.drop t).take e) := ⟨_, rfl⟩
    have hptl : pt.length = e := by rw [HPT.out, List.length_take, List.length_drop, ← hlen.out]; omega
    have HEND : Hid (D ++ [y] ++ pt = D0 ++ ptD l len ((pre ++ [x]).map (·.1))) := Lib.hid (by
      rw [List.map_append, List.map_cons, List.map_nil, ptD_snoc, ptT, ee, et, ← HY.out, ← HPT.out, HD.out]; simp only [List.append_assoc, List.cons_append, List.nil_append])
    have hDl : D.length ≤ 140000000000000 := by
      have h5 := ptD_len l len (pre.map (·.1))
      have h6 := HK.out
      rw [List.length_map] at h5
      rw [HD.out, List.length_append]; omega
    have cO : W.cell? ⟨w.heap.size, 0, none⟩ = some v := by simp [World.cell?, hI.out]
    have HIa : Hid (ApI B w.heap.size (some ⟨b0, off, none⟩) len c w (.slice pv m0 cv) v D (W.alloc (.cells #[.int .u8 ((y.toNat : Nat) : Int)] 5))) := Lib.hid (hI.keep (World.grownBy_alloc W _ none) (fun r e => by cases e) hB hBW)
    have hko : Hid (KeepsOthers W (W.alloc (.cells #[.int .u8 ((y.toNat : Nat) : Int)] 5)) ∧ Below B W (W.alloc (.cells #[.int .u8 ((y.toNat : Nat) : Int)] 5))) := Lib.hid ⟨KeepsOthers.alloc _ _, (Below.refl _ _).alloc hBW _⟩
    have hone := Lib.hid (byte_bs W y)
    have hsz : Hid (B ≤ (W.alloc (.cells #[.int .u8 ((y.toNat : Nat) : Int)] 5)).heap.size) := Lib.hid (by simp; omega)
    clear hI hyn
    gi_wp2_with (refine wpListIn_plain (o := ⟨some 15, _, _, _, _, _⟩) rfl fun K hK => oper_round rfl (op_append_bs (.tmp 9) (.tmp 14) rfl B v D.length D rfl rfl HIa.out.own _ 1 1 [y] rfl rfl hone.out (by omega) hsz.out ?_))
    intro v5 W5 hg5
    obtain ⟨hown5, hci5, hko5, hO5, hbl5⟩ := HIa.out.app hsz.out hB (Nat.le_refl _) hg5
    have hB5 : B ≤ W5.heap.size := Nat.le_trans hsz.out hg5.grown.size
    obtain ⟨D5, HD5⟩ : ∃ D5, Hid (D5 = D ++ [y]) := ⟨D ++ [y], Lib.hid rfl⟩
    rw [← HD5.out] at hown5 hci5
    obtain ⟨p5, c5, rfl, -, -⟩ := own_bytes hown5
    obtain ⟨m5, HM5⟩ : ∃ m5, Hid (m5 = D5.length) := ⟨_, rfl⟩
    rw [← HM5.out] at hci5 hko5 hbl5 ⊢
    have fO : W5.cell? ⟨w.heap.size, 0, none⟩ = some v := by simp [World.cell?, hO5]
    have fOz : W5.frozen? ⟨w.heap.size, 0, none⟩ = false := by simp [World.frozen?, hO5]
    obtain ⟨W6, hW6⟩ : ∃ W6, W5.setCell ⟨w.heap.size, 0, none⟩ (.slice p5 m5 c5) = W6 := ⟨_, rfl⟩
    rw [hW6] at hci5 hko5 hbl5
    have HI6 := Lib.hid hci5
    have HK6 : Hid (KeepsOthers W W6 ∧ Below B W W6) := Lib.hid ⟨hko.out.1.trans hko5, hko.out.2.trans hbl5⟩
    have hB6 : B ≤ W6.heap.size := Nat.le_trans hBW HK6.out.2.size
    have cO6 : W6.cell? ⟨w.heap.size, 0, none⟩ = some (.slice p5 m5 c5) := by have h := HI6.out.out; simp [World.cell?, h]
    have cO6z : W6.frozen? ⟨w.heap.size, 0, none⟩ = false := by have h := HI6.out.out; simp [World.frozen?, h]
    have hbs6 : Hid (Bs W6 (some ⟨b0, off + t, none⟩) pt) := Lib.hid (by
      rw [HPT.out]; exact bs_sub ((HB0.out.keep HI6.out.bel).bs hB6) t e (by rw [← hlen.out]; omega) rfl)
    have hm5l : Hid (m5 + e ≤ 140737488355328) := Lib.hid (by rw [HM5.out, HD5.out, List.length_append]; show D.length + 1 + e ≤ _; omega)
    have hown6 : Hid (W6.ownsRow B 5 1 (.slice p5 m5 c5) m5 (ubs D5)) := Lib.hid (by have h := HI6.out.own; rwa [← HM5.out] at h)
    clear hown5 hci5 hko5 hO5 hbl5 hg5 cO
    refine hK _ _ ?_
    gi_wp2_with (refine wpListIn_plain (o := ⟨some 18, _, _, _, _, _⟩) rfl fun K hK => oper_round rfl (op_append_bs (.tmp 16) (.tmp 17) rfl B (.slice p5 m5 c5) m5 D5 rfl HM5.out hown6.out _ e e pt rfl hptl hbs6.out hm5l.out hB6 ?_))
    intro v7 W7 hg7
    obtain ⟨hown7, hci7, hko7, hO7, hbl7⟩ := HI6.out.app hB6 hB (Nat.le_refl _) hg7
    obtain ⟨D7, HD7⟩ : ∃ D7, Hid (D7 = D5 ++ pt) := ⟨_, rfl⟩
    rw [← HD7.out] at hown7 hci7
    obtain ⟨p7, c7, rfl, -, -⟩ := own_bytes hown7
    obtain ⟨m7, HM7⟩ : ∃ m7, Hid (m7 = D7.length) := ⟨_, rfl⟩
    rw [← HM7.out] at hci7 hko7 hbl7 ⊢
    have gO : W7.cell? ⟨w.heap.size, 0, none⟩ = some (.slice p5 m5 c5) := by simp [World.cell?, hO7]
    have gOz : W7.frozen? ⟨w.heap.size, 0, none⟩ = false := by simp [World.frozen?, hO7]
    obtain ⟨W8, hW8⟩ : ∃ W8, W7.setCell ⟨w.heap.size, 0, none⟩ (.slice p7 m7 c7) = W8 := ⟨_, rfl⟩
    rw [hW8] at hci7 hko7 hbl7
    have HFIN : Hid (KeepsOthers W W8 ∧ Keep3 B (w.heap.size + 1 + 1) (w.heap.size + 1) W W8 ∧ (∃ v, ApI B w.heap.size (some ⟨b0, off, none⟩) len c w (.slice pv m0 cv) v (D0 ++ ptD l len ((pre ++ [x]).map (·.1))) W8) ∧ B ≤ W8.heap.size) := Lib.hid (by
      have hb8 := HK6.out.2.trans hbl7
      have k1 : W8.heap[w.heap.size + 1]? = W.heap[w.heap.size + 1]? := hci7.i1.trans HI.out.i1.symm
      have k2 : W8.heap[w.heap.size + 1 + 1]? = W.heap[w.heap.size + 1 + 1]? := hci7.i2.trans HI.out.i2.symm
      have k3 : KeepsOthers W W8 := HK6.out.1.trans hko7
      have k4 : ApI B w.heap.size (some ⟨b0, off, none⟩) len c w (.slice pv m0 cv) (.slice p7 m7 c7) (D0 ++ ptD l len ((pre ++ [x]).map (·.1))) W8 := by
        rw [← HEND.out, ← HD5.out, ← HD7.out]; exact hci7
      exact ⟨k3, ⟨hb8, k2, k1⟩, ⟨_, k4⟩, Nat.le_trans hBW hb8.size⟩)
    clear hown7 hci7 hko7 hO7 hbl7 hg7
    refine hK _ _ ?_
    gi_wp2
    try rw [hW8]
    exact HFIN.out
  case done =>
    rintro Dd xs W hD hxs ⟨⟨v, hI⟩, hBW⟩ hK
    have eD : D0 ++ ptD l len (xs.map (·.1)) = D0 ++ spL l := by
      rw [hxs, HK.out, hlen.out, ptD_all]
    rw [eD] at hI
    have cO : W.cell? ⟨w.heap.size, 0, none⟩ = some v := by simp [World.cell?, hI.out]
    have hD5 := hI.keep (grownBy_putObj' W Dd (.deferred none)) (fun r e => by cases e; exact ⟨by omega, _, hK, rfl⟩) hB hBW
    have hfin : Grew B w (.slice pv m0 cv) (D0 ++ spL l) (W.putObj Dd (.deferred none)) v := ⟨hD5.own, hD5.old, hD5.lies⟩
    clear hI hD5
    gi_wp2
    refine ⟨by simp, .inl ⟨_, _, rfl, run_takeDeferred hK, ?_⟩⟩
    refine ⟨_, ?_, v, rfl, hfin⟩
    simp [results, Tryz.f154, go_sem]
  case stop =>
    rintro D c pre W hD _ h
    exact h.elim
end Go.Proofs.YtpnofkefcoaojaaGreatDoor
