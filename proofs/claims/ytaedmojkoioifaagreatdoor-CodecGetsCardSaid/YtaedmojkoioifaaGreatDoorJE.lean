/- The document's Get: the walk. -/
import Derived.Test.YtaedmojkoioifaaGreatDoorJD
import Derived.BigQuiet
set_option maxHeartbeats 8000000
set_option maxRecDepth 100000
namespace Go.Proofs.YtaedmojkoioifaaGreatDoor
open Go.RowKit
open Go.Lib
def RgPost (k : Int) (n : Nat) (lb : List UInt8) (w : World) (e : Ending) (w' : World) : Prop :=
  Below w.heap.size w w' ∧ ((∃ xs q d, xs.length = n ∧ chkE k xs = 0 ∧ putT k xs = lb ∧ e = .returned (.tuple #[.slice q n d, .int .i64 0]) ∧ Ss w' q xs) ∨ ((∀ xs : List (List UInt8), xs.length = n → chkE k xs = 0 → putT k xs ≠ lb) ∧ e = .returned (.tuple #[.slice none 0 0, .int .i64 5])))
structure RgI (w : World) (k : Int) (n : Nat) (lb : List UInt8) (i ml cr cv : Nat) (pr pv : Option Addr) (lr : List UInt8) (ys : List (List UInt8)) (W : World) : Prop where
  below : Below w.heap.size w W
  len : lr.length = ml
  cap : ml ≤ cr
  small : ml ≤ 1000000
  rest : Bs W pr lr
  low : ∀ b off, pr = some ⟨b, off, none⟩ → 0 < lr.length → b < w.heap.size
  own : W.ownsRow w.heap.size 9 1 (.slice pv i cv) i (strs ys)
  ylen : ys.length = i
  gi : GI k n lb lr ys i
theorem bs_own9 {w U w9 : World} {p pv : Option Addr} {l : List UInt8} {cv n : Nat} {vals : List Value} (h : Bs U p l) (ho : U.ownsRow w.heap.size 9 1 (.slice pv n cv) n vals) (hg : U.grownBy w9 (Value.slice pv n cv).ownBlock) (hp : ∀ b off, p = some ⟨b, off, none⟩ → 0 < l.length → b < w.heap.size) : Bs w9 p l := by
  rcases h with h0 | ⟨b, off, e, hlt, hc⟩
  · exact .inl h0
  · refine .inr ⟨b, off, e, Nat.lt_of_lt_of_le hlt hg.size, fun j hj => ?_⟩
    have hb := hp b off e (by omega)
    have h1 := hg.block b hlt (by
      intro e2
      obtain ⟨-, ⟨hv, -⟩ | ⟨g, cap, cur, hv, hge, -⟩⟩ := ho
      · rw [hv] at e2; cases e2
      · rw [hv] at e2
        have e3 : b = g := by simpa [Value.ownBlock, eq_comm] using e2
        omega)
    have h2 := hc j hj
    simp only [World.cell?] at h2 ⊢
    rw [h1]; exact h2
theorem map_low {pr : Option Addr} {l : List UInt8} {W : World} {B n b off : Nat} (hr : Bs W pr l) (hl : ∀ b off, pr = some ⟨b, off, none⟩ → 0 < l.length → b < B) (h0 : 0 < l.length) (e : (pr.map fun x => x.add n) = some ⟨b, off, none⟩) : b < B := by
  rcases hr with h | ⟨b', off', hp, -⟩
  · omega
  · rw [hp, Option.map_some, add_lit] at e
    cases e
    exact hl _ _ hp h0
theorem RgI.next {w wr W5 U w9 : World} {k : Int} {n i ml cr cv sz gv cv' c2 : Nat} {lb lr T : List UInt8} {ys : List (List UInt8)} {pr pv p2 : Option Addr} (h : RgI w k n lb i ml cr cv pr pv lr ys wr) (h5 : Below wr.heap.size wr W5) (hU : Below W5.heap.size W5 U) (hsz : sz ≤ ml)
    (hp2 : (sz = cr ∧ c2 = 0) ∨ (p2 = (pr.map fun x => x.add sz) ∧ c2 = cr - sz)) (hown : w9.ownsRow w.heap.size 9 1 (.slice (some ⟨gv, 0, none⟩) (i + 1) cv') (i + 1) (strs (ys ++ [T]))) (hg : U.grownBy w9 (Value.slice pv i cv).ownBlock) (hgi : GI k n lb (lr.drop sz) (ys ++ [T]) (i + 1)) :
    RgI w k n lb (i + 1) (ml - sz) c2 cv' p2 (some ⟨gv, 0, none⟩) (lr.drop sz) (ys ++ [T]) w9 := by
  have ho : U.ownsRow w.heap.size 9 1 (.slice pv i cv) i (strs ys) := own_below (own_below h.own h5) hU
  have hbU : Below w.heap.size w U := (h.below.trans (h5.mono h.below.size)).trans (hU.mono (Nat.le_trans h.below.size h5.size))
  have hr : Bs w9 pr lr := bs_own9 ((h.rest.below h5).below hU) ho hg h.low
  have hl := h.len
  have hc := h.cap
  refine ⟨below_own9 hbU ho hg, by rw [List.length_drop, hl], ?_, by have := h.small; omega, ?_, ?_, hown, by rw [List.length_append, h.ylen]; rfl, hgi⟩
  · rcases hp2 with ⟨e1, e2⟩ | ⟨e1, e2⟩ <;> omega
  · rcases hp2 with ⟨e1, e2⟩ | ⟨e1, e2⟩
    · exact .inl (by rw [List.length_drop]; omega)
    · rw [e1]
      by_cases hd : sz < lr.length
      · exact sl_drop hr hd
      · exact .inl (by rw [List.length_drop]; omega)
  · intro b off e h0
    rw [List.length_drop] at h0
    rcases hp2 with ⟨e1, e2⟩ | ⟨e1, e2⟩
    · omega
    · rw [e1] at e
      exact map_low h.rest h.low (by omega) e
theorem rget_any (k : Int) (p : Option Addr) (c n m : Nat) (lb : List UInt8) (w : World) (HK1 : Hid (1 ≤ k ∧ k ≤ 5)) (hn : n ≤ 4096) (hm : Hid (lb.length = m)) (hmc : m ≤ c) (hb : Bs w p lb) (hml : m ≤ 1000000) (hnm : (n + 7) / 8 ≤ m) :
    Calls Tryz.prog 11 #[.int .i64 k, .int .i64 (n : Int), .slice p m c] w (RgPost k n lb w) := by
  have HB := Lib.hid hb
  have hkT : isT k = true := by unfold isT; rw [decide_eq_true HK1.out.1, decide_eq_true HK1.out.2]; rfl
  have HT := Lib.hid (fun W => risType_any k W)
  rw [hkT] at HT
  have hni : (n : Int) ≤ 4096 := by omega
  obtain ⟨P, HPD⟩ : ∃ P, Hid ((n + 7) / 8 = P) := ⟨_, rfl⟩
  have HPM : Hid (P ≤ m) := Lib.hid (by rw [← HPD.out]; exact hnm)
  have hPi : ((n : Int) + 7) / 8 = (P : Int) := by have := HPD.out; omega
  have iPm : ¬ (m : Int) < (P : Int) := by have := HPM.out; omega
  have iPmN : ¬ m < P := by have := HPM.out; omega
  have hn0 : ¬ (n : Int) < 0 := by omega
  have hn4 : ¬ (4096 : Int) < (n : Int) := by omega
  have hn4N : ¬ 4096 < n := by omega
  have iPc : (P : Int) ≤ (c : Int) := by have := HPM.out; omega
  have iPm2 : (P : Int) ≤ (m : Int) := by omega
  have imm : (m : Int) ≤ 1000000 := by omega
  have HLOW : Hid (∀ b off, p = some ⟨b, off, none⟩ → 0 < lb.length → b < w.heap.size) := Lib.hid (fun b off e h0 => by
    rcases HB.out with h | ⟨b', off', hp, hlt, -⟩
    · omega
    · rw [hp] at e; cases e; exact hlt)
  have HI0 : Hid (∀ p2 c2, ((P = c ∧ c2 = 0) ∨ (p2 = (p.map fun x => x.add P) ∧ c2 = c - P)) → RgI w k n lb 0 (m - P) c2 0 p2 none (lb.drop P) [] w) := Lib.hid (fun p2 c2 hp2 => by
    have h1 := hm.out
    have h2 := HPM.out
    refine ⟨Below.refl _ _, by rw [List.length_drop, h1], by rcases hp2 with ⟨e1, e2⟩ | ⟨e1, e2⟩ <;> omega, by omega, ?_, ?_, World.ownsRow_nil w w.heap.size 9 1, rfl, gi_start HPD.out⟩
    · rcases hp2 with ⟨e1, e2⟩ | ⟨e1, e2⟩
      · exact .inl (by rw [List.length_drop]; omega)
      · rw [e1]
        by_cases hd : P < lb.length
        · exact sl_drop HB.out hd
        · exact .inl (by rw [List.length_drop]; omega)
    · intro b off e h0
      rw [List.length_drop] at h0
      rcases hp2 with ⟨e1, e2⟩ | ⟨e1, e2⟩
      · omega
      · rw [e1] at e
        exact map_low HB.out HLOW.out (by omega) e)
  have HLOOP : Hid (∃ p2 c2 l2, RgI w k n lb 0 l2 c2 0 p2 none (lb.drop P) [] w ∧ ((c = P ∧ p2 = p ∧ c2 = 0 ∧ l2 = 0) ∨ (c ≠ P ∧ p2 = (p.map fun x => x.add P) ∧ c2 = c - P ∧ l2 = m - P))) := Lib.hid (by
    by_cases hck : c = P
    · have e : m - P = 0 := by have := HPM.out; omega
      have h := HI0.out p 0 (.inl ⟨hck.symm, rfl⟩)
      rw [e] at h
      exact ⟨_, _, _, h, .inl ⟨hck, rfl, rfl, rfl⟩⟩
    · exact ⟨_, _, _, HI0.out _ _ (.inr ⟨rfl, rfl⟩), .inr ⟨hck, rfl, rfl, rfl⟩⟩)
  obtain ⟨p2, c2, l2, hI, hcase⟩ := HLOOP.out
  have HII := Lib.hid hI
  clear hb hkT hnm hI
  rcases hcase with ⟨hck, rfl, rfl, rfl⟩ | ⟨hck, hp2, rfl, rfl⟩
  · subst hck
    go_enter Tryz.func11, Tryz.ntmps11
    go_wp2_with fail
    refine (HT.out _).mono ?_
    rintro e w' ⟨rfl, rfl⟩
    go_wp2_with fail
    rw [hPi]
    go_loopw [9, 10, 11] (fun rv ov iv wr => ∃ (i ml cr cv : Nat) (pr pv : Option Addr) (lr : List UInt8) (ys : List (List UInt8)), i ≤ n ∧ iv = .int .i64 i ∧ rv = .slice pr ml cr ∧ ov = .slice pv i cv ∧ Hid (RgI w k n lb i ml cr cv pr pv lr ys wr)) (fun _ _ iv _ => n - (intOf iv).toNat)
    case atStart => exact ⟨0, 0, 0, 0, _, none, _, [], Nat.zero_le _, rfl, rfl, rfl, HII⟩
    case round =>
      obtain ⟨i, ml, cr, cv, pr, pv, lr, ys, hi9, rfl, rfl, rfl, HI⟩ := hrel
      have ii : (i : Int) ≤ (n : Int) := by omega
      by_cases hlt : i < n
      · have ilt : (i : Int) < (n : Int) := by omega
        obtain ⟨j, HJ⟩ : ∃ j, Hid (i / 8 = j) := ⟨_, rfl⟩
        obtain ⟨r, HR⟩ : ∃ r, Hid (i % 8 = r) := ⟨_, rfl⟩
        have hjm : j < lb.length := by rw [hm.out]; have := HJ.out; have := HPD.out; have := HPM.out; omega
        obtain ⟨b1, o1, d, e1, hb1, hc1, hd, hd255⟩ := (HB.out.below HI.out.below).at hjm
        subst e1
        obtain ⟨bt, HBT⟩ : ∃ bt, Hid ((lb.getD j 0).toNat.testBit r = bt) := ⟨_, rfl⟩
        have HBI : Hid ((lb.getD (i / 8) 0).toNat.testBit (i % 8) = bt) := Lib.hid (by rw [HJ.out, HR.out]; exact HBT.out)
        have hand : bits .and .u8 ((d : Int) / 2 ^ r) 1 = (if bt then 1 else 0) := by
          have h := bit_and (lb.getD j 0) r
          rw [HBT.out, hd.out] at h
          exact h
        have hdi : (i : Int) / 8 = (j : Int) := by have := HJ.out; omega
        have hmi : (i : Int) % 8 = (r : Int) := by have := HR.out; omega
        have ijm : (j : Int) < (m : Int) := by have := hm.out; omega
        have ijs : (j : Int) ≤ 512 := by have := HJ.out; omega
        have HML : Hid (lr.length = ml) := Lib.hid HI.out.len
        have HCAP : Hid (ml ≤ cr) := Lib.hid HI.out.cap
        have himl : (ml : Int) ≤ 1000000 := by have := HI.out.small; omega
        obtain ⟨wd, HWD⟩ : ∃ wd, Hid (widT k = wd) := ⟨_, rfl⟩
        have iwd : (wd : Int) ≤ 8 := by have := widT_le k; rw [HWD.out] at this; omega
        clear hb1 hd hjm
        cases bt with
        | false =>
          rw [if_neg (by simp)] at hand
          by_cases h5 : k = 5
          · have g5 : (k == 5) = true := by rw [h5]; rfl
            have H5 := Lib.hid h5
            clear h5
            by_cases hsw : ml < wd
            · have isw : (ml : Int) < (wd : Int) := by omega
              have HX : Hid (RgPost k n lb w (.returned (.tuple #[.slice none 0 0, .int .i64 5])) wr) := Lib.hid ⟨HI.out.below, .inr ⟨(gi_skip HI.out.gi hlt HPD.out HBI.out).1 (by rw [HML.out, HWD.out]; exact hsw), rfl⟩⟩
              go_wp2_with fail
              refine (rwidth_any k _).mono ?_
              rintro e w' ⟨rfl, rfl⟩
              rw [HWD.out]
              go_wp2_with fail
              go_ret2
              exact HX.out
            · have isw : ¬ (ml : Int) < (wd : Int) := by omega
              have HSZ : Hid (wd ≤ ml) := Lib.hid (by omega)
              have HB5 : Hid (Below wr.heap.size wr wr) := Lib.hid (Below.refl _ _)
              have HGN : Hid (GI k n lb (lr.drop wd) (ys ++ [[]]) (i + 1)) := Lib.hid (by have h := (gi_skip HI.out.gi hlt HPD.out HBI.out).2; rw [HWD.out] at h; exact h)
              go_wp2_with fail
              refine (rwidth_any k _).mono ?_
              rintro e w' ⟨rfl, rfl⟩
              rw [HWD.out]
              have HOU0 : Hid (wr.ownsRow w.heap.size 9 1 (.slice pv i cv) i (strs ys)) := Lib.hid (own_below HI.out.own HB5.out)
              obtain ⟨gU, HgU⟩ : ∃ g, Hid (wr.heap.size = g) := ⟨_, rfl⟩
              obtain ⟨U, HUU⟩ : ∃ U, Hid (wr.alloc (.cells #[.string ⟨([] : List UInt8).toArray⟩] 9) = U) := ⟨_, rfl⟩
              have HB5U : Hid (Below wr.heap.size wr U) := Lib.hid (by rw [← HUU.out]; exact (Below.refl _ _).alloc (Nat.le_refl _) _)
              have HOU : Hid (U.ownsRow w.heap.size 9 1 (.slice pv i cv) i (strs ys)) := Lib.hid (own_below HOU0.out HB5U.out)
              have HUC : Hid (U.cell? ⟨gU, 0, none⟩ = some (.string ⟨([] : List UInt8).toArray⟩)) := Lib.hid (by
                rw [← HUU.out, ← HgU.out]; have := heap_alloc_new wr (.cells #[.string ⟨([] : List UInt8).toArray⟩] 9); unfold World.cell?; simp only [this]; rfl)
              have HUS : Hid (w.heap.size ≤ U.heap.size) := Lib.hid (Nat.le_trans HI.out.below.size (Nat.le_trans HB5.out.size HB5U.out.size))
              have hi2 : i ≤ 100000 := by omega
              have iszm : (wd : Int) ≤ (ml : Int) := by have := HSZ.out; omega
              have iszc : (wd : Int) ≤ (cr : Int) := by have := HSZ.out; have := HCAP.out; omega
              by_cases hck : cr = wd
              · have hz0 : ml - wd = 0 := by have := HSZ.out; have := HCAP.out; omega
                have HCK := Lib.hid hck.symm
                go_wp2_with (first | (rw [HUU.out, HgU.out]; at_builtin; refine wpList_append_1s rfl (.tmp 99) (.tmp 101) rfl w.heap.size pv cv i ys rfl HOU.out gU ([] : List UInt8) rfl HUC.out hi2 HUS.out ?_) | (at_builtin; rw [HUU.out, HgU.out]; refine wpList_append_1s rfl (.tmp 99) (.tmp 101) rfl w.heap.size pv cv i ys rfl HOU.out gU ([] : List UInt8) rfl HUC.out hi2 HUS.out ?_))
                intro gv cv' w9 hown9 hg9
                have HI9 := Lib.hid (HI.out.next (p2 := pr) (c2 := 0) HB5.out HB5U.out HSZ.out (.inl ⟨HCK.out, rfl⟩) hown9 hg9 HGN.out)
                rw [hz0] at HI9
                obtain ⟨yn, HYN⟩ : ∃ yn, Hid (ys ++ [([] : List UInt8)] = yn) := ⟨_, rfl⟩
                obtain ⟨ln, HLN⟩ : ∃ ln, Hid (lr.drop wd = ln) := ⟨_, rfl⟩
                rw [HYN.out, HLN.out] at HI9
                clear hown9 hg9
                go_wp2_with fail
                go_roundw
                case rel => exact ⟨i + 1, 0, 0, cv', pr, some ⟨gv, 0, none⟩, ln, yn, by omega, by go_num, by first | rfl | go_num, by go_num, HI9⟩
                case measure => simp [intOf]; omega
              · have HCK := Lib.hid hck
                go_wp2_with (first | (rw [HUU.out, HgU.out]; at_builtin; refine wpList_append_1s rfl (.tmp 99) (.tmp 101) rfl w.heap.size pv cv i ys rfl HOU.out gU ([] : List UInt8) rfl HUC.out hi2 HUS.out ?_) | (at_builtin; rw [HUU.out, HgU.out]; refine wpList_append_1s rfl (.tmp 99) (.tmp 101) rfl w.heap.size pv cv i ys rfl HOU.out gU ([] : List UInt8) rfl HUC.out hi2 HUS.out ?_))
                intro gv cv' w9 hown9 hg9
                have HI9 := Lib.hid (HI.out.next (p2 := (pr.map fun x => x.add wd)) (c2 := (cr - wd)) HB5.out HB5U.out HSZ.out (.inr ⟨rfl, rfl⟩) hown9 hg9 HGN.out)
                obtain ⟨yn, HYN⟩ : ∃ yn, Hid (ys ++ [([] : List UInt8)] = yn) := ⟨_, rfl⟩
                obtain ⟨ln, HLN⟩ : ∃ ln, Hid (lr.drop wd = ln) := ⟨_, rfl⟩
                rw [HYN.out, HLN.out] at HI9
                clear hown9 hg9
                go_wp2_with fail
                go_roundw
                case rel => exact ⟨i + 1, (ml - wd), (cr - wd), cv', (pr.map fun x => x.add wd), some ⟨gv, 0, none⟩, ln, yn, by omega, by go_num, by first | rfl | go_num, by go_num, HI9⟩
                case measure => simp [intOf]; omega
          · have g5 : (k == 5) = false := by simpa using h5
            have H5 := Lib.hid h5
            clear h5
            by_cases hsw : ml < wd
            · have isw : (ml : Int) < (wd : Int) := by omega
              have HX : Hid (RgPost k n lb w (.returned (.tuple #[.slice none 0 0, .int .i64 5])) wr) := Lib.hid ⟨HI.out.below, .inr ⟨(gi_skip HI.out.gi hlt HPD.out HBI.out).1 (by rw [HML.out, HWD.out]; exact hsw), rfl⟩⟩
              go_wp2_with fail
              refine (rwidth_any k _).mono ?_
              rintro e w' ⟨rfl, rfl⟩
              rw [HWD.out]
              go_wp2_with fail
              go_ret2
              exact HX.out
            · have isw : ¬ (ml : Int) < (wd : Int) := by omega
              have HSZ : Hid (wd ≤ ml) := Lib.hid (by omega)
              have HB5 : Hid (Below wr.heap.size wr wr) := Lib.hid (Below.refl _ _)
              have HGN : Hid (GI k n lb (lr.drop wd) (ys ++ [[]]) (i + 1)) := Lib.hid (by have h := (gi_skip HI.out.gi hlt HPD.out HBI.out).2; rw [HWD.out] at h; exact h)
              go_wp2_with fail
              refine (rwidth_any k _).mono ?_
              rintro e w' ⟨rfl, rfl⟩
              rw [HWD.out]
              have HOU0 : Hid (wr.ownsRow w.heap.size 9 1 (.slice pv i cv) i (strs ys)) := Lib.hid (own_below HI.out.own HB5.out)
              obtain ⟨gU, HgU⟩ : ∃ g, Hid (wr.heap.size = g) := ⟨_, rfl⟩
              obtain ⟨U, HUU⟩ : ∃ U, Hid (wr.alloc (.cells #[.string ⟨([] : List UInt8).toArray⟩] 9) = U) := ⟨_, rfl⟩
              have HB5U : Hid (Below wr.heap.size wr U) := Lib.hid (by rw [← HUU.out]; exact (Below.refl _ _).alloc (Nat.le_refl _) _)
              have HOU : Hid (U.ownsRow w.heap.size 9 1 (.slice pv i cv) i (strs ys)) := Lib.hid (own_below HOU0.out HB5U.out)
              have HUC : Hid (U.cell? ⟨gU, 0, none⟩ = some (.string ⟨([] : List UInt8).toArray⟩)) := Lib.hid (by
                rw [← HUU.out, ← HgU.out]; have := heap_alloc_new wr (.cells #[.string ⟨([] : List UInt8).toArray⟩] 9); unfold World.cell?; simp only [this]; rfl)
              have HUS : Hid (w.heap.size ≤ U.heap.size) := Lib.hid (Nat.le_trans HI.out.below.size (Nat.le_trans HB5.out.size HB5U.out.size))
              have hi2 : i ≤ 100000 := by omega
              have iszm : (wd : Int) ≤ (ml : Int) := by have := HSZ.out; omega
              have iszc : (wd : Int) ≤ (cr : Int) := by have := HSZ.out; have := HCAP.out; omega
              by_cases hck : cr = wd
              · have hz0 : ml - wd = 0 := by have := HSZ.out; have := HCAP.out; omega
                have HCK := Lib.hid hck.symm
                go_wp2_with (first | (rw [HUU.out, HgU.out]; at_builtin; refine wpList_append_1s rfl (.tmp 99) (.tmp 101) rfl w.heap.size pv cv i ys rfl HOU.out gU ([] : List UInt8) rfl HUC.out hi2 HUS.out ?_) | (at_builtin; rw [HUU.out, HgU.out]; refine wpList_append_1s rfl (.tmp 99) (.tmp 101) rfl w.heap.size pv cv i ys rfl HOU.out gU ([] : List UInt8) rfl HUC.out hi2 HUS.out ?_))
                intro gv cv' w9 hown9 hg9
                have HI9 := Lib.hid (HI.out.next (p2 := pr) (c2 := 0) HB5.out HB5U.out HSZ.out (.inl ⟨HCK.out, rfl⟩) hown9 hg9 HGN.out)
                rw [hz0] at HI9
                obtain ⟨yn, HYN⟩ : ∃ yn, Hid (ys ++ [([] : List UInt8)] = yn) := ⟨_, rfl⟩
                obtain ⟨ln, HLN⟩ : ∃ ln, Hid (lr.drop wd = ln) := ⟨_, rfl⟩
                rw [HYN.out, HLN.out] at HI9
                clear hown9 hg9
                go_wp2_with fail
                go_roundw
                case rel => exact ⟨i + 1, 0, 0, cv', pr, some ⟨gv, 0, none⟩, ln, yn, by omega, by go_num, by first | rfl | go_num, by go_num, HI9⟩
                case measure => simp [intOf]; omega
              · have HCK := Lib.hid hck
                go_wp2_with (first | (rw [HUU.out, HgU.out]; at_builtin; refine wpList_append_1s rfl (.tmp 99) (.tmp 101) rfl w.heap.size pv cv i ys rfl HOU.out gU ([] : List UInt8) rfl HUC.out hi2 HUS.out ?_) | (at_builtin; rw [HUU.out, HgU.out]; refine wpList_append_1s rfl (.tmp 99) (.tmp 101) rfl w.heap.size pv cv i ys rfl HOU.out gU ([] : List UInt8) rfl HUC.out hi2 HUS.out ?_))
                intro gv cv' w9 hown9 hg9
                have HI9 := Lib.hid (HI.out.next (p2 := (pr.map fun x => x.add wd)) (c2 := (cr - wd)) HB5.out HB5U.out HSZ.out (.inr ⟨rfl, rfl⟩) hown9 hg9 HGN.out)
                obtain ⟨yn, HYN⟩ : ∃ yn, Hid (ys ++ [([] : List UInt8)] = yn) := ⟨_, rfl⟩
                obtain ⟨ln, HLN⟩ : ∃ ln, Hid (lr.drop wd = ln) := ⟨_, rfl⟩
                rw [HYN.out, HLN.out] at HI9
                clear hown9 hg9
                go_wp2_with fail
                go_roundw
                case rel => exact ⟨i + 1, (ml - wd), (cr - wd), cv', (pr.map fun x => x.add wd), some ⟨gv, 0, none⟩, ln, yn, by omega, by go_num, by first | rfl | go_num, by go_num, HI9⟩
                case measure => simp [intOf]; omega
        | true =>
          rw [if_pos rfl] at hand
          by_cases h5 : k = 5
          · have g5 : (k == 5) = true := by rw [h5]; rfl
            subst h5
            have HG := Lib.hid (gi_text HI.out.gi hlt HPD.out HBI.out)
            by_cases h1 : ml < 1
            · have i1 : (ml : Int) < 1 := by omega
              have HX : Hid (RgPost 5 n lb w (.returned (.tuple #[.slice none 0 0, .int .i64 5])) wr) := Lib.hid ⟨HI.out.below, .inr ⟨HG.out.1 (.inl (by rw [HML.out]; exact h1)), rfl⟩⟩
              go_wp2_with fail
              refine (rwidth_any 5 _).mono ?_
              rintro e w' ⟨rfl, rfl⟩
              rw [HWD.out]
              go_wp2_with fail
              go_ret2
              exact HX.out
            · have i1 : ¬ (ml : Int) < 1 := by omega
              obtain ⟨b2, o2, s0, e2, hb2, hc2, hs0, hs255⟩ := HI.out.rest.at (k := 0) (by rw [HML.out]; omega)
              rw [Nat.add_zero] at hc2
              have HS0 := Lib.hid hs0.out
              subst e2
              clear hb2 hs0
              by_cases h2 : ml < 1 + s0
              · have i2 : (ml : Int) < 1 + (s0 : Int) := by omega
                have HX : Hid (RgPost 5 n lb w (.returned (.tuple #[.slice none 0 0, .int .i64 5])) wr) := Lib.hid ⟨HI.out.below, .inr ⟨HG.out.1 (.inr (by rw [HML.out, HS0.out]; exact h2)), rfl⟩⟩
                go_wp2_with fail
                refine (rwidth_any 5 _).mono ?_
                rintro e w' ⟨rfl, rfl⟩
                rw [HWD.out]
                go_wp2_with fail
                go_ret2
                exact HX.out
              · have i2 : ¬ (ml : Int) < 1 + (s0 : Int) := by omega
                obtain ⟨sz, HSE⟩ : ∃ sz, Hid (1 + s0 = sz) := ⟨_, rfl⟩
                have hse : 1 + (s0 : Int) = (sz : Int) := by have := HSE.out; omega
                have HSZ : Hid (sz ≤ ml) := Lib.hid (by have := HSE.out; omega)
                have is1 : (1 : Int) ≤ (sz : Int) := by omega
                have isc : (sz : Int) ≤ (cr : Int) := by have := HSZ.out; have := HCAP.out; omega
                obtain ⟨T, HTT⟩ : ∃ T, Hid ((lr.drop 1).take s0 = T) := ⟨_, rfl⟩
                have HTL : Hid (T.length = sz - 1) := Lib.hid (by rw [← HTT.out, List.length_take, List.length_drop, HML.out]; have := HSE.out; have := HSZ.out; omega)
                have HVA := Lib.hid (fun W => rvalid_any ⟨T.toArray⟩ W)
                have HGN : Hid (GI 5 n lb (lr.drop sz) (ys ++ [T]) (i + 1)) := Lib.hid (by have h := HG.out.2.2; rw [HS0.out, HSE.out, HTT.out] at h; exact h)
                have HGV : Hid (num T = none → ∀ xs : List (List UInt8), xs.length = n → chkE 5 xs = 0 → putT 5 xs ≠ lb) := Lib.hid (by have h := HG.out.2.1; rw [HS0.out, HTT.out] at h; exact h)
                obtain ⟨vb, HVB⟩ : ∃ vb, Hid ((num T).isSome = vb) := ⟨_, rfl⟩
                have HVA2 : Hid (∀ W, Calls Tryz.prog 25 #[.string ⟨T.toArray⟩] W fun e w' => e = .returned (.bool vb) ∧ Below W.heap.size W w') := Lib.hid (fun W => by
                  have h := HVA.out W
                  simp only at h
                  rwa [HVB.out] at h)
                clear HVA h1 h2
                by_cases hc1 : cr = 1
                · have hs1 : sz - 1 = 0 := by have := HSZ.out; have := HCAP.out; omega
                  have hT0 : T = [] := List.eq_nil_of_length_eq_zero (by rw [HTL.out]; exact hs1)
                  have hcv : (convert 25 9 (.slice (some ⟨b2, o2, none⟩) 0 0)).run Tryz.prog wr = .ok (.string ⟨T.toArray⟩) wr := by
                    rw [hT0]
                    exact conv_bytes wr _ 0 [] (Bs.nil _ _)
                  clear hT0
                  have hq1 : cr ≤ 1 := by omega
                  have hq2 : 1 ≤ cr := by omega
                  have hq3 : sz ≤ 1 := by have := HSZ.out; have := HCAP.out; omega
                  have hq4 : 1 ≤ sz := by omega
                  have hq5 : ml ≤ 1 := by have := HCAP.out; omega
                  have hq6 : 1 ≤ ml := by have := HSZ.out; omega
                  go_wp2_with fail
                  refine (rwidth_any 5 _).mono ?_
                  rintro e w' ⟨rfl, rfl⟩
                  rw [HWD.out]
                  go_wp2_with fail
                  refine (HVA2.out _).mono ?_
                  rintro e w5 ⟨rfl, hb5⟩
                  have HB5 := Lib.hid hb5
                  clear hb5 hcv hs1 hc1
                  cases vb with
                  | false =>
                    have HX : Hid (RgPost 5 n lb w (.returned (.tuple #[.slice none 0 0, .int .i64 5])) w5) := Lib.hid ⟨HI.out.below.trans (HB5.out.mono HI.out.below.size), .inr ⟨HGV.out (by have h := HVB.out; simpa using h), rfl⟩⟩
                    go_wp2_with fail
                    go_ret2
                    exact HX.out
                  | true =>
                    have HOU0 : Hid (w5.ownsRow w.heap.size 9 1 (.slice pv i cv) i (strs ys)) := Lib.hid (own_below HI.out.own HB5.out)
                    obtain ⟨gU, HgU⟩ : ∃ g, Hid (w5.heap.size = g) := ⟨_, rfl⟩
                    obtain ⟨U, HUU⟩ : ∃ U, Hid (w5.alloc (.cells #[.string ⟨T.toArray⟩] 9) = U) := ⟨_, rfl⟩
                    have HB5U : Hid (Below w5.heap.size w5 U) := Lib.hid (by rw [← HUU.out]; exact (Below.refl _ _).alloc (Nat.le_refl _) _)
                    have HOU : Hid (U.ownsRow w.heap.size 9 1 (.slice pv i cv) i (strs ys)) := Lib.hid (own_below HOU0.out HB5U.out)
                    have HUC : Hid (U.cell? ⟨gU, 0, none⟩ = some (.string ⟨T.toArray⟩)) := Lib.hid (by
                      rw [← HUU.out, ← HgU.out]; have := heap_alloc_new w5 (.cells #[.string ⟨T.toArray⟩] 9); unfold World.cell?; simp only [this]; rfl)
                    have HUS : Hid (w.heap.size ≤ U.heap.size) := Lib.hid (Nat.le_trans HI.out.below.size (Nat.le_trans HB5.out.size HB5U.out.size))
                    have hi2 : i ≤ 100000 := by omega
                    have iszm : (sz : Int) ≤ (ml : Int) := by have := HSZ.out; omega
                    have iszc : (sz : Int) ≤ (cr : Int) := by have := HSZ.out; have := HCAP.out; omega
                    by_cases hck : cr = sz
                    · have hz0 : ml - sz = 0 := by have := HSZ.out; have := HCAP.out; omega
                      have HCK := Lib.hid hck.symm
                      go_wp2_with (first | (rw [HUU.out, HgU.out]; at_builtin; refine wpList_append_1s rfl (.tmp 99) (.tmp 101) rfl w.heap.size pv cv i ys rfl HOU.out gU T rfl HUC.out hi2 HUS.out ?_) | (at_builtin; rw [HUU.out, HgU.out]; refine wpList_append_1s rfl (.tmp 99) (.tmp 101) rfl w.heap.size pv cv i ys rfl HOU.out gU T rfl HUC.out hi2 HUS.out ?_))
                      intro gv cv' w9 hown9 hg9
                      have HI9 := Lib.hid (HI.out.next (p2 := some ⟨b2, o2, none⟩) (c2 := 0) HB5.out HB5U.out HSZ.out (.inl ⟨HCK.out, rfl⟩) hown9 hg9 HGN.out)
                      rw [hz0] at HI9
                      obtain ⟨yn, HYN⟩ : ∃ yn, Hid (ys ++ [T] = yn) := ⟨_, rfl⟩
                      obtain ⟨ln, HLN⟩ : ∃ ln, Hid (lr.drop sz = ln) := ⟨_, rfl⟩
                      rw [HYN.out, HLN.out] at HI9
                      clear hown9 hg9
                      go_wp2_with fail
                      go_roundw
                      case rel => exact ⟨i + 1, 0, 0, cv', some ⟨b2, o2, none⟩, some ⟨gv, 0, none⟩, ln, yn, by omega, by go_num, by first | rfl | go_num, by go_num, HI9⟩
                      case measure => simp [intOf]; omega
                    · exact absurd (show cr = sz by omega) hck
                · have hcv : (convert 25 9 (.slice (some ⟨b2, o2 + 1, none⟩) (sz - 1) (cr - 1))).run Tryz.prog wr = .ok (.string ⟨T.toArray⟩) wr := by
                    rw [← HTL.out]
                    refine conv_bytes wr _ (cr - 1) T ?_
                    by_cases hd : 1 < lr.length
                    · have h := sl_drop HI.out.rest hd
                      rw [← HTT.out]
                      exact bs_take h s0
                    · exact .inl (by rw [← HTT.out, List.length_take, List.length_drop]; omega)
                  go_wp2_with fail
                  refine (rwidth_any 5 _).mono ?_
                  rintro e w' ⟨rfl, rfl⟩
                  rw [HWD.out]
                  go_wp2_with fail
                  refine (HVA2.out _).mono ?_
                  rintro e w5 ⟨rfl, hb5⟩
                  have HB5 := Lib.hid hb5
                  clear hb5 hcv
                  cases vb with
                  | false =>
                    have HX : Hid (RgPost 5 n lb w (.returned (.tuple #[.slice none 0 0, .int .i64 5])) w5) := Lib.hid ⟨HI.out.below.trans (HB5.out.mono HI.out.below.size), .inr ⟨HGV.out (by have h := HVB.out; simpa using h), rfl⟩⟩
                    go_wp2_with fail
                    go_ret2
                    exact HX.out
                  | true =>
                    have HOU0 : Hid (w5.ownsRow w.heap.size 9 1 (.slice pv i cv) i (strs ys)) := Lib.hid (own_below HI.out.own HB5.out)
                    obtain ⟨gU, HgU⟩ : ∃ g, Hid (w5.heap.size = g) := ⟨_, rfl⟩
                    obtain ⟨U, HUU⟩ : ∃ U, Hid (w5.alloc (.cells #[.string ⟨T.toArray⟩] 9) = U) := ⟨_, rfl⟩
                    have HB5U : Hid (Below w5.heap.size w5 U) := Lib.hid (by rw [← HUU.out]; exact (Below.refl _ _).alloc (Nat.le_refl _) _)
                    have HOU : Hid (U.ownsRow w.heap.size 9 1 (.slice pv i cv) i (strs ys)) := Lib.hid (own_below HOU0.out HB5U.out)
                    have HUC : Hid (U.cell? ⟨gU, 0, none⟩ = some (.string ⟨T.toArray⟩)) := Lib.hid (by
                      rw [← HUU.out, ← HgU.out]; have := heap_alloc_new w5 (.cells #[.string ⟨T.toArray⟩] 9); unfold World.cell?; simp only [this]; rfl)
                    have HUS : Hid (w.heap.size ≤ U.heap.size) := Lib.hid (Nat.le_trans HI.out.below.size (Nat.le_trans HB5.out.size HB5U.out.size))
                    have hi2 : i ≤ 100000 := by omega
                    have iszm : (sz : Int) ≤ (ml : Int) := by have := HSZ.out; omega
                    have iszc : (sz : Int) ≤ (cr : Int) := by have := HSZ.out; have := HCAP.out; omega
                    by_cases hck : cr = sz
                    · have hz0 : ml - sz = 0 := by have := HSZ.out; have := HCAP.out; omega
                      have HCK := Lib.hid hck.symm
                      go_wp2_with (first | (rw [HUU.out, HgU.out]; at_builtin; refine wpList_append_1s rfl (.tmp 99) (.tmp 101) rfl w.heap.size pv cv i ys rfl HOU.out gU T rfl HUC.out hi2 HUS.out ?_) | (at_builtin; rw [HUU.out, HgU.out]; refine wpList_append_1s rfl (.tmp 99) (.tmp 101) rfl w.heap.size pv cv i ys rfl HOU.out gU T rfl HUC.out hi2 HUS.out ?_))
                      intro gv cv' w9 hown9 hg9
                      have HI9 := Lib.hid (HI.out.next (p2 := some ⟨b2, o2, none⟩) (c2 := 0) HB5.out HB5U.out HSZ.out (.inl ⟨HCK.out, rfl⟩) hown9 hg9 HGN.out)
                      rw [hz0] at HI9
                      obtain ⟨yn, HYN⟩ : ∃ yn, Hid (ys ++ [T] = yn) := ⟨_, rfl⟩
                      obtain ⟨ln, HLN⟩ : ∃ ln, Hid (lr.drop sz = ln) := ⟨_, rfl⟩
                      rw [HYN.out, HLN.out] at HI9
                      clear hown9 hg9
                      go_wp2_with fail
                      go_roundw
                      case rel => exact ⟨i + 1, 0, 0, cv', some ⟨b2, o2, none⟩, some ⟨gv, 0, none⟩, ln, yn, by omega, by go_num, by first | rfl | go_num, by go_num, HI9⟩
                      case measure => simp [intOf]; omega
                    · have HCK := Lib.hid hck
                      go_wp2_with (first | (rw [HUU.out, HgU.out]; at_builtin; refine wpList_append_1s rfl (.tmp 99) (.tmp 101) rfl w.heap.size pv cv i ys rfl HOU.out gU T rfl HUC.out hi2 HUS.out ?_) | (at_builtin; rw [HUU.out, HgU.out]; refine wpList_append_1s rfl (.tmp 99) (.tmp 101) rfl w.heap.size pv cv i ys rfl HOU.out gU T rfl HUC.out hi2 HUS.out ?_))
                      intro gv cv' w9 hown9 hg9
                      have HI9 := Lib.hid (HI.out.next (p2 := some ⟨b2, o2 + sz, none⟩) (c2 := (cr - sz)) HB5.out HB5U.out HSZ.out (.inr ⟨by rw [Option.map_some, add_lit], rfl⟩) hown9 hg9 HGN.out)
                      obtain ⟨yn, HYN⟩ : ∃ yn, Hid (ys ++ [T] = yn) := ⟨_, rfl⟩
                      obtain ⟨ln, HLN⟩ : ∃ ln, Hid (lr.drop sz = ln) := ⟨_, rfl⟩
                      rw [HYN.out, HLN.out] at HI9
                      clear hown9 hg9
                      go_wp2_with fail
                      go_roundw
                      case rel => exact ⟨i + 1, (ml - sz), (cr - sz), cv', some ⟨b2, o2 + sz, none⟩, some ⟨gv, 0, none⟩, ln, yn, by omega, by go_num, by first | rfl | go_num, by go_num, HI9⟩
                      case measure => simp [intOf]; omega
          · have g5 : (k == 5) = false := by simpa using h5
            have H5 := Lib.hid h5
            clear h5
            by_cases hsw : ml < wd
            · have isw : (ml : Int) < (wd : Int) := by omega
              have HX : Hid (RgPost k n lb w (.returned (.tuple #[.slice none 0 0, .int .i64 5])) wr) := Lib.hid ⟨HI.out.below, .inr ⟨(gi_int HI.out.gi hlt HPD.out HBI.out HK1.out.1 (by have := HK1.out.2; have := H5.out; omega)).1 (by rw [HML.out, HWD.out]; exact hsw), rfl⟩⟩
              go_wp2_with fail
              refine (rwidth_any k _).mono ?_
              rintro e w' ⟨rfl, rfl⟩
              rw [HWD.out]
              go_wp2_with fail
              go_ret2
              exact HX.out
            · have isw : ¬ (ml : Int) < (wd : Int) := by omega
              have HSZ : Hid (wd ≤ ml) := Lib.hid (by omega)
              have iwc : (wd : Int) ≤ (cr : Int) := by have := HCAP.out; omega
              obtain ⟨X, HXX⟩ : ∃ X, Hid (lr.take wd = X) := ⟨_, rfl⟩
              have HXL : Hid (X.length = wd) := Lib.hid (by rw [← HXX.out, List.length_take, HML.out]; omega)
              obtain ⟨N, HN⟩ : ∃ N, Hid (nb X = N) := ⟨_, rfl⟩
              have HRD := Lib.hid (bread_any pr cr X wr (by rw [HXL.out, ← HWD.out]; exact widT_le k) (by rw [← HXX.out]; exact bs_take HI.out.rest wd))
              rw [HXL.out, HN.out] at HRD
              have hw : wd = 1 ∨ wd = 2 ∨ wd = 4 ∨ wd = 8 := by
                have h : k = 1 ∨ k = 2 ∨ k = 3 ∨ k = 4 := by have := HK1.out; have := H5.out; omega
                rw [← HWD.out]
                rcases h with h | h | h | h
                · rw [h]; exact .inl rfl
                · rw [h]; exact .inr (.inl rfl)
                · rw [h]; exact .inr (.inr (.inl rfl))
                · rw [h]; exact .inr (.inr (.inr rfl))
              have HSG := Lib.hid (rsigned_any wd N wr hw (Lib.hid (by rw [← HN.out, ← HXL.out]; exact nb_lt X)))
              obtain ⟨T, HTT⟩ : ∃ T, Hid (Lib.itoa (sgI wd N) = T) := ⟨_, rfl⟩
              rw [HTT.out] at HSG
              have HGN : Hid (GI k n lb (lr.drop wd) (ys ++ [T]) (i + 1)) := Lib.hid (by have h := (gi_int HI.out.gi hlt HPD.out HBI.out HK1.out.1 (by have := HK1.out.2; have := H5.out; omega)).2; rw [HWD.out, HXX.out, HN.out, HTT.out] at h; exact h)
              clear hw
              go_wp2_with fail
              refine (rwidth_any k _).mono ?_
              rintro e w' ⟨rfl, rfl⟩
              rw [HWD.out]
              go_wp2_with fail
              refine (HRD.out).mono ?_
              rintro e w' ⟨rfl, rfl⟩
              go_wp2_with fail
              refine (HSG.out).mono ?_
              rintro e w5 ⟨rfl, hb5⟩
              have HB5 := Lib.hid hb5
              clear hb5
              have HOU0 : Hid (w5.ownsRow w.heap.size 9 1 (.slice pv i cv) i (strs ys)) := Lib.hid (own_below HI.out.own HB5.out)
              obtain ⟨gU, HgU⟩ : ∃ g, Hid (w5.heap.size = g) := ⟨_, rfl⟩
              obtain ⟨U, HUU⟩ : ∃ U, Hid (w5.alloc (.cells #[.string ⟨T.toArray⟩] 9) = U) := ⟨_, rfl⟩
              have HB5U : Hid (Below w5.heap.size w5 U) := Lib.hid (by rw [← HUU.out]; exact (Below.refl _ _).alloc (Nat.le_refl _) _)
              have HOU : Hid (U.ownsRow w.heap.size 9 1 (.slice pv i cv) i (strs ys)) := Lib.hid (own_below HOU0.out HB5U.out)
              have HUC : Hid (U.cell? ⟨gU, 0, none⟩ = some (.string ⟨T.toArray⟩)) := Lib.hid (by
                rw [← HUU.out, ← HgU.out]; have := heap_alloc_new w5 (.cells #[.string ⟨T.toArray⟩] 9); unfold World.cell?; simp only [this]; rfl)
              have HUS : Hid (w.heap.size ≤ U.heap.size) := Lib.hid (Nat.le_trans HI.out.below.size (Nat.le_trans HB5.out.size HB5U.out.size))
              have hi2 : i ≤ 100000 := by omega
              have iszm : (wd : Int) ≤ (ml : Int) := by have := HSZ.out; omega
              have iszc : (wd : Int) ≤ (cr : Int) := by have := HSZ.out; have := HCAP.out; omega
              by_cases hck : cr = wd
              · have hz0 : ml - wd = 0 := by have := HSZ.out; have := HCAP.out; omega
                have HCK := Lib.hid hck.symm
                go_wp2_with (first | (rw [HUU.out, HgU.out]; at_builtin; refine wpList_append_1s rfl (.tmp 99) (.tmp 101) rfl w.heap.size pv cv i ys rfl HOU.out gU T rfl HUC.out hi2 HUS.out ?_) | (at_builtin; rw [HUU.out, HgU.out]; refine wpList_append_1s rfl (.tmp 99) (.tmp 101) rfl w.heap.size pv cv i ys rfl HOU.out gU T rfl HUC.out hi2 HUS.out ?_))
                intro gv cv' w9 hown9 hg9
                have HI9 := Lib.hid (HI.out.next (p2 := pr) (c2 := 0) HB5.out HB5U.out HSZ.out (.inl ⟨HCK.out, rfl⟩) hown9 hg9 HGN.out)
                rw [hz0] at HI9
                obtain ⟨yn, HYN⟩ : ∃ yn, Hid (ys ++ [T] = yn) := ⟨_, rfl⟩
                obtain ⟨ln, HLN⟩ : ∃ ln, Hid (lr.drop wd = ln) := ⟨_, rfl⟩
                rw [HYN.out, HLN.out] at HI9
                clear hown9 hg9
                go_wp2_with fail
                go_roundw
                case rel => exact ⟨i + 1, 0, 0, cv', pr, some ⟨gv, 0, none⟩, ln, yn, by omega, by go_num, by first | rfl | go_num, by go_num, HI9⟩
                case measure => simp [intOf]; omega
              · have HCK := Lib.hid hck
                go_wp2_with (first | (rw [HUU.out, HgU.out]; at_builtin; refine wpList_append_1s rfl (.tmp 99) (.tmp 101) rfl w.heap.size pv cv i ys rfl HOU.out gU T rfl HUC.out hi2 HUS.out ?_) | (at_builtin; rw [HUU.out, HgU.out]; refine wpList_append_1s rfl (.tmp 99) (.tmp 101) rfl w.heap.size pv cv i ys rfl HOU.out gU T rfl HUC.out hi2 HUS.out ?_))
                intro gv cv' w9 hown9 hg9
                have HI9 := Lib.hid (HI.out.next (p2 := (pr.map fun x => x.add wd)) (c2 := (cr - wd)) HB5.out HB5U.out HSZ.out (.inr ⟨rfl, rfl⟩) hown9 hg9 HGN.out)
                obtain ⟨yn, HYN⟩ : ∃ yn, Hid (ys ++ [T] = yn) := ⟨_, rfl⟩
                obtain ⟨ln, HLN⟩ : ∃ ln, Hid (lr.drop wd = ln) := ⟨_, rfl⟩
                rw [HYN.out, HLN.out] at HI9
                clear hown9 hg9
                go_wp2_with fail
                go_roundw
                case rel => exact ⟨i + 1, (ml - wd), (cr - wd), cv', (pr.map fun x => x.add wd), some ⟨gv, 0, none⟩, ln, yn, by omega, by go_num, by first | rfl | go_num, by go_num, HI9⟩
                case measure => simp [intOf]; omega
      · obtain rfl : i = n := by omega
        have ilt : ¬ (i : Int) < (i : Int) := by omega
        have HYS : Hid (∀ xs : List (List UInt8), xs.length = i → chkE k xs = 0 → putT k xs = lb → ys = xs) := Lib.hid (fun xs hx hz hp => by
          have h := (HI.out.gi xs hx hz hp).2
          rwa [List.take_of_length_le (by omega)] at h)
        have HYL := Lib.hid HI.out.ylen
        have HYR : Hid (Ss wr pv ys) := Lib.hid (strs_reads HI.out.own HI.out.ylen)
        obtain ⟨z, HZ⟩ : ∃ z, Hid (chkE k ys = z) := ⟨_, rfl⟩
        by_cases hz : z = 0
        · subst hz
          have HPT := Lib.hid (rput_good k pv cv i ys wr HYL hn HYR.out HZ)
          go_wp2_with fail
          refine (HPT.out).mono ?_
          rintro e w2 ⟨v2, rfl, hg2⟩
          obtain ⟨p3, c3, rfl, hbs2, hc2⟩ := own_bytes hg2.own
          have HB2 : Hid (Below w.heap.size w w2) := Lib.hid (HI.out.below.trans (hg2.below.mono HI.out.below.size))
          have HS2 : Hid (Ss w2 pv ys) := Lib.hid (HYR.out.below hg2.below)
          have hcv1 := conv_bytes w2 p3 c3 (putT k ys) hbs2
          have hcv2 := conv_bytes w2 _ c lb (HB.out.below HB2.out)
          by_cases heq : putT k ys = lb
          · rw [heq] at hcv1 ⊢
            obtain ⟨X, HX⟩ : ∃ X : ByteArray, Hid (⟨lb.toArray⟩ = X) := ⟨_, rfl⟩
            rw [hm.out, HX.out] at hcv1 hcv2
            rw [hm.out]
            have HR : Hid (RgPost k i lb w (.returned (.tuple #[.slice pv i cv, .int .i64 0])) w2) := Lib.hid ⟨HB2.out, .inl ⟨ys, pv, cv, HYL.out, HZ.out, heq, rfl, HS2.out⟩⟩
            clear hg2 hbs2 heq
            go_wp2_with fail
            go_ret2
            exact HR.out
          · have h3 := ba_ne heq
            obtain ⟨X, HX⟩ : ∃ X : ByteArray, Hid (⟨lb.toArray⟩ = X) := ⟨_, rfl⟩
            obtain ⟨Y, HY⟩ : ∃ Y : ByteArray, Hid (⟨(putT k ys).toArray⟩ = Y) := ⟨_, rfl⟩
            obtain ⟨m2, HM2⟩ : ∃ m2, Hid ((putT k ys).length = m2) := ⟨_, rfl⟩
            rw [hm.out, HX.out] at hcv2
            rw [HM2.out, HY.out] at hcv1
            rw [HM2.out]
            rw [HX.out, HY.out] at h3
            have h4 : ¬ Y = X := h3
            have h5 : (Y.toList == X.toList) = false := by
              rw [Bool.eq_false_iff]
              intro e
              rw [beq_iff_eq] at e
              refine h4 ?_
              rw [← HX.out, ← HY.out] at e ⊢
              simp at e
              rw [e]
            have HR : Hid (RgPost k i lb w (.returned (.tuple #[.slice none 0 0, .int .i64 5])) w2) := Lib.hid ⟨HB2.out, .inr ⟨fun xs hx hz hp => heq (by rw [HYS.out xs hx hz hp]; exact hp), rfl⟩⟩
            clear hg2 hbs2 heq h3
            go_wp2_with fail
            go_ret2
            exact HR.out
        · have HPT := Lib.hid (rput_bad k pv cv i ys wr HYL hn HYR.out z HZ hz)
          have gz : (z != 0) = true := by rw [bne_iff_ne]; exact hz
          have HZN := Lib.hid hz
          clear hz
          go_wp2_with fail
          refine (HPT.out).mono ?_
          rintro e w2 ⟨rfl, hb2⟩
          have HR : Hid (RgPost k i lb w (.returned (.tuple #[.slice none 0 0, .int .i64 5])) w2) := Lib.hid ⟨HI.out.below.trans (hb2.mono HI.out.below.size), .inr ⟨fun xs hx hz hp => HZN.out (by rw [← HZ.out, HYS.out xs hx hz hp]; exact hz), rfl⟩⟩
          clear hb2
          go_wp2_with fail
          go_ret2
          exact HR.out
  · have HP2 := Lib.hid hp2
    clear hp2
    go_enter Tryz.func11, Tryz.ntmps11
    go_wp2_with fail
    refine (HT.out _).mono ?_
    rintro e w' ⟨rfl, rfl⟩
    go_wp2_with fail
    rw [hPi, ← HP2.out]
    go_loopw [9, 10, 11] (fun rv ov iv wr => ∃ (i ml cr cv : Nat) (pr pv : Option Addr) (lr : List UInt8) (ys : List (List UInt8)), i ≤ n ∧ iv = .int .i64 i ∧ rv = .slice pr ml cr ∧ ov = .slice pv i cv ∧ Hid (RgI w k n lb i ml cr cv pr pv lr ys wr)) (fun _ _ iv _ => n - (intOf iv).toNat)
    case atStart => exact ⟨0, _, _, 0, p2, none, _, [], Nat.zero_le _, rfl, rfl, rfl, HII⟩
    case round =>
      obtain ⟨i, ml, cr, cv, pr, pv, lr, ys, hi9, rfl, rfl, rfl, HI⟩ := hrel
      have ii : (i : Int) ≤ (n : Int) := by omega
      by_cases hlt : i < n
      · have ilt : (i : Int) < (n : Int) := by omega
        obtain ⟨j, HJ⟩ : ∃ j, Hid (i / 8 = j) := ⟨_, rfl⟩
        obtain ⟨r, HR⟩ : ∃ r, Hid (i % 8 = r) := ⟨_, rfl⟩
        have hjm : j < lb.length := by rw [hm.out]; have := HJ.out; have := HPD.out; have := HPM.out; omega
        obtain ⟨b1, o1, d, e1, hb1, hc1, hd, hd255⟩ := (HB.out.below HI.out.below).at hjm
        subst e1
        obtain ⟨bt, HBT⟩ : ∃ bt, Hid ((lb.getD j 0).toNat.testBit r = bt) := ⟨_, rfl⟩
        have HBI : Hid ((lb.getD (i / 8) 0).toNat.testBit (i % 8) = bt) := Lib.hid (by rw [HJ.out, HR.out]; exact HBT.out)
        have hand : bits .and .u8 ((d : Int) / 2 ^ r) 1 = (if bt then 1 else 0) := by
          have h := bit_and (lb.getD j 0) r
          rw [HBT.out, hd.out] at h
          exact h
        have hdi : (i : Int) / 8 = (j : Int) := by have := HJ.out; omega
        have hmi : (i : Int) % 8 = (r : Int) := by have := HR.out; omega
        have ijm : (j : Int) < (m : Int) := by have := hm.out; omega
        have ijs : (j : Int) ≤ 512 := by have := HJ.out; omega
        have HML : Hid (lr.length = ml) := Lib.hid HI.out.len
        have HCAP : Hid (ml ≤ cr) := Lib.hid HI.out.cap
        have himl : (ml : Int) ≤ 1000000 := by have := HI.out.small; omega
        obtain ⟨wd, HWD⟩ : ∃ wd, Hid (widT k = wd) := ⟨_, rfl⟩
        have iwd : (wd : Int) ≤ 8 := by have := widT_le k; rw [HWD.out] at this; omega
        clear hb1 hd hjm
        cases bt with
        | false =>
          rw [if_neg (by simp)] at hand
          by_cases h5 : k = 5
          · have g5 : (k == 5) = true := by rw [h5]; rfl
            have H5 := Lib.hid h5
            clear h5
            by_cases hsw : ml < wd
            · have isw : (ml : Int) < (wd : Int) := by omega
              have HX : Hid (RgPost k n lb w (.returned (.tuple #[.slice none 0 0, .int .i64 5])) wr) := Lib.hid ⟨HI.out.below, .inr ⟨(gi_skip HI.out.gi hlt HPD.out HBI.out).1 (by rw [HML.out, HWD.out]; exact hsw), rfl⟩⟩
              go_wp2_with fail
              refine (rwidth_any k _).mono ?_
              rintro e w' ⟨rfl, rfl⟩
              rw [HWD.out]
              go_wp2_with fail
              go_ret2
              exact HX.out
            · have isw : ¬ (ml : Int) < (wd : Int) := by omega
              have HSZ : Hid (wd ≤ ml) := Lib.hid (by omega)
              have HB5 : Hid (Below wr.heap.size wr wr) := Lib.hid (Below.refl _ _)
              have HGN : Hid (GI k n lb (lr.drop wd) (ys ++ [[]]) (i + 1)) := Lib.hid (by have h := (gi_skip HI.out.gi hlt HPD.out HBI.out).2; rw [HWD.out] at h; exact h)
              go_wp2_with fail
              refine (rwidth_any k _).mono ?_
              rintro e w' ⟨rfl, rfl⟩
              rw [HWD.out]
              have HOU0 : Hid (wr.ownsRow w.heap.size 9 1 (.slice pv i cv) i (strs ys)) := Lib.hid (own_below HI.out.own HB5.out)
              obtain ⟨gU, HgU⟩ : ∃ g, Hid (wr.heap.size = g) := ⟨_, rfl⟩
              obtain ⟨U, HUU⟩ : ∃ U, Hid (wr.alloc (.cells #[.string ⟨([] : List UInt8).toArray⟩] 9) = U) := ⟨_, rfl⟩
              have HB5U : Hid (Below wr.heap.size wr U) := Lib.hid (by rw [← HUU.out]; exact (Below.refl _ _).alloc (Nat.le_refl _) _)
              have HOU : Hid (U.ownsRow w.heap.size 9 1 (.slice pv i cv) i (strs ys)) := Lib.hid (own_below HOU0.out HB5U.out)
              have HUC : Hid (U.cell? ⟨gU, 0, none⟩ = some (.string ⟨([] : List UInt8).toArray⟩)) := Lib.hid (by
                rw [← HUU.out, ← HgU.out]; have := heap_alloc_new wr (.cells #[.string ⟨([] : List UInt8).toArray⟩] 9); unfold World.cell?; simp only [this]; rfl)
              have HUS : Hid (w.heap.size ≤ U.heap.size) := Lib.hid (Nat.le_trans HI.out.below.size (Nat.le_trans HB5.out.size HB5U.out.size))
              have hi2 : i ≤ 100000 := by omega
              have iszm : (wd : Int) ≤ (ml : Int) := by have := HSZ.out; omega
              have iszc : (wd : Int) ≤ (cr : Int) := by have := HSZ.out; have := HCAP.out; omega
              by_cases hck : cr = wd
              · have hz0 : ml - wd = 0 := by have := HSZ.out; have := HCAP.out; omega
                have HCK := Lib.hid hck.symm
                go_wp2_with (first | (rw [HUU.out, HgU.out]; at_builtin; refine wpList_append_1s rfl (.tmp 99) (.tmp 101) rfl w.heap.size pv cv i ys rfl HOU.out gU ([] : List UInt8) rfl HUC.out hi2 HUS.out ?_) | (at_builtin; rw [HUU.out, HgU.out]; refine wpList_append_1s rfl (.tmp 99) (.tmp 101) rfl w.heap.size pv cv i ys rfl HOU.out gU ([] : List UInt8) rfl HUC.out hi2 HUS.out ?_))
                intro gv cv' w9 hown9 hg9
                have HI9 := Lib.hid (HI.out.next (p2 := pr) (c2 := 0) HB5.out HB5U.out HSZ.out (.inl ⟨HCK.out, rfl⟩) hown9 hg9 HGN.out)
                rw [hz0] at HI9
                obtain ⟨yn, HYN⟩ : ∃ yn, Hid (ys ++ [([] : List UInt8)] = yn) := ⟨_, rfl⟩
                obtain ⟨ln, HLN⟩ : ∃ ln, Hid (lr.drop wd = ln) := ⟨_, rfl⟩
                rw [HYN.out, HLN.out] at HI9
                clear hown9 hg9
                go_wp2_with fail
                go_roundw
                case rel => exact ⟨i + 1, 0, 0, cv', pr, some ⟨gv, 0, none⟩, ln, yn, by omega, by go_num, by first | rfl | go_num, by go_num, HI9⟩
                case measure => simp [intOf]; omega
              · have HCK := Lib.hid hck
                go_wp2_with (first | (rw [HUU.out, HgU.out]; at_builtin; refine wpList_append_1s rfl (.tmp 99) (.tmp 101) rfl w.heap.size pv cv i ys rfl HOU.out gU ([] : List UInt8) rfl HUC.out hi2 HUS.out ?_) | (at_builtin; rw [HUU.out, HgU.out]; refine wpList_append_1s rfl (.tmp 99) (.tmp 101) rfl w.heap.size pv cv i ys rfl HOU.out gU ([] : List UInt8) rfl HUC.out hi2 HUS.out ?_))
                intro gv cv' w9 hown9 hg9
                have HI9 := Lib.hid (HI.out.next (p2 := (pr.map fun x => x.add wd)) (c2 := (cr - wd)) HB5.out HB5U.out HSZ.out (.inr ⟨rfl, rfl⟩) hown9 hg9 HGN.out)
                obtain ⟨yn, HYN⟩ : ∃ yn, Hid (ys ++ [([] : List UInt8)] = yn) := ⟨_, rfl⟩
                obtain ⟨ln, HLN⟩ : ∃ ln, Hid (lr.drop wd = ln) := ⟨_, rfl⟩
                rw [HYN.out, HLN.out] at HI9
                clear hown9 hg9
                go_wp2_with fail
                go_roundw
                case rel => exact ⟨i + 1, (ml - wd), (cr - wd), cv', (pr.map fun x => x.add wd), some ⟨gv, 0, none⟩, ln, yn, by omega, by go_num, by first | rfl | go_num, by go_num, HI9⟩
                case measure => simp [intOf]; omega
          · have g5 : (k == 5) = false := by simpa using h5
            have H5 := Lib.hid h5
            clear h5
            by_cases hsw : ml < wd
            · have isw : (ml : Int) < (wd : Int) := by omega
              have HX : Hid (RgPost k n lb w (.returned (.tuple #[.slice none 0 0, .int .i64 5])) wr) := Lib.hid ⟨HI.out.below, .inr ⟨(gi_skip HI.out.gi hlt HPD.out HBI.out).1 (by rw [HML.out, HWD.out]; exact hsw), rfl⟩⟩
              go_wp2_with fail
              refine (rwidth_any k _).mono ?_
              rintro e w' ⟨rfl, rfl⟩
              rw [HWD.out]
              go_wp2_with fail
              go_ret2
              exact HX.out
            · have isw : ¬ (ml : Int) < (wd : Int) := by omega
              have HSZ : Hid (wd ≤ ml) := Lib.hid (by omega)
              have HB5 : Hid (Below wr.heap.size wr wr) := Lib.hid (Below.refl _ _)
              have HGN : Hid (GI k n lb (lr.drop wd) (ys ++ [[]]) (i + 1)) := Lib.hid (by have h := (gi_skip HI.out.gi hlt HPD.out HBI.out).2; rw [HWD.out] at h; exact h)
              go_wp2_with fail
              refine (rwidth_any k _).mono ?_
              rintro e w' ⟨rfl, rfl⟩
              rw [HWD.out]
              have HOU0 : Hid (wr.ownsRow w.heap.size 9 1 (.slice pv i cv) i (strs ys)) := Lib.hid (own_below HI.out.own HB5.out)
              obtain ⟨gU, HgU⟩ : ∃ g, Hid (wr.heap.size = g) := ⟨_, rfl⟩
              obtain ⟨U, HUU⟩ : ∃ U, Hid (wr.alloc (.cells #[.string ⟨([] : List UInt8).toArray⟩] 9) = U) := ⟨_, rfl⟩
              have HB5U : Hid (Below wr.heap.size wr U) := Lib.hid (by rw [← HUU.out]; exact (Below.refl _ _).alloc (Nat.le_refl _) _)
              have HOU : Hid (U.ownsRow w.heap.size 9 1 (.slice pv i cv) i (strs ys)) := Lib.hid (own_below HOU0.out HB5U.out)
              have HUC : Hid (U.cell? ⟨gU, 0, none⟩ = some (.string ⟨([] : List UInt8).toArray⟩)) := Lib.hid (by
                rw [← HUU.out, ← HgU.out]; have := heap_alloc_new wr (.cells #[.string ⟨([] : List UInt8).toArray⟩] 9); unfold World.cell?; simp only [this]; rfl)
              have HUS : Hid (w.heap.size ≤ U.heap.size) := Lib.hid (Nat.le_trans HI.out.below.size (Nat.le_trans HB5.out.size HB5U.out.size))
              have hi2 : i ≤ 100000 := by omega
              have iszm : (wd : Int) ≤ (ml : Int) := by have := HSZ.out; omega
              have iszc : (wd : Int) ≤ (cr : Int) := by have := HSZ.out; have := HCAP.out; omega
              by_cases hck : cr = wd
              · have hz0 : ml - wd = 0 := by have := HSZ.out; have := HCAP.out; omega
                have HCK := Lib.hid hck.symm
                go_wp2_with (first | (rw [HUU.out, HgU.out]; at_builtin; refine wpList_append_1s rfl (.tmp 99) (.tmp 101) rfl w.heap.size pv cv i ys rfl HOU.out gU ([] : List UInt8) rfl HUC.out hi2 HUS.out ?_) | (at_builtin; rw [HUU.out, HgU.out]; refine wpList_append_1s rfl (.tmp 99) (.tmp 101) rfl w.heap.size pv cv i ys rfl HOU.out gU ([] : List UInt8) rfl HUC.out hi2 HUS.out ?_))
                intro gv cv' w9 hown9 hg9
                have HI9 := Lib.hid (HI.out.next (p2 := pr) (c2 := 0) HB5.out HB5U.out HSZ.out (.inl ⟨HCK.out, rfl⟩) hown9 hg9 HGN.out)
                rw [hz0] at HI9
                obtain ⟨yn, HYN⟩ : ∃ yn, Hid (ys ++ [([] : List UInt8)] = yn) := ⟨_, rfl⟩
                obtain ⟨ln, HLN⟩ : ∃ ln, Hid (lr.drop wd = ln) := ⟨_, rfl⟩
                rw [HYN.out, HLN.out] at HI9
                clear hown9 hg9
                go_wp2_with fail
                go_roundw
                case rel => exact ⟨i + 1, 0, 0, cv', pr, some ⟨gv, 0, none⟩, ln, yn, by omega, by go_num, by first | rfl | go_num, by go_num, HI9⟩
                case measure => simp [intOf]; omega
              · have HCK := Lib.hid hck
                go_wp2_with (first | (rw [HUU.out, HgU.out]; at_builtin; refine wpList_append_1s rfl (.tmp 99) (.tmp 101) rfl w.heap.size pv cv i ys rfl HOU.out gU ([] : List UInt8) rfl HUC.out hi2 HUS.out ?_) | (at_builtin; rw [HUU.out, HgU.out]; refine wpList_append_1s rfl (.tmp 99) (.tmp 101) rfl w.heap.size pv cv i ys rfl HOU.out gU ([] : List UInt8) rfl HUC.out hi2 HUS.out ?_))
                intro gv cv' w9 hown9 hg9
                have HI9 := Lib.hid (HI.out.next (p2 := (pr.map fun x => x.add wd)) (c2 := (cr - wd)) HB5.out HB5U.out HSZ.out (.inr ⟨rfl, rfl⟩) hown9 hg9 HGN.out)
                obtain ⟨yn, HYN⟩ : ∃ yn, Hid (ys ++ [([] : List UInt8)] = yn) := ⟨_, rfl⟩
                obtain ⟨ln, HLN⟩ : ∃ ln, Hid (lr.drop wd = ln) := ⟨_, rfl⟩
                rw [HYN.out, HLN.out] at HI9
                clear hown9 hg9
                go_wp2_with fail
                go_roundw
                case rel => exact ⟨i + 1, (ml - wd), (cr - wd), cv', (pr.map fun x => x.add wd), some ⟨gv, 0, none⟩, ln, yn, by omega, by go_num, by first | rfl | go_num, by go_num, HI9⟩
                case measure => simp [intOf]; omega
        | true =>
          rw [if_pos rfl] at hand
          by_cases h5 : k = 5
          · have g5 : (k == 5) = true := by rw [h5]; rfl
            subst h5
            have HG := Lib.hid (gi_text HI.out.gi hlt HPD.out HBI.out)
            by_cases h1 : ml < 1
            · have i1 : (ml : Int) < 1 := by omega
              have HX : Hid (RgPost 5 n lb w (.returned (.tuple #[.slice none 0 0, .int .i64 5])) wr) := Lib.hid ⟨HI.out.below, .inr ⟨HG.out.1 (.inl (by rw [HML.out]; exact h1)), rfl⟩⟩
              go_wp2_with fail
              refine (rwidth_any 5 _).mono ?_
              rintro e w' ⟨rfl, rfl⟩
              rw [HWD.out]
              go_wp2_with fail
              go_ret2
              exact HX.out
            · have i1 : ¬ (ml : Int) < 1 := by omega
              obtain ⟨b2, o2, s0, e2, hb2, hc2, hs0, hs255⟩ := HI.out.rest.at (k := 0) (by rw [HML.out]; omega)
              rw [Nat.add_zero] at hc2
              have HS0 := Lib.hid hs0.out
              subst e2
              clear hb2 hs0
              by_cases h2 : ml < 1 + s0
              · have i2 : (ml : Int) < 1 + (s0 : Int) := by omega
                have HX : Hid (RgPost 5 n lb w (.returned (.tuple #[.slice none 0 0, .int .i64 5])) wr) := Lib.hid ⟨HI.out.below, .inr ⟨HG.out.1 (.inr (by rw [HML.out, HS0.out]; exact h2)), rfl⟩⟩
                go_wp2_with fail
                refine (rwidth_any 5 _).mono ?_
                rintro e w' ⟨rfl, rfl⟩
                rw [HWD.out]
                go_wp2_with fail
                go_ret2
                exact HX.out
              · have i2 : ¬ (ml : Int) < 1 + (s0 : Int) := by omega
                obtain ⟨sz, HSE⟩ : ∃ sz, Hid (1 + s0 = sz) := ⟨_, rfl⟩
                have hse : 1 + (s0 : Int) = (sz : Int) := by have := HSE.out; omega
                have HSZ : Hid (sz ≤ ml) := Lib.hid (by have := HSE.out; omega)
                have is1 : (1 : Int) ≤ (sz : Int) := by omega
                have isc : (sz : Int) ≤ (cr : Int) := by have := HSZ.out; have := HCAP.out; omega
                obtain ⟨T, HTT⟩ : ∃ T, Hid ((lr.drop 1).take s0 = T) := ⟨_, rfl⟩
                have HTL : Hid (T.length = sz - 1) := Lib.hid (by rw [← HTT.out, List.length_take, List.length_drop, HML.out]; have := HSE.out; have := HSZ.out; omega)
                have HVA := Lib.hid (fun W => rvalid_any ⟨T.toArray⟩ W)
                have HGN : Hid (GI 5 n lb (lr.drop sz) (ys ++ [T]) (i + 1)) := Lib.hid (by have h := HG.out.2.2; rw [HS0.out, HSE.out, HTT.out] at h; exact h)
                have HGV : Hid (num T = none → ∀ xs : List (List UInt8), xs.length = n → chkE 5 xs = 0 → putT 5 xs ≠ lb) := Lib.hid (by have h := HG.out.2.1; rw [HS0.out, HTT.out] at h; exact h)
                obtain ⟨vb, HVB⟩ : ∃ vb, Hid ((num T).isSome = vb) := ⟨_, rfl⟩
                have HVA2 : Hid (∀ W, Calls Tryz.prog 25 #[.string ⟨T.toArray⟩] W fun e w' => e = .returned (.bool vb) ∧ Below W.heap.size W w') := Lib.hid (fun W => by
                  have h := HVA.out W
                  simp only at h
                  rwa [HVB.out] at h)
                clear HVA h1 h2
                by_cases hc1 : cr = 1
                · have hs1 : sz - 1 = 0 := by have := HSZ.out; have := HCAP.out; omega
                  have hT0 : T = [] := List.eq_nil_of_length_eq_zero (by rw [HTL.out]; exact hs1)
                  have hcv : (convert 25 9 (.slice (some ⟨b2, o2, none⟩) 0 0)).run Tryz.prog wr = .ok (.string ⟨T.toArray⟩) wr := by
                    rw [hT0]
                    exact conv_bytes wr _ 0 [] (Bs.nil _ _)
                  clear hT0
                  have hq1 : cr ≤ 1 := by omega
                  have hq2 : 1 ≤ cr := by omega
                  have hq3 : sz ≤ 1 := by have := HSZ.out; have := HCAP.out; omega
                  have hq4 : 1 ≤ sz := by omega
                  have hq5 : ml ≤ 1 := by have := HCAP.out; omega
                  have hq6 : 1 ≤ ml := by have := HSZ.out; omega
                  go_wp2_with fail
                  refine (rwidth_any 5 _).mono ?_
                  rintro e w' ⟨rfl, rfl⟩
                  rw [HWD.out]
                  go_wp2_with fail
                  refine (HVA2.out _).mono ?_
                  rintro e w5 ⟨rfl, hb5⟩
                  have HB5 := Lib.hid hb5
                  clear hb5 hcv hs1 hc1
                  cases vb with
                  | false =>
                    have HX : Hid (RgPost 5 n lb w (.returned (.tuple #[.slice none 0 0, .int .i64 5])) w5) := Lib.hid ⟨HI.out.below.trans (HB5.out.mono HI.out.below.size), .inr ⟨HGV.out (by have h := HVB.out; simpa using h), rfl⟩⟩
                    go_wp2_with fail
                    go_ret2
                    exact HX.out
                  | true =>
                    have HOU0 : Hid (w5.ownsRow w.heap.size 9 1 (.slice pv i cv) i (strs ys)) := Lib.hid (own_below HI.out.own HB5.out)
                    obtain ⟨gU, HgU⟩ : ∃ g, Hid (w5.heap.size = g) := ⟨_, rfl⟩
                    obtain ⟨U, HUU⟩ : ∃ U, Hid (w5.alloc (.cells #[.string ⟨T.toArray⟩] 9) = U) := ⟨_, rfl⟩
                    have HB5U : Hid (Below w5.heap.size w5 U) := Lib.hid (by rw [← HUU.out]; exact (Below.refl _ _).alloc (Nat.le_refl _) _)
                    have HOU : Hid (U.ownsRow w.heap.size 9 1 (.slice pv i cv) i (strs ys)) := Lib.hid (own_below HOU0.out HB5U.out)
                    have HUC : Hid (U.cell? ⟨gU, 0, none⟩ = some (.string ⟨T.toArray⟩)) := Lib.hid (by
                      rw [← HUU.out, ← HgU.out]; have := heap_alloc_new w5 (.cells #[.string ⟨T.toArray⟩] 9); unfold World.cell?; simp only [this]; rfl)
                    have HUS : Hid (w.heap.size ≤ U.heap.size) := Lib.hid (Nat.le_trans HI.out.below.size (Nat.le_trans HB5.out.size HB5U.out.size))
                    have hi2 : i ≤ 100000 := by omega
                    have iszm : (sz : Int) ≤ (ml : Int) := by have := HSZ.out; omega
                    have iszc : (sz : Int) ≤ (cr : Int) := by have := HSZ.out; have := HCAP.out; omega
                    by_cases hck : cr = sz
                    · have hz0 : ml - sz = 0 := by have := HSZ.out; have := HCAP.out; omega
                      have HCK := Lib.hid hck.symm
                      go_wp2_with (first | (rw [HUU.out, HgU.out]; at_builtin; refine wpList_append_1s rfl (.tmp 99) (.tmp 101) rfl w.heap.size pv cv i ys rfl HOU.out gU T rfl HUC.out hi2 HUS.out ?_) | (at_builtin; rw [HUU.out, HgU.out]; refine wpList_append_1s rfl (.tmp 99) (.tmp 101) rfl w.heap.size pv cv i ys rfl HOU.out gU T rfl HUC.out hi2 HUS.out ?_))
                      intro gv cv' w9 hown9 hg9
                      have HI9 := Lib.hid (HI.out.next (p2 := some ⟨b2, o2, none⟩) (c2 := 0) HB5.out HB5U.out HSZ.out (.inl ⟨HCK.out, rfl⟩) hown9 hg9 HGN.out)
                      rw [hz0] at HI9
                      obtain ⟨yn, HYN⟩ : ∃ yn, Hid (ys ++ [T] = yn) := ⟨_, rfl⟩
                      obtain ⟨ln, HLN⟩ : ∃ ln, Hid (lr.drop sz = ln) := ⟨_, rfl⟩
                      rw [HYN.out, HLN.out] at HI9
                      clear hown9 hg9
                      go_wp2_with fail
                      go_roundw
                      case rel => exact ⟨i + 1, 0, 0, cv', some ⟨b2, o2, none⟩, some ⟨gv, 0, none⟩, ln, yn, by omega, by go_num, by first | rfl | go_num, by go_num, HI9⟩
                      case measure => simp [intOf]; omega
                    · exact absurd (show cr = sz by omega) hck
                · have hcv : (convert 25 9 (.slice (some ⟨b2, o2 + 1, none⟩) (sz - 1) (cr - 1))).run Tryz.prog wr = .ok (.string ⟨T.toArray⟩) wr := by
                    rw [← HTL.out]
                    refine conv_bytes wr _ (cr - 1) T ?_
                    by_cases hd : 1 < lr.length
                    · have h := sl_drop HI.out.rest hd
                      rw [← HTT.out]
                      exact bs_take h s0
                    · exact .inl (by rw [← HTT.out, List.length_take, List.length_drop]; omega)
                  go_wp2_with fail
                  refine (rwidth_any 5 _).mono ?_
                  rintro e w' ⟨rfl, rfl⟩
                  rw [HWD.out]
                  go_wp2_with fail
                  refine (HVA2.out _).mono ?_
                  rintro e w5 ⟨rfl, hb5⟩
                  have HB5 := Lib.hid hb5
                  clear hb5 hcv
                  cases vb with
                  | false =>
                    have HX : Hid (RgPost 5 n lb w (.returned (.tuple #[.slice none 0 0, .int .i64 5])) w5) := Lib.hid ⟨HI.out.below.trans (HB5.out.mono HI.out.below.size), .inr ⟨HGV.out (by have h := HVB.out; simpa using h), rfl⟩⟩
                    go_wp2_with fail
                    go_ret2
                    exact HX.out
                  | true =>
                    have HOU0 : Hid (w5.ownsRow w.heap.size 9 1 (.slice pv i cv) i (strs ys)) := Lib.hid (own_below HI.out.own HB5.out)
                    obtain ⟨gU, HgU⟩ : ∃ g, Hid (w5.heap.size = g) := ⟨_, rfl⟩
                    obtain ⟨U, HUU⟩ : ∃ U, Hid (w5.alloc (.cells #[.string ⟨T.toArray⟩] 9) = U) := ⟨_, rfl⟩
                    have HB5U : Hid (Below w5.heap.size w5 U) := Lib.hid (by rw [← HUU.out]; exact (Below.refl _ _).alloc (Nat.le_refl _) _)
                    have HOU : Hid (U.ownsRow w.heap.size 9 1 (.slice pv i cv) i (strs ys)) := Lib.hid (own_below HOU0.out HB5U.out)
                    have HUC : Hid (U.cell? ⟨gU, 0, none⟩ = some (.string ⟨T.toArray⟩)) := Lib.hid (by
                      rw [← HUU.out, ← HgU.out]; have := heap_alloc_new w5 (.cells #[.string ⟨T.toArray⟩] 9); unfold World.cell?; simp only [this]; rfl)
                    have HUS : Hid (w.heap.size ≤ U.heap.size) := Lib.hid (Nat.le_trans HI.out.below.size (Nat.le_trans HB5.out.size HB5U.out.size))
                    have hi2 : i ≤ 100000 := by omega
                    have iszm : (sz : Int) ≤ (ml : Int) := by have := HSZ.out; omega
                    have iszc : (sz : Int) ≤ (cr : Int) := by have := HSZ.out; have := HCAP.out; omega
                    by_cases hck : cr = sz
                    · have hz0 : ml - sz = 0 := by have := HSZ.out; have := HCAP.out; omega
                      have HCK := Lib.hid hck.symm
                      go_wp2_with (first | (rw [HUU.out, HgU.out]; at_builtin; refine wpList_append_1s rfl (.tmp 99) (.tmp 101) rfl w.heap.size pv cv i ys rfl HOU.out gU T rfl HUC.out hi2 HUS.out ?_) | (at_builtin; rw [HUU.out, HgU.out]; refine wpList_append_1s rfl (.tmp 99) (.tmp 101) rfl w.heap.size pv cv i ys rfl HOU.out gU T rfl HUC.out hi2 HUS.out ?_))
                      intro gv cv' w9 hown9 hg9
                      have HI9 := Lib.hid (HI.out.next (p2 := some ⟨b2, o2, none⟩) (c2 := 0) HB5.out HB5U.out HSZ.out (.inl ⟨HCK.out, rfl⟩) hown9 hg9 HGN.out)
                      rw [hz0] at HI9
                      obtain ⟨yn, HYN⟩ : ∃ yn, Hid (ys ++ [T] = yn) := ⟨_, rfl⟩
                      obtain ⟨ln, HLN⟩ : ∃ ln, Hid (lr.drop sz = ln) := ⟨_, rfl⟩
                      rw [HYN.out, HLN.out] at HI9
                      clear hown9 hg9
                      go_wp2_with fail
                      go_roundw
                      case rel => exact ⟨i + 1, 0, 0, cv', some ⟨b2, o2, none⟩, some ⟨gv, 0, none⟩, ln, yn, by omega, by go_num, by first | rfl | go_num, by go_num, HI9⟩
                      case measure => simp [intOf]; omega
                    · have HCK := Lib.hid hck
                      go_wp2_with (first | (rw [HUU.out, HgU.out]; at_builtin; refine wpList_append_1s rfl (.tmp 99) (.tmp 101) rfl w.heap.size pv cv i ys rfl HOU.out gU T rfl HUC.out hi2 HUS.out ?_) | (at_builtin; rw [HUU.out, HgU.out]; refine wpList_append_1s rfl (.tmp 99) (.tmp 101) rfl w.heap.size pv cv i ys rfl HOU.out gU T rfl HUC.out hi2 HUS.out ?_))
                      intro gv cv' w9 hown9 hg9
                      have HI9 := Lib.hid (HI.out.next (p2 := some ⟨b2, o2 + sz, none⟩) (c2 := (cr - sz)) HB5.out HB5U.out HSZ.out (.inr ⟨by rw [Option.map_some, add_lit], rfl⟩) hown9 hg9 HGN.out)
                      obtain ⟨yn, HYN⟩ : ∃ yn, Hid (ys ++ [T] = yn) := ⟨_, rfl⟩
                      obtain ⟨ln, HLN⟩ : ∃ ln, Hid (lr.drop sz = ln) := ⟨_, rfl⟩
                      rw [HYN.out, HLN.out] at HI9
                      clear hown9 hg9
                      go_wp2_with fail
                      go_roundw
                      case rel => exact ⟨i + 1, (ml - sz), (cr - sz), cv', some ⟨b2, o2 + sz, none⟩, some ⟨gv, 0, none⟩, ln, yn, by omega, by go_num, by first | rfl | go_num, by go_num, HI9⟩
                      case measure => simp [intOf]; omega
          · have g5 : (k == 5) = false := by simpa using h5
            have H5 := Lib.hid h5
            clear h5
            by_cases hsw : ml < wd
            · have isw : (ml : Int) < (wd : Int) := by omega
              have HX : Hid (RgPost k n lb w (.returned (.tuple #[.slice none 0 0, .int .i64 5])) wr) := Lib.hid ⟨HI.out.below, .inr ⟨(gi_int HI.out.gi hlt HPD.out HBI.out HK1.out.1 (by have := HK1.out.2; have := H5.out; omega)).1 (by rw [HML.out, HWD.out]; exact hsw), rfl⟩⟩
              go_wp2_with fail
              refine (rwidth_any k _).mono ?_
              rintro e w' ⟨rfl, rfl⟩
              rw [HWD.out]
              go_wp2_with fail
              go_ret2
              exact HX.out
            · have isw : ¬ (ml : Int) < (wd : Int) := by omega
              have HSZ : Hid (wd ≤ ml) := Lib.hid (by omega)
              have iwc : (wd : Int) ≤ (cr : Int) := by have := HCAP.out; omega
              obtain ⟨X, HXX⟩ : ∃ X, Hid (lr.take wd = X) := ⟨_, rfl⟩
              have HXL : Hid (X.length = wd) := Lib.hid (by rw [← HXX.out, List.length_take, HML.out]; omega)
              obtain ⟨N, HN⟩ : ∃ N, Hid (nb X = N) := ⟨_, rfl⟩
              have HRD := Lib.hid (bread_any pr cr X wr (by rw [HXL.out, ← HWD.out]; exact widT_le k) (by rw [← HXX.out]; exact bs_take HI.out.rest wd))
              rw [HXL.out, HN.out] at HRD
              have hw : wd = 1 ∨ wd = 2 ∨ wd = 4 ∨ wd = 8 := by
                have h : k = 1 ∨ k = 2 ∨ k = 3 ∨ k = 4 := by have := HK1.out; have := H5.out; omega
                rw [← HWD.out]
                rcases h with h | h | h | h
                · rw [h]; exact .inl rfl
                · rw [h]; exact .inr (.inl rfl)
                · rw [h]; exact .inr (.inr (.inl rfl))
                · rw [h]; exact .inr (.inr (.inr rfl))
              have HSG := Lib.hid (rsigned_any wd N wr hw (Lib.hid (by rw [← HN.out, ← HXL.out]; exact nb_lt X)))
              obtain ⟨T, HTT⟩ : ∃ T, Hid (Lib.itoa (sgI wd N) = T) := ⟨_, rfl⟩
              rw [HTT.out] at HSG
              have HGN : Hid (GI k n lb (lr.drop wd) (ys ++ [T]) (i + 1)) := Lib.hid (by have h := (gi_int HI.out.gi hlt HPD.out HBI.out HK1.out.1 (by have := HK1.out.2; have := H5.out; omega)).2; rw [HWD.out, HXX.out, HN.out, HTT.out] at h; exact h)
              clear hw
              go_wp2_with fail
              refine (rwidth_any k _).mono ?_
              rintro e w' ⟨rfl, rfl⟩
              rw [HWD.out]
              go_wp2_with fail
              refine (HRD.out).mono ?_
              rintro e w' ⟨rfl, rfl⟩
              go_wp2_with fail
              refine (HSG.out).mono ?_
              rintro e w5 ⟨rfl, hb5⟩
              have HB5 := Lib.hid hb5
              clear hb5
              have HOU0 : Hid (w5.ownsRow w.heap.size 9 1 (.slice pv i cv) i (strs ys)) := Lib.hid (own_below HI.out.own HB5.out)
              obtain ⟨gU, HgU⟩ : ∃ g, Hid (w5.heap.size = g) := ⟨_, rfl⟩
              obtain ⟨U, HUU⟩ : ∃ U, Hid (w5.alloc (.cells #[.string ⟨T.toArray⟩] 9) = U) := ⟨_, rfl⟩
              have HB5U : Hid (Below w5.heap.size w5 U) := Lib.hid (by rw [← HUU.out]; exact (Below.refl _ _).alloc (Nat.le_refl _) _)
              have HOU : Hid (U.ownsRow w.heap.size 9 1 (.slice pv i cv) i (strs ys)) := Lib.hid (own_below HOU0.out HB5U.out)
              have HUC : Hid (U.cell? ⟨gU, 0, none⟩ = some (.string ⟨T.toArray⟩)) := Lib.hid (by
                rw [← HUU.out, ← HgU.out]; have := heap_alloc_new w5 (.cells #[.string ⟨T.toArray⟩] 9); unfold World.cell?; simp only [this]; rfl)
              have HUS : Hid (w.heap.size ≤ U.heap.size) := Lib.hid (Nat.le_trans HI.out.below.size (Nat.le_trans HB5.out.size HB5U.out.size))
              have hi2 : i ≤ 100000 := by omega
              have iszm : (wd : Int) ≤ (ml : Int) := by have := HSZ.out; omega
              have iszc : (wd : Int) ≤ (cr : Int) := by have := HSZ.out; have := HCAP.out; omega
              by_cases hck : cr = wd
              · have hz0 : ml - wd = 0 := by have := HSZ.out; have := HCAP.out; omega
                have HCK := Lib.hid hck.symm
                go_wp2_with (first | (rw [HUU.out, HgU.out]; at_builtin; refine wpList_append_1s rfl (.tmp 99) (.tmp 101) rfl w.heap.size pv cv i ys rfl HOU.out gU T rfl HUC.out hi2 HUS.out ?_) | (at_builtin; rw [HUU.out, HgU.out]; refine wpList_append_1s rfl (.tmp 99) (.tmp 101) rfl w.heap.size pv cv i ys rfl HOU.out gU T rfl HUC.out hi2 HUS.out ?_))
                intro gv cv' w9 hown9 hg9
                have HI9 := Lib.hid (HI.out.next (p2 := pr) (c2 := 0) HB5.out HB5U.out HSZ.out (.inl ⟨HCK.out, rfl⟩) hown9 hg9 HGN.out)
                rw [hz0] at HI9
                obtain ⟨yn, HYN⟩ : ∃ yn, Hid (ys ++ [T] = yn) := ⟨_, rfl⟩
                obtain ⟨ln, HLN⟩ : ∃ ln, Hid (lr.drop wd = ln) := ⟨_, rfl⟩
                rw [HYN.out, HLN.out] at HI9
                clear hown9 hg9
                go_wp2_with fail
                go_roundw
                case rel => exact ⟨i + 1, 0, 0, cv', pr, some ⟨gv, 0, none⟩, ln, yn, by omega, by go_num, by first | rfl | go_num, by go_num, HI9⟩
                case measure => simp [intOf]; omega
              · have HCK := Lib.hid hck
                go_wp2_with (first | (rw [HUU.out, HgU.out]; at_builtin; refine wpList_append_1s rfl (.tmp 99) (.tmp 101) rfl w.heap.size pv cv i ys rfl HOU.out gU T rfl HUC.out hi2 HUS.out ?_) | (at_builtin; rw [HUU.out, HgU.out]; refine wpList_append_1s rfl (.tmp 99) (.tmp 101) rfl w.heap.size pv cv i ys rfl HOU.out gU T rfl HUC.out hi2 HUS.out ?_))
                intro gv cv' w9 hown9 hg9
                have HI9 := Lib.hid (HI.out.next (p2 := (pr.map fun x => x.add wd)) (c2 := (cr - wd)) HB5.out HB5U.out HSZ.out (.inr ⟨rfl, rfl⟩) hown9 hg9 HGN.out)
                obtain ⟨yn, HYN⟩ : ∃ yn, Hid (ys ++ [T] = yn) := ⟨_, rfl⟩
                obtain ⟨ln, HLN⟩ : ∃ ln, Hid (lr.drop wd = ln) := ⟨_, rfl⟩
                rw [HYN.out, HLN.out] at HI9
                clear hown9 hg9
                go_wp2_with fail
                go_roundw
                case rel => exact ⟨i + 1, (ml - wd), (cr - wd), cv', (pr.map fun x => x.add wd), some ⟨gv, 0, none⟩, ln, yn, by omega, by go_num, by first | rfl | go_num, by go_num, HI9⟩
                case measure => simp [intOf]; omega
      · obtain rfl : i = n := by omega
        have ilt : ¬ (i : Int) < (i : Int) := by omega
        have HYS : Hid (∀ xs : List (List UInt8), xs.length = i → chkE k xs = 0 → putT k xs = lb → ys = xs) := Lib.hid (fun xs hx hz hp => by
          have h := (HI.out.gi xs hx hz hp).2
          rwa [List.take_of_length_le (by omega)] at h)
        have HYL := Lib.hid HI.out.ylen
        have HYR : Hid (Ss wr pv ys) := Lib.hid (strs_reads HI.out.own HI.out.ylen)
        obtain ⟨z, HZ⟩ : ∃ z, Hid (chkE k ys = z) := ⟨_, rfl⟩
        by_cases hz : z = 0
        · subst hz
          have HPT := Lib.hid (rput_good k pv cv i ys wr HYL hn HYR.out HZ)
          go_wp2_with fail
          refine (HPT.out).mono ?_
          rintro e w2 ⟨v2, rfl, hg2⟩
          obtain ⟨p3, c3, rfl, hbs2, hc2⟩ := own_bytes hg2.own
          have HB2 : Hid (Below w.heap.size w w2) := Lib.hid (HI.out.below.trans (hg2.below.mono HI.out.below.size))
          have HS2 : Hid (Ss w2 pv ys) := Lib.hid (HYR.out.below hg2.below)
          have hcv1 := conv_bytes w2 p3 c3 (putT k ys) hbs2
          have hcv2 := conv_bytes w2 _ c lb (HB.out.below HB2.out)
          by_cases heq : putT k ys = lb
          · rw [heq] at hcv1 ⊢
            obtain ⟨X, HX⟩ : ∃ X : ByteArray, Hid (⟨lb.toArray⟩ = X) := ⟨_, rfl⟩
            rw [hm.out, HX.out] at hcv1 hcv2
            rw [hm.out]
            have HR : Hid (RgPost k i lb w (.returned (.tuple #[.slice pv i cv, .int .i64 0])) w2) := Lib.hid ⟨HB2.out, .inl ⟨ys, pv, cv, HYL.out, HZ.out, heq, rfl, HS2.out⟩⟩
            clear hg2 hbs2 heq
            go_wp2_with fail
            go_ret2
            exact HR.out
          · have h3 := ba_ne heq
            obtain ⟨X, HX⟩ : ∃ X : ByteArray, Hid (⟨lb.toArray⟩ = X) := ⟨_, rfl⟩
            obtain ⟨Y, HY⟩ : ∃ Y : ByteArray, Hid (⟨(putT k ys).toArray⟩ = Y) := ⟨_, rfl⟩
            obtain ⟨m2, HM2⟩ : ∃ m2, Hid ((putT k ys).length = m2) := ⟨_, rfl⟩
            rw [hm.out, HX.out] at hcv2
            rw [HM2.out, HY.out] at hcv1
            rw [HM2.out]
            rw [HX.out, HY.out] at h3
            have h4 : ¬ Y = X := h3
            have h5 : (Y.toList == X.toList) = false := by
              rw [Bool.eq_false_iff]
              intro e
              rw [beq_iff_eq] at e
              refine h4 ?_
              rw [← HX.out, ← HY.out] at e ⊢
              simp at e
              rw [e]
            have HR : Hid (RgPost k i lb w (.returned (.tuple #[.slice none 0 0, .int .i64 5])) w2) := Lib.hid ⟨HB2.out, .inr ⟨fun xs hx hz hp => heq (by rw [HYS.out xs hx hz hp]; exact hp), rfl⟩⟩
            clear hg2 hbs2 heq h3
            go_wp2_with fail
            go_ret2
            exact HR.out
        · have HPT := Lib.hid (rput_bad k pv cv i ys wr HYL hn HYR.out z HZ hz)
          have gz : (z != 0) = true := by rw [bne_iff_ne]; exact hz
          have HZN := Lib.hid hz
          clear hz
          go_wp2_with fail
          refine (HPT.out).mono ?_
          rintro e w2 ⟨rfl, hb2⟩
          have HR : Hid (RgPost k i lb w (.returned (.tuple #[.slice none 0 0, .int .i64 5])) w2) := Lib.hid ⟨HI.out.below.trans (hb2.mono HI.out.below.size), .inr ⟨fun xs hx hz hp => HZN.out (by rw [← HZ.out, HYS.out xs hx hz hp]; exact hz), rfl⟩⟩
          clear hb2
          go_wp2_with fail
          go_ret2
          exact HR.out
end Go.Proofs.YtaedmojkoioifaaGreatDoor
