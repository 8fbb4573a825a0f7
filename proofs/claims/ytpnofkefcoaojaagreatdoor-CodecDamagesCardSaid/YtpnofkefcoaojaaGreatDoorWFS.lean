/- The program's next: the memory, the look-up, the row of places. -/
import Derived.Test.YtpnofkefcoaojaaGreatDoorKC
import Derived.Test.YtpnofkefcoaojaaGreatDoorWFQ
import Derived.Test.YtpnofkefcoaojaaGreatDoorWFK
namespace Go.Proofs.YtpnofkefcoaojaaGreatDoor
open Go.RowKit Go.Maps Go.ChangeShapes Go.Shelf
open Go.Lib
variable {base b n : Nat} {D : DataW Unit} {W W' w : World}
theorem groups_look {key : Value} {kl : Lit} (h : w.ownsGroups Tryz.prog 79 base 3 .i64 b n D) (hn : n < maxLen) (hkey : keyOf Tryz.prog 79 key = some kl) :
    ∃ v zs, D.atKey kl .nil = rowDatum .i64 v zs ∧ w.ownsInts base 3 .i64 v zs ∧ zs.length ≤ n ∧ ∀ W, Below w.heap.size w W → (Instr.lookup 150 (.map (some b)) key false).run Tryz.prog W = .ok v W := by
  have K := Keyed.of_law law84
  have look : ∀ {es : Array MapEntry} {clock : Nat} {R : Value → Option (DataW Unit × List MemPlace)} (W : World), W.heap[b]? = some (.map es clock) → Go.WideElems.Fit Tryz.prog 79 R es clock → ∀ v, (Instr.lookup 150 (.map (some b)) key false).run Tryz.prog W = .ok v W → ((∀ x ∈ es.toList, x.key ≠ key) ∧ v = .slice none 0 0) ∨ ∃ e0 ∈ es.toList, e0.key = key ∧ v = e0.val := by
    intro es clock R W hb F v hv
    rcases Maps.fit_look false K Tryz.underlying150 (zero86 W) hb F hkey with ⟨hrun, hno, _⟩ | ⟨e0, y, hm0, h3, hrun, _⟩
    · rw [hv] at hrun
      exact .inl ⟨hno, by simpa using hrun⟩
    · rw [hv] at hrun
      exact .inr ⟨e0, hm0, h3, by simpa using hrun⟩
  obtain ⟨v, zs, hrun, hat, ho, hl, _⟩ := h.at K Tryz.underlying150 (zero86 w) hn hkey
  refine ⟨v, zs, hat, ho, hl, fun W hW => ?_⟩
  have hO := groups_next h hW
  obtain ⟨v2, _, hrun2, _⟩ := hO.at K Tryz.underlying150 (zero86 W) hn hkey
  obtain ⟨es, clock, hb, F, _⟩ := h
  obtain ⟨es2, clock2, hb2, F2, _⟩ := hO
  have hb3 := (hW.block b (Array.getElem?_eq_some_iff.1 hb).1).trans hb
  obtain ⟨rfl, rfl⟩ : es = es2 ∧ clock = clock2 := by rw [hb2] at hb3; simp only [Option.some.injEq, Obj.map.injEq] at hb3; exact ⟨hb3.1.symm, hb3.2.symm⟩
  have h1 := look w hb F v hrun
  have h2 := look W hb2 F2 v2 hrun2
  have e : v2 = v := by
    rcases h1 with ⟨hno, rfl⟩ | ⟨e0, hm0, hk0, rfl⟩ <;> rcases h2 with ⟨hno2, rfl⟩ | ⟨e1, hm1, hk1, rfl⟩
    · rfl
    · exact absurd hk1 (hno e1 hm1)
    · exact absurd hk0 (hno2 e0 hm0)
    · have hpw : es.toList.Pairwise (fun a b => a.key ≠ b.key) := List.pairwise_map.1 F.stamped.2.2
      obtain ⟨i, hi, hxe⟩ := List.getElem_of_mem hm1
      obtain ⟨i0, hi0, hxe0⟩ := List.getElem_of_mem hm0
      by_cases e : i = i0
      · subst e; rw [← hxe, ← hxe0]
      · exfalso
        rcases Nat.lt_or_gt_of_ne e with hlt | hlt
        · exact (List.pairwise_iff_getElem.1 hpw i i0 hi hi0 hlt) (by rw [hxe, hxe0, hk1, hk0])
        · exact (List.pairwise_iff_getElem.1 hpw i0 i hi0 hi hlt) (by rw [hxe, hxe0, hk1, hk0])
  rw [← e]
  exact hrun2
structure PRow (l : List UInt8) (len : Nat) (x : List UInt8) (q : Option Addr) (N c : Nat) (ps : Nat → Nat) (W : World) : Prop where
  hN : N ≤ len
  row : RowAt W q N ps
  le : ∀ j, j < N → ps j ≤ 20000
  up : ∀ i j, i ≤ j → j < N → ps i ≤ ps j
  all : ∀ y, y ∈ pls l (len - 3) x → ∃ j, j < N ∧ ps j = y
  cap : N ≤ c
  nil : q = none → c = 0 ∧ N = 0
theorem prow_of {l : List UInt8} {len : Nat} {x : List UInt8} {v : Value} {zs : List Int} (hl : len ≤ 20000) (ho : W.ownsInts base 3 .i64 v zs) (hz : zs = plI l (len - 3) x) : ∃ q N c ps, v = .slice q N c ∧ PRow l len x q N c ps W := by
  obtain ⟨hln, hv⟩ := ho.1
  subst hz
  have hlen : (plI l (len - 3) x).length = (pls l (len - 3) x).length := by rw [plI, List.length_map]
  have hup := pls_up l (len - 3) x
  have hps : ∀ j, j < (pls l (len - 3) x).length → (pls l (len - 3) x).getD j 0 = (pls l (len - 3) x)[j]! := fun j hj => by simp [List.getD, hj]
  have hget : ∀ j (hj : j < (pls l (len - 3) x).length), (pls l (len - 3) x).getD j 0 = (pls l (len - 3) x)[j] := fun j hj => by simp [List.getD, hj]
  have hle : ∀ j, j < (pls l (len - 3) x).length → (pls l (len - 3) x).getD j 0 ≤ 20000 := fun j hj => by
    rw [hget j hj]
    have := (pls_mem.1 (List.getElem_mem hj)).1
    omega
  have hmono : ∀ i j, i ≤ j → j < (pls l (len - 3) x).length → (pls l (len - 3) x).getD i 0 ≤ (pls l (len - 3) x).getD j 0 := fun i j h1 h2 => by
    rw [hget i (by omega), hget j h2]
    by_cases e : i = j
    · subst e; exact Nat.le_refl _
    · exact Nat.le_of_lt (List.pairwise_iff_getElem.1 hup i j (by omega) h2 (by omega))
  have hall : ∀ y, y ∈ pls l (len - 3) x → ∃ j, j < (pls l (len - 3) x).length ∧ (pls l (len - 3) x).getD j 0 = y := fun y hy => by
    obtain ⟨j, hj, e⟩ := List.getElem_of_mem hy
    exact ⟨j, hj, by rw [hget j hj]; exact e⟩
  have hN := pls_len l (len - 3) x
  rcases hv with ⟨rfl, h0⟩ | ⟨g, cap, cur, rfl, hg, hh, hcap, _, _, ht⟩
  · rw [hlen] at h0
    exact ⟨none, 0, 0, fun j => (pls l (len - 3) x).getD j 0, rfl, by omega, fun j hj => absurd hj (Nat.not_lt_zero j), fun j hj => absurd hj (Nat.not_lt_zero j), fun i j _ hj => absurd hj (Nat.not_lt_zero j), fun y hy => by obtain ⟨j, hj, _⟩ := hall y hy; omega, Nat.le_refl _, fun _ => ⟨rfl, rfl⟩⟩
  · rw [hlen] at hcap ⊢
    refine ⟨_, _, cap, fun j => (pls l (len - 3) x).getD j 0, rfl, by omega, fun j hj => ?_, hle, hmono, hall, hcap, fun e => by cases e⟩
    refine ⟨g, rfl, (Array.getElem?_eq_some_iff.1 hh).1, ?_⟩
    have := ho.1.cellAt j (by rw [hlen]; omega)
    rw [this, hget j hj, List.getElem?_map, plI, List.getElem?_map, List.getElem?_eq_getElem hj]
    rfl
end Go.Proofs.YtpnofkefcoaojaaGreatDoor
set_option maxHeartbeats 4000000
set_option maxRecDepth 100000
namespace Go.Proofs.YtpnofkefcoaojaaGreatDoor
open Go.RowKit
open Go.Lib
def NextPost (l : List UInt8) (a n d : Nat) (w : World) (e : Ending) (w' : World) : Prop := Below w.heap.size w w' ∧
  ((∃ n2 d2 : Nat, NextAt l a n d n2 d2 ∧ e = .returned (.tuple #[.int .i64 (n2 : Int), .int .i64 (d2 : Int)])) ∨ (NoNext l a n d ∧ e = .returned (.tuple #[.int .i64 0, .int .i64 0])))
def FoundPost (l : List UInt8) (a : Nat) (w : World) (e : Ending) (w' : World) : Prop := Below w.heap.size w w' ∧
  (((best l a a).1 < 4 ∧ e = .returned (.tuple #[.int .i64 0, .int .i64 0])) ∨ (4 ≤ (best l a a).1 ∧ e = .returned (.tuple #[.int .i64 ((best l a a).1 : Int), .int .i64 ((best l a a).2 : Int)])))
theorem plongest_any (b0 off len c a most : Nat) (mo : Option Nat) (l : List UInt8) (w : World) (hl : len ≤ 20000) (h3 : a < len) (hm : Hid (most = min 131 (len - a))) (hll : Hid (l.length = len))
    (hnext : ∀ W, Below w.heap.size w W → ∀ n d, Stand l a n d → n < most → Calls Tryz.prog 192 #[.agg #[.slice (some ⟨b0, off, none⟩) len c, .map mo], .int .i64 (a : Int), .int .i64 (n : Int), .int .i64 (d : Int), .int .i64 (most : Int)] W (NextPost l a n d W)) :
    Calls Tryz.prog 153 #[.agg #[.slice (some ⟨b0, off, none⟩) len c, .map mo], .int .i64 (a : Int)] w (FoundPost l a w) := by
  have HNX := Lib.hid hnext
  have il : (len : Int) ≤ 20000 := by omega
  have ia : (a : Int) < (len : Int) := by omega
  have im : (most : Int) ≤ 131 := by rw [hm.out]; omega
  have im0 : 0 ≤ (most : Int) := by omega
  have hmin : (if (len : Int) - (a : Int) < 131 then (len : Int) - (a : Int) else 131) = (most : Int) := by rw [hm.out]; split <;> omega
  have hmin2 : (if 131 < (len : Int) - (a : Int) then (131 : Int) else (len : Int) - (a : Int)) = (most : Int) := by rw [hm.out]; split <;> omega
  have hmin3 : min ((len : Int) - (a : Int)) 131 = (most : Int) := by rw [hm.out]; omega
  have hmin4 : min (131 : Int) ((len : Int) - (a : Int)) = (most : Int) := by rw [hm.out]; omega
  have HBX : Hid (Below w.heap.size w (w.alloc (.cells #[.slice (some ⟨b0, off, none⟩) len c, .map mo] 152))) := Lib.hid ((Below.refl _ w).alloc (Nat.le_refl _) _)
  have HBOX : Hid ((w.alloc (.cells #[.slice (some ⟨b0, off, none⟩) len c, .map mo] 152)).heap[w.heap.size]? = some (.cells #[.slice (some ⟨b0, off, none⟩) len c, .map mo] 152 (0, 0))) := Lib.hid (World.alloc_heap_new w _)
  have hs1 : w.heap.size < (w.alloc (.cells #[.slice (some ⟨b0, off, none⟩) len c, .map mo] 152)).heap.size := by simp
  have HFULL : Hid (∀ n d, most ≤ n → NoNext l a n d) := Lib.hid (fun n d h => noNext_full (by rw [hll.out]; omega) (by rw [hll.out, ← hm.out]; exact h))
  clear hnext
  go_enter Tryz.func153, Tryz.ntmps153
  go_wp2_with fail
  revert HBX HBOX hs1
  generalize w.alloc (.cells #[.slice (some ⟨b0, off, none⟩) len c, .map mo] 152) = W0
  intro HBX HBOX hs1
  go_loopw [7, 8] (fun nv dv wr => ∃ n d : Nat, nv = .int .i64 n ∧ dv = .int .i64 d ∧ n ≤ 131 ∧ Hid (Stand l a n d) ∧ Hid (Below W0.heap.size W0 wr)) (fun nv _ _ => 131 - (Go.RowKit.intOf nv).toNat)
  case atStart => exact ⟨3, 0, rfl, rfl, by decide, Lib.hid (.inl ⟨rfl, rfl⟩), Lib.hid (Below.refl _ _)⟩
  case round =>
    obtain ⟨n, d, rfl, rfl, hn131, HS, HB⟩ := hrel
    have HBw := Lib.hid (HBX.out.trans (HB.out.mono (Nat.le_of_lt hs1)))
    have hni : (n : Int) ≤ 131 := by omega
    have hdn : d ≤ a := by rcases HS.out with h | h <;> omega
    have hdi : (d : Int) ≤ 20000 := by omega
    have hend : Hid (NoNext l a n d → (d = 0 ∧ (best l a a).1 < 4) ∨ (1 ≤ d ∧ 4 ≤ n ∧ best l a a = (n, d))) := Lib.hid (fun h => HS.out.done h)
    have c0 : wr.cell? ⟨w.heap.size, 0, none⟩ = some (.slice (some ⟨b0, off, none⟩) len c) := by
      have h := (HB.out.block w.heap.size hs1).trans HBOX.out
      simp [World.cell?, h]
    have c1 : wr.cell? ⟨w.heap.size, 1, none⟩ = some (.map mo) := by
      have h := (HB.out.block w.heap.size hs1).trans HBOX.out
      simp [World.cell?, h]
    by_cases hnm : n < most
    · have inm : (n : Int) < (most : Int) := by omega
      have HC := Lib.hid (HNX.out wr HBw.out n d HS.out hnm)
      go_wp2_with fail
      refine (HC.out).mono ?_
      rintro e w2 ⟨hb2, ⟨n2, d2, hN, rfl⟩ | ⟨hN, rfl⟩⟩
      · have HB2 := Lib.hid (HB.out.trans (hb2.mono HB.out.size))
        have HS2 := Lib.hid (HS.out.next hN)
        have h5 := hN.more
        have h6 : n2 ≤ 131 := by rw [← hN.run]; exact rn_le _ _ _
        have h7 : 4 ≤ n2 := by rcases HS.out with h | h <;> omega
        have i2 : ¬ (n2 : Int) = 0 := by omega
        have i2l : (n2 : Int) ≤ 131 := by omega
        have i2b : ((n2 : Int) == 0) = false := by rw [beq_eq_false_iff_ne]; exact i2
        clear hN hb2
        go_wp2_with fail
        go_roundw
        case rel => exact ⟨n2, d2, rfl, rfl, h6, HS2, HB2⟩
        case measure => simp [Go.RowKit.intOf]; omega
      · have HB2 := Lib.hid (HBw.out.trans (hb2.mono HBw.out.size))
        have hE := hend.out hN
        clear hb2 hN
        rcases hE with ⟨rfl, hb4⟩ | ⟨h1, h2, h3⟩
        · go_wp2_with fail
          go_ret2
          exact ⟨HB2.out, .inl ⟨hb4, rfl⟩⟩
        · have id : ¬ (d : Int) = 0 := by omega
          have hfin : Hid (FoundPost l a w (.returned (.tuple #[.int .i64 (n : Int), .int .i64 (d : Int)])) w2) := Lib.hid ⟨HB2.out, .inr ⟨by rw [h3]; exact h2, by rw [h3]⟩⟩
          clear h3
          go_wp2_with fail
          go_ret2
          exact hfin.out
    · have inm : ¬ (n : Int) < (most : Int) := by omega
      have hE := hend.out (HFULL.out n d (by omega))
      rcases hE with ⟨rfl, hb4⟩ | ⟨h1, h2, h3⟩
      · go_wp2_with fail
        go_ret2
        exact ⟨HBw.out, .inl ⟨hb4, rfl⟩⟩
      · have id : ¬ (d : Int) = 0 := by omega
        have hfin : Hid (FoundPost l a w (.returned (.tuple #[.int .i64 (n : Int), .int .i64 (d : Int)])) wr) := Lib.hid ⟨HBw.out, .inr ⟨by rw [h3]; exact h2, by rw [h3]⟩⟩
        clear h3
        go_wp2_with fail
        go_ret2
        exact hfin.out
end Go.Proofs.YtpnofkefcoaojaaGreatDoor
namespace Go.Proofs.YtpnofkefcoaojaaGreatDoor
open Go.RowKit Go.Maps Go.ChangeShapes Go.Shelf
open Go.Lib
attribute [local go_sem] Oper.semAt_some
structure Nx (w : World) (b0 off len c b a n most o : Nat) (r0 r1 : Value) (W : World) : Prop where
  below : Below w.heap.size w W
  x : W.heap[w.heap.size]? = some (.cells #[.slice (some ⟨b0, off, none⟩) len c, .map (some b)] 152 (0, 0))
  a : W.heap[w.heap.size + 1]? = some (.cells #[.int .i64 (a : Int)] 3 (0, 0))
  n : W.heap[w.heap.size + 1 + 1]? = some (.cells #[.int .i64 (n : Int)] 3 (0, 0))
  m : W.heap[w.heap.size + 1 + 1 + 1]? = some (.cells #[.int .i64 (most : Int)] 3 (0, 0))
  r0 : W.heap[w.heap.size + 1 + 1 + 1 + 1]? = some (.cells #[r0] 3 (0, 0))
  r1 : W.heap[w.heap.size + 1 + 1 + 1 + 1 + 1]? = some (.cells #[r1] 3 (0, 0))
  o : W.heap[w.heap.size + 1 + 1 + 1 + 1 + 1 + 1]? = some (.cells #[.int .i64 (o : Int)] 3 (0, 0))
section
variable {w W W' : World} {b0 off len c b a n most o : Nat} {r0 r1 : Value}
theorem Nx.sz (h : Nx w b0 off len c b a n most o r0 r1 W) : w.heap.size + 7 ≤ W.heap.size := (Array.getElem?_eq_some_iff.1 h.o).1
theorem Nx.keep (h : Nx w b0 off len c b a n most o r0 r1 W) (hk : ∀ k, k < W.heap.size → (∃ cs t m, W.heap[k]? = some (.cells cs t m)) → W'.heap[k]? = W.heap[k]?) (hb : Below w.heap.size w W') : Nx w b0 off len c b a n most o r0 r1 W' := by
  have hs := h.sz
  exact ⟨hb, (hk _ (by omega) ⟨_, _, _, h.x⟩).trans h.x, (hk _ (by omega) ⟨_, _, _, h.a⟩).trans h.a, (hk _ (by omega) ⟨_, _, _, h.n⟩).trans h.n, (hk _ (by omega) ⟨_, _, _, h.m⟩).trans h.m, (hk _ (by omega) ⟨_, _, _, h.r0⟩).trans h.r0, (hk _ (by omega) ⟨_, _, _, h.r1⟩).trans h.r1, (hk _ (by omega) ⟨_, _, _, h.o⟩).trans h.o⟩
theorem Nx.next (h : Nx w b0 off len c b a n most o r0 r1 W) (hb : Below W.heap.size W W') : Nx w b0 off len c b a n most o r0 r1 W' :=
  h.keep (fun k hk _ => hb.block k hk) (h.below.trans (hb.mono h.below.size))
theorem Nx.own (h : Nx w b0 off len c b a n most o r0 r1 W) {row : Option Nat} (hg : W.grownBy W' row) (hr : ∀ r, row = some r → w.heap.size ≤ r ∧ ∃ o : Obj, W.heap[r]? = some o ∧ o.isCells = false) : Nx w b0 off len c b a n most o r0 r1 W' :=
  h.keep (fun _ _ ⟨_, _, _, e⟩ => grownBy_keeps_cells hg (fun r e => (hr r e).2) e rfl) (h.below.grown hg h.below.size (fun k e => (hr k e).1))
end
theorem others_of_below {W W' : World} (h : Below W.heap.size W W') : KeepsOthers W W' := KeepsOthers.of_grownBy (grown_below h none) (fun _ _ e _ => by cases e)
theorem nx_start (w : World) (b0 off len c b a n most o : Nat) : Nx w b0 off len c b a n most o (.int .i64 0) (.int .i64 0) (((((((w.alloc (.cells #[.slice (some ⟨b0, off, none⟩) len c, .map (some b)] 152)).alloc (.cells #[.int .i64 (a : Int)] 3)).alloc (.cells #[.int .i64 (n : Int)] 3)).alloc (.cells #[.int .i64 (most : Int)] 3)).alloc (.cells #[.int .i64 0] 3)).alloc (.cells #[.int .i64 0] 3)).alloc (.cells #[.int .i64 (o : Int)] 3)) := by
  refine ⟨((((((((Below.refl _ w).alloc (Nat.le_refl _) _).alloc ?_ _).alloc ?_ _).alloc ?_ _).alloc ?_ _).alloc ?_ _).alloc ?_ _), ?_, ?_, ?_, ?_, ?_, ?_, ?_⟩
  all_goals (simp only [World.alloc, Array.getElem?_push, Array.size_push])
  all_goals (first | omega | (repeat' (first | rw [if_pos (by omega)] | rw [if_neg (by omega)] | rfl)))
theorem PRow.below {l : List UInt8} {len : Nat} {x : List UInt8} {q : Option Addr} {N c : Nat} {ps : Nat → Nat} {W W' : World} (h : PRow l len x q N c ps W) (hb : Below W.heap.size W W') : PRow l len x q N c ps W' :=
  ⟨h.hN, h.row.below hb, h.le, h.up, h.all, h.cap, h.nil⟩
theorem PRow.rowN {l : List UInt8} {len : Nat} {x : List UInt8} {q : Option Addr} {N c i : Nat} {ps : Nat → Nat} {w W : World} (h : PRow l len x q N c ps w) (hb : Below w.heap.size w W) (hi : i ≤ N) : RowN w.heap.size W q i ps := fun j hj => by
  obtain ⟨g, h1, h2, h3⟩ := h.row j (by omega)
  exact ⟨g, h1, h2, (hb.cell (p := ⟨g, j, none⟩) h2).trans h3⟩
theorem Nx.put {w W : World} {b0 off len c b a n most o : Nat} {r0 r1 v v' : Value} (h : Nx w b0 off len c b a n most o r0 r1 W) :
    Nx w b0 off len c b a n most o v v' ((W.setCell ⟨w.heap.size + 1 + 1 + 1 + 1, 0, none⟩ v).setCell ⟨w.heap.size + 1 + 1 + 1 + 1 + 1, 0, none⟩ v') := by
  have hs : ∀ (V : World) (k g : Nat) (u : Value), k ≠ g → (V.setCell ⟨g, 0, none⟩ u).heap[k]? = V.heap[k]? := fun V k g u hne => Below.heap_setCell V ⟨g, 0, none⟩ u _ hne
  have h0 := block_of_set (v := v) h.r0
  have h1 : (W.setCell ⟨w.heap.size + 1 + 1 + 1 + 1, 0, none⟩ v).heap[w.heap.size + 1 + 1 + 1 + 1 + 1]? = some (.cells #[r1] 3 (0, 0)) := (hs _ _ _ _ (by omega)).trans h.r1
  have two : ∀ k, k ≠ w.heap.size + 1 + 1 + 1 + 1 → k ≠ w.heap.size + 1 + 1 + 1 + 1 + 1 → ((W.setCell ⟨w.heap.size + 1 + 1 + 1 + 1, 0, none⟩ v).setCell ⟨w.heap.size + 1 + 1 + 1 + 1 + 1, 0, none⟩ v').heap[k]? = W.heap[k]? := fun k h1 h2 => (hs _ _ _ _ h2).trans (hs _ _ _ _ h1)
  exact ⟨(h.below.setCell (p := ⟨w.heap.size + 1 + 1 + 1 + 1, 0, none⟩) (by show w.heap.size ≤ w.heap.size + 1 + 1 + 1 + 1; omega) _).setCell (p := ⟨w.heap.size + 1 + 1 + 1 + 1 + 1, 0, none⟩) (by show w.heap.size ≤ w.heap.size + 1 + 1 + 1 + 1 + 1; omega) _,
    (two _ (by omega) (by omega)).trans h.x, (two _ (by omega) (by omega)).trans h.a, (two _ (by omega) (by omega)).trans h.n, (two _ (by omega) (by omega)).trans h.m, (hs _ _ _ _ (by omega)).trans h0, block_of_set h1, (two _ (by omega) (by omega)).trans h.o⟩
theorem nx_end {w V : World} {b0 off len c b a n most o D9 : Nat} {r0 r1 : Value} (h : Nx w b0 off len c b a n most o r0 r1 V) (hD : w.heap.size ≤ D9) (hK : V.heap[D9]? = some (.deferred (some []))) : Nx w b0 off len c b a n most o r0 r1 (V.putObj D9 (.deferred none)) :=
  h.own (grownBy_putObj' V D9 (.deferred none)) (fun r e => by cases e; exact ⟨hD, _, hK, rfl⟩)
def NxStop (w : World) (b0 off len c b a n most o : Nat) (l : List UInt8) (ps : Nat → Nat) (i : Nat) (c9 : Code) (pre : List (Pl i)) (W : World) : Prop :=
  ∃ (pre0 : List (Pl i)) (x : Pl i), pre = pre0 ++ [x] ∧ (∀ y ∈ pre0, rn l a (a + (n - 3) - ps (i - 1 - y.1)) ≤ n) ∧
    ((c9 = .ret ∧ n - 3 ≤ ps (i - 1 - x.1) ∧ n < rn l a (a + (n - 3) - ps (i - 1 - x.1)) ∧ Nx w b0 off len c b a n most o (.int .i64 (rn l a (a + (n - 3) - ps (i - 1 - x.1)) : Int)) (.int .i64 ((a + (n - 3) - ps (i - 1 - x.1) : Nat) : Int)) W) ∨
     (c9 = .exit 0 ∧ ps (i - 1 - x.1) < n - 3 ∧ Nx w b0 off len c b a n most o (.int .i64 0) (.int .i64 0) W))
theorem seen_of {l : List UInt8} {a n i : Nat} {ps : Nat → Nat} {pre : List (Pl i)} (h : ∀ y ∈ pre, rn l a (a + (n - 3) - ps (i - 1 - y.1)) ≤ n) {r : Nat} (hr : pre.map (·.1) = List.range r) : Seen l a n i ps r := fun j h1 h2 => by
  have hm : i - 1 - j ∈ pre.map (·.1) := by rw [hr, List.mem_range]; omega
  obtain ⟨y, hy, e⟩ := List.mem_map.1 hm
  have := h y hy
  rwa [e, show i - 1 - (i - 1 - j) = j by omega] at this
end Go.Proofs.YtpnofkefcoaojaaGreatDoor
