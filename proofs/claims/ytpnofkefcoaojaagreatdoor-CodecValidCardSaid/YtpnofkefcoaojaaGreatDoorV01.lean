/- The document's two. -/
import Derived.Test.YtpnofkefcoaojaaGreatDoorRh
import Derived.Outline
import Derived.WalkKit
import Derived.WalkSpells
import Derived.WalkLawsBesides
import Derived.Lib.Hide
import Derived.Laws.Externs
import Derived.Shelf.Spec.BitsCarry
import Derived.Laws.CopyOwn
namespace Go.Proofs.YtpnofkefcoaojaaGreatDoor
open Go.RowKit Big
open Go.Lib
theorem QAt.put3 {B : Nat} {w0 W : World} {x : Value} {r : Rat} (hq : QAt W x r) (h : Resa B w0 W) (hB : w0.heap.size ≤ B) (a : Bool) (p q : Option Addr) (n c m d : Nat) : QAt (((W.setCell ⟨B, 0, none⟩ (.bool a)).setCell ⟨B, 1, none⟩ (.slice p n c)).setCell ⟨B, 2, none⟩ (.slice q m d)) x r := by
  obtain ⟨u, v, rfl, hu, hv⟩ := hq
  exact ⟨u, v, rfl, h.nat3 hB hu a p q n c m d, hv.imp (fun h2 => h.nat3 hB h2 a p q n c m d) fun h2 => ⟨h.nat3 hB h2.1 a p q n c m d, h2.2⟩⟩
end Go.Proofs.YtpnofkefcoaojaaGreatDoor
namespace Go.Proofs.YtpnofkefcoaojaaGreatDoor
open Go.RowKit Big
open Go.Lib
theorem num_lt9 {l : List UInt8} {q : Rat} (h : num l = some q) : QLt 5 q := by
  have hs := num_short h
  unfold short at hs
  have hb : ∀ n : Nat, nDigits n ≤ 40 → n < B9 ^ 5 := by
    intro n hn
    have h1 := dval_lt (decDigits n) (dec_all n).1
    rw [(dec_all n).2, decDigits_length] at h1
    rw [B9_pow]
    exact Nat.lt_of_lt_of_le h1 (Nat.pow_le_pow_right (by omega) (by omega))
  exact ⟨hb _ hs.1, hb _ hs.2⟩
theorem lt_of_ratv {K : Nat} {q : Rat} {s : Bool} {a b : Nat} (h : ratv s a b = q) (ha : a < B9 ^ K) (hb : b < B9 ^ K) (hb0 : 0 < b) : QLt K q := by
  rw [← h, ← ratv_drop]
  exact ratv_lt _ ha hb hb0 (by intro h; simp at h; omega)
theorem plus_num (a b : Rat) : ∃ (s : Bool) (n : Nat), ratv s n (a.den * b.den) = a + b ∧ n ≤ a.num.natAbs * b.den + b.num.natAbs * a.den := by
  have e1 : ratv (decide (a.num < 0)) (a.num.natAbs * b.den) (a.den * b.den) = a := by rw [ratv_scale a.den_pos b.den_pos, ratv_self]
  have e2 : ratv (decide (b.num < 0)) (b.num.natAbs * a.den) (a.den * b.den) = b := by rw [Nat.mul_comm a.den b.den, ratv_scale b.den_pos a.den_pos, ratv_self]
  by_cases h : decide (a.num < 0) = decide (b.num < 0)
  · rw [← h] at e2
    exact ⟨_, _, by rw [ratv_plus, e1, e2], Nat.le_refl _⟩
  · by_cases hle : b.num.natAbs * a.den ≤ a.num.natAbs * b.den
    · exact ⟨_, _, by rw [ratv_minus h hle, e1, e2], by omega⟩
    · exact ⟨_, _, by rw [ratv_minus (fun e => h e.symm) (Nat.le_of_lt (Nat.lt_of_not_le hle)), e1, e2, Rat.add_comm], by omega⟩
theorem QLt.add {K L : Nat} {a b : Rat} (ha : QLt K a) (hb : QLt L b) : QLt (K + L + 1) (a + b) := by
  obtain ⟨s, n, h1, h2⟩ := plus_num a b
  have h3 := pow9_mul ha.1 hb.2
  have h4 := pow9_mul hb.1 ha.2
  rw [Nat.add_comm L K] at h4
  have h5 : B9 ^ (K + L + 1) = B9 ^ (K + L) * 1000000000 := by rw [Nat.pow_succ, B9_eq]
  exact lt_of_ratv h1 (by omega) (pow9_mono (pow9_mul ha.2 hb.2) (by omega)) (Nat.mul_pos a.den_pos b.den_pos)
end Go.Proofs.YtpnofkefcoaojaaGreatDoor
set_option maxRecDepth 100000
set_option maxHeartbeats 800000
namespace Big
end Big
namespace Go.Proofs.YtpnofkefcoaojaaGreatDoor
open Go.RowKit
end Go.Proofs.YtpnofkefcoaojaaGreatDoor
namespace Go.Proofs.YtpnofkefcoaojaaGreatDoor
open Go.RowKit
end Go.Proofs.YtpnofkefcoaojaaGreatDoor
namespace Go.Proofs.YtpnofkefcoaojaaGreatDoor
open Go.RowKit Big
end Go.Proofs.YtpnofkefcoaojaaGreatDoor
namespace Go.Proofs.YtpnofkefcoaojaaGreatDoor
open Go.RowKit Big
def subPost (L : List Nat) (g off n : Nat) (t : TypeId) (y : List Nat) (w : World) (e : Ending) (w' : World) : Prop :=
  ∃ L' c, Put L off n L' ∧ Dig B64 (seg L' off n) ∧ c ≤ 1 ∧ val B64 (seg L' off n) + val B64 y = val B64 (seg L off n) + B64 ^ n * c ∧
    e = .returned (.tuple #[]) ∧ Only g w w' ∧ Row w' g t L'
theorem subtractFrom_any (g off n cap : Nat) (t : TypeId) (L : List Nat) (q : Option Addr) (m c : Nat) (y : List Nat) (w : World) (hn : n ≤ maxLen) (hL : off + n ≤ L.length) (hm : m ≤ n)
    (hz : Row w g t L) (hy : Rd w q m y) (hq : m = 0 ∨ ∀ b o, q = some ⟨b, o, none⟩ → b ≠ g) (dL : Dig B64 (seg L off n)) (dy : Dig B64 y) :
    Calls Tryz.prog 182 #[.slice (some ⟨g, off, none⟩) n cap, .slice q m c] w (subPost L g off n t y w) := by
  unfold maxLen at hn
  go_enter Tryz.func182, Tryz.ntmps182
  go_wp2
  go_loopw [4, 9] (fun cy i wr => ∃ (k : Nat) (L' : List Nat) (d : Nat), k ≤ n ∧ i = .int .i64 k ∧ cy = .int .u64 d ∧ d ≤ 1 ∧ Put L off k L' ∧ Dig B64 (seg L' off k) ∧
      val B64 (seg L' off k) + val B64 (y.take k) = val B64 (seg L off k) + B64 ^ k * d ∧ Only g w wr ∧ Row wr g t L') (fun _ i _ => n - (intOf i).toNat)
  case atStart => exact ⟨0, L, 0, Nat.zero_le _, rfl, rfl, by omega, Put.refl _ _, by rw [seg_zero]; exact Dig.nil _, by simp [val], Only.refl _ _, hz⟩
  case round =>
    obtain ⟨k, L', d, hk, rfl, rfl, hd, hput, hdig, hval, ho, hr⟩ := hrel
    have Hval := hiD hval
    clear hval
    by_cases hlt : k < n
    · have hc := hr.cell (off + k) (by rw [hput.length]; omega)
      rw [hput.getD _ (by omega)] at hc
      have hf := hr.free (off + k)
      have dk : L.getD (off + k) 0 < B64 := by rw [← seg_getD L off n k hlt]; exact dL.getD B64_pos k
      obtain ⟨a, ha⟩ : ∃ a, Hid (L.getD (off + k) 0 = a) := ⟨_, rfl⟩
      have hw : ∃ b : Nat, Hid (y.getD k 0 = b) ∧ b < B64 := ⟨_, rfl, dy.getD B64_pos k⟩
      obtain ⟨b, hb, hb64⟩ := hw
      rw [ha.out] at hc dk
      obtain ⟨s, c', hs, hs1, hs2, hrun⟩ := sub64 a b d hd dk hb64
      have hrelk : ∀ wr', Only g w wr' → Row wr' g t (L'.set (off + k) s) → ∃ (k' : Nat) (L'' : List Nat) (d' : Nat), k' ≤ n ∧ Value.int .i64 ((k : Int) + 1) = .int .i64 k' ∧ Value.int .u64 (c' : Int) = .int .u64 d' ∧ d' ≤ 1 ∧ Put L off k' L'' ∧ Dig B64 (seg L'' off k') ∧
          val B64 (seg L'' off k') + val B64 (y.take k') = val B64 (seg L off k') + B64 ^ k' * d' ∧ Only g w wr' ∧ Row wr' g t L'' := by
        intro wr' h1 h2
        refine ⟨k + 1, L'.set (off + k) s, c', by omega, by go_num, rfl, hs2, hput.set s, ?_, ?_, h1, h2⟩
        · rw [hput.seg_set (by omega)]; exact hdig.append (Dig.one hs1)
        · rw [hput.seg_set (by omega), seg_succ L off k (by omega), val_snoc, val_snoc, val_take_succD, seg_length _ _ _ (by rw [hput.length]; omega), seg_length _ _ _ (by omega), ha.out, hb.out, Nat.pow_succ]
          exact sub_step Hval.out hs.out
      have Hrel := hiD hrelk
      clear hrelk
      by_cases hkm : k < m
      · obtain ⟨b0, o0, d0, rfl, hb0, hc0, hd0⟩ := hy.at hkm
        have e0 : d0 = b := by rw [← hd0.out]; exact hb.out
        subst e0
        have hcy : wr.cell? ⟨b0, o0 + k, none⟩ = some (.int .u64 (d0 : Int)) := by
          rw [← hc0]
          exact World.cell?_of_block (w := w) (ho.block b0 ((hq.resolve_left (by omega)) b0 o0 rfl))
        go_wp2
        go_roundw
        case rel => exact Hrel.out _ (ho.setCell _ _) (hr.set _ _)
        case measure => simp [intOf]; omega
      · have e0 : b = 0 := by
          rw [← hb.out, List.getD_eq_getElem?_getD, List.getElem?_eq_none (by rw [hy.len]; omega)]; rfl
        subst e0
        rw [show ((0 : Nat) : Int) = 0 from rfl] at hrun
        clear hb64 hb
        go_wp2
        go_roundw
        case rel => exact Hrel.out _ (ho.setCell _ _) (hr.set _ _)
        case measure => simp [intOf]; omega
    · obtain rfl : k = n := by omega
      have hval := Hval.out
      rw [List.take_of_length_le (by rw [hy.len]; exact hm)] at hval
      have Hv := hiD hval
      clear hval
      go_wp2
      go_end0
      exact ⟨L', d, hput, hdig, hd, Hv.out, rfl, ho, hr⟩
end Go.Proofs.YtpnofkefcoaojaaGreatDoor
namespace Go.Proofs.YtpnofkefcoaojaaGreatDoor
open Go.RowKit Big
end Go.Proofs.YtpnofkefcoaojaaGreatDoor
namespace Go.Proofs.YtpnofkefcoaojaaGreatDoor
open Go.RowKit Big
end Go.Proofs.YtpnofkefcoaojaaGreatDoor
