/- The document's Reduce: all its cases. -/
import Derived.Test.YtlcpcpmlfegejaaGreatDoorMS
import Derived.Test.YtlcpcpmlfegejaaGreatDoorGU
import Derived.Test.YtlcpcpmlfegejaaGreatDoorCards
import Derived.Test.YtlcpcpmlfegejaaGreatDoorTie
import Derived.ProofKit
import Derived.OpenShut
import Derived.ShutString
import Derived.LaidMore
import Derived.ChangeMaps5
import Derived.ChangeSlices
import Derived.Carry
import Derived.Stop.LaidErr
import Derived.RowKitTokens
import Derived.Deep.DeepHandedRow
import Derived.Deep.Strs
import Derived.Lib.LaidTab
import Derived.SliceStrings
import Derived.Deep.Slices
import Derived.Lib.SmallJoins
namespace Go.Proofs.YtlcpcpmlfegejaaGreatDoor.Arr
open Go.RowKit Go.Shelf
open Go.Lib
theorem vs_erase {S:List Nat} {k:Nat} (hsh:Shp S) (hk:k<S.length):vs ((S.set k 1).map Int.ofNat)=vs ((S.eraseIdx k).map Int.ofNat):=by
 have h:Shp (S.set k 1)↔Shp (S.eraseIdx k):=by
  unfold Shp
  rw [prod_set1 S k hk,List.length_set,List.length_eraseIdx,if_pos hk]
  refine ⟨fun h=>⟨by omega,fun x hx=>hsh.2.1 x (List.mem_of_mem_eraseIdx hx),h.2.2⟩,fun h=>⟨hsh.1,fun x hx=>?_,h.2.2⟩⟩
  rcases List.mem_or_eq_of_mem_set hx with h1|h1
  ·exact hsh.2.1 x h1
  ·omega
 rcases Bool.eq_false_or_eq_true (vs ((S.eraseIdx k).map Int.ofNat)) with h1|h1
 ·rw [h1];exact vs_nat.2 (h.2 (vs_nat.1 h1))
 ·rw [h1]
  rcases Bool.eq_false_or_eq_true (vs ((S.set k 1).map Int.ofNat)) with h2|h2
  ·rw [vs_nat.2 (h.1 (vs_nat.1 h2))] at h1;cases h1
  ·exact h2
theorem rreduce_any (p q:Option Addr) (c d n m:Nat) (s:List Int) (l:List (List UInt8)) (a red:Int) (w:World) (hs:Hid (s.length=n)) (hl:Hid (l.length=m)) (hn:n≤5000) (hm:m≤1000) (hnc:n≤c) (hp:Rd w p s) (hq:RdS w q l) :
  Calls Tryz.prog 14 #[.agg #[.slice p n c,.slice q m d],.int .i64 a,.int .i64 red] w (ArrPost w (redA s l a red).1 (redA s l a red).2.1 (redA s l a red).2.2):=by
 have H30:∀ W,Below w.heap.size w W→Calls Tryz.prog 35 #[.agg #[.slice p n c,.slice q m d],.int .i64 a,.int .i64 red] W fun e w'=>Below W.heap.size W w'∧e=.returned (.int .i64 (chkV s l a red)):=fun W hW=>rcheck_any p q c d n m s l a red W hs hl hn (by omega) (hp.below hW) (hq.below hW)
 by_cases hz:chkV s l a red=0
 ·obtain ⟨S,k,rfl,rfl,hsh,hk,hr1,hr5,hva,hN,hV⟩:=chk_zero hz
  have hSn:S.length=n:=by have:=hs.out;rwa [List.length_map] at this
  have hp':RdN w p S:=hp
  obtain ⟨pb,po,rfl⟩:=rdn_some hp' (by omega)
  rw [hz] at H30
  have hn4:n≤4:=by have:=hsh.1;omega
  have hve:=vs_erase hsh hk
  by_cases hv:vs ((S.set k 1).map Int.ofNat)=true
  ·have e:redA (S.map Int.ofNat) l (k:Int) red=(0,S.eraseIdx k,(List.range (prod (S.set k 1))).map (alV S l k 1 red (fun _=>spanL 0 (S.getD k 0)))):=by
    unfold redA
    rw [if_pos hz,toNat_map,Int.toNat_natCast,if_pos hv]
   rw [e]
   have hsp:=vs_nat.1 hv
   refine rreduce_yes pb po q c d n m k red S (prod (S.set k 1)) (S.getD k 0) l _ w (Lib.hid hSn) (by omega) hn4 hnc (Lib.hid hsh.2.1) (Lib.hid hp') (Lib.hid (by rw [← hve];exact hv)) (Lib.hid H30) hr1 hr5 hl (Lib.hid (by rw [← hl.out];exact hN)) hm (Lib.hid hq) (Lib.hid hV) (Lib.hid (prod_set1 S k hk)) hsp.2.2 (Lib.hid rfl) (Lib.hid fun h0=>?_) (Lib.hid rfl)
   have h1:=prod_dim hk h0
   rw [← hN,hl.out] at h1
   omega
  ·have hv2:vs ((S.set k 1).map Int.ofNat)=false:=by simpa using hv
   have e:redA (S.map Int.ofNat) l (k:Int) red=(60,[],[]):=by
    unfold redA
    rw [if_pos hz,toNat_map,Int.toNat_natCast,if_neg hv]
   rw [e]
   exact rreduce_noshape pb po q c d n m k red S w (Lib.hid hSn) (by omega) hn4 hnc (Lib.hid hsh.2.1) (Lib.hid hp') (Lib.hid (by rw [← hve];exact hv2)) (Lib.hid H30)
 ·have e:redA s l a red=(chkV s l a red,[],[]):=by unfold redA;rw [if_neg hz]
  rw [e]
  rcases chk_or s l a red with h|h|h
  ·exact absurd h hz
  ·rw [h] at H30 ⊢;exact rreduce_err2 p q c d n m a red w (Lib.hid H30)
  ·rw [h] at H30 ⊢;exact rreduce_err60 p q c d n m a red w (Lib.hid H30)
theorem redA_len (s:List Int) (l:List (List UInt8)) (a red:Int):(redA s l a red).2.1.length≤1000∧(redA s l a red).2.2.length≤5000:=by
 by_cases hz:chkV s l a red=0
 ·obtain ⟨S,k,rfl,rfl,hsh,hk,-⟩:=chk_zero hz
  unfold redA
  rw [if_pos hz,toNat_map,Int.toNat_natCast]
  by_cases hv:vs ((S.set k 1).map Int.ofNat)=true
  ·rw [if_pos hv]
   have hsp:=vs_nat.1 hv
   have h1:=hsh.1
   have h2:=hsp.2.2
   refine ⟨?_,?_⟩
   ·show (S.eraseIdx k).length≤1000
    rw [List.length_eraseIdx,if_pos hk];omega
   ·show ((List.range _).map _).length≤5000
    rw [List.length_map,List.length_range];omega
  ·rw [if_neg hv];exact ⟨Nat.zero_le _,Nat.zero_le _⟩
 ·unfold redA;rw [if_neg hz];exact ⟨Nat.zero_le _,Nat.zero_le _⟩
end Go.Proofs.YtlcpcpmlfegejaaGreatDoor.Arr
set_option maxHeartbeats 8000000
set_option maxRecDepth 100000
namespace Go.Proofs.YtlcpcpmlfegejaaGreatDoor.Arr
open Go.RowKit Go.Shelf
open Go.Lib
attribute [local go_sem] Oper.semAt_some
structure Vz (w W0:World) (A:Nat) (p q:Option Addr) (n c m d:Nat) (W:World):Prop where
 below:Below w.heap.size w W
 more:Below W0.heap.size W0 W
 c0:W.cell? ⟨A,0,none⟩=some (.slice p n c)
 c1:W.cell? ⟨A,1,none⟩=some (.slice q m d)
theorem reduces_law (p q:Option Addr) (c d n m:Nat) (s:List Int) (l:List (List UInt8)) (a red:Int) (w:World) (he:Env w) (hs:Hid (s.length=n)) (hl:Hid (l.length=m)) (hnc:n≤c) (hp:Rd w p s) (hq:RdS w q l) :
  Calls Tryz.prog 4 #[.agg #[.slice p n c,.slice q m d],.int .i64 a,.int .i64 red] w fun e w'=>Below w.heap.size w w'∧e=.returned (.bool true):=by
 have HP:=Lib.hid hp
 have HQ:=Lib.hid hq
 have HE:=Lib.hid he
 clear hp hq he
 obtain ⟨A,HA⟩:∃ A,Hid (A=w.heap.size):=⟨_,Lib.hid rfl⟩
 obtain ⟨W0,HW0⟩:∃ W0,Hid (w.alloc (.cells #[.slice p n c,.slice q m d] 31)=W0):=⟨_,Lib.hid rfl⟩
 have HB0:Hid (Below w.heap.size w W0):=Lib.hid (by rw [← HW0.out];exact (Below.refl _ w).alloc (Nat.le_refl _) _)
 have HX0:Hid (W0.heap[A]?=some (.cells #[.slice p n c,.slice q m d] 31 (0,0))):=Lib.hid (by rw [← HW0.out,HA.out];exact World.alloc_heap_new w _)
 have HBX:Hid (∀ W,Below W0.heap.size W0 W→Vz w W0 A p q n c m d W):=Lib.hid (fun W hW=>by
  have h0:=(hW.block A (Array.getElem?_eq_some_iff.1 HX0.out).1).trans HX0.out
  exact ⟨HB0.out.trans (hW.mono HB0.out.size),hW,by simp [World.cell?,h0],by simp [World.cell?,h0]⟩)
 have H12:=Lib.hid (wide_any p q c d n m s l W0 hs hl (HQ.out.below HB0.out))
 have HSANE:Hid (∀ W,Below W0.heap.size W0 W→Calls Tryz.prog 9 #[] W fun e w'=>Below W0.heap.size W0 w'∧e=.returned (.bool true)):=Lib.hid (fun W hW =>
  (sane_any W (HE.out.below (HBX.out W hW).below)).mono (fun e w' h=>⟨hW.trans (h.1.mono hW.size),h.2⟩))
 obtain ⟨b,HWB⟩:∃ b,Hid (b=wideT s l):=⟨_,Lib.hid rfl⟩
 rw [← HWB.out] at H12
 by_cases hb:b=true
 ·subst hb
  obtain ⟨-,-,b0,b1⟩:=HBX.out W0 (Below.refl _ _)
  go_enter Tryz.func4,Tryz.ntmps4
  go_wp2_with fail
  rw [HW0.out,← HA.out]
  go_wp2_with fail
  refine (H12.out).mono ?_
  rintro e w1 ⟨hb1,rfl⟩
  have HB1:=Lib.hid hb1
  clear hb1 b0 b1
  go_wp2_with fail
  refine (HSANE.out _ HB1.out).mono ?_
  rintro e w2 ⟨hb2,rfl⟩
  have HB2:=Lib.hid (HBX.out w2 hb2).below
  clear hb2
  go_wp2_with fail
  go_ret
  exact ⟨HB2.out,rfl⟩
 obtain rfl:b=false:=by simpa using hb
 have hwn:n≤10∧m≤100:=by
  have h:wideT s l=false:=HWB.out.symm
  unfold wideT at h
  rw [Bool.or_eq_false_iff,Bool.or_eq_false_iff,decide_eq_false_iff_not,decide_eq_false_iff_not,hl.out,hs.out] at h
  omega
 obtain ⟨z1,HZ1⟩:∃ z,Hid (z=(redA s l a red).1):=⟨_,Lib.hid rfl⟩
 obtain ⟨s1,HS1⟩:∃ z,Hid (z=(redA s l a red).2.1):=⟨_,Lib.hid rfl⟩
 obtain ⟨l1,HL1⟩:∃ z,Hid (z=(redA s l a red).2.2):=⟨_,Lib.hid rfl⟩
 have H13:Hid (∀ W,Below W0.heap.size W0 W→Calls Tryz.prog 13 #[.agg #[.slice p n c,.slice q m d],.int .i64 a,.int .i64 red] W (ArrPost W z1 s1 l1)):=Lib.hid (fun W hW=>by
  have h:=(HBX.out W hW).below
  rw [HZ1.out,HS1.out,HL1.out];exact reduce_any p q c d n m s l a red W (HE.out.below h) hs hl (by omega) (by omega) hnc (HP.out.below h) (HQ.out.below h))
 have H14:Hid (∀ W,Below W0.heap.size W0 W→Calls Tryz.prog 14 #[.agg #[.slice p n c,.slice q m d],.int .i64 a,.int .i64 red] W (ArrPost W z1 s1 l1)):=Lib.hid (fun W hW=>by
  have h:=(HBX.out W hW).below
  rw [HZ1.out,HS1.out,HL1.out];exact rreduce_any p q c d n m s l a red W hs hl (by omega) (by omega) hnc (HP.out.below h) (HQ.out.below h))
 obtain ⟨hle1,hle2⟩:=redA_len s l a red
 rw [← HS1.out] at hle1
 rw [← HL1.out] at hle2
 have HLE:=Lib.hid (And.intro hle1 hle2)
 clear hle1 hle2 hwn hb
 obtain ⟨-,-,b0,b1⟩:=HBX.out W0 (Below.refl _ _)
 go_enter Tryz.func4,Tryz.ntmps4
 go_wp2_with fail
 rw [HW0.out,← HA.out]
 go_wp2_with fail
 refine (H12.out).mono ?_
 rintro e w1 ⟨hb1,rfl⟩
 have HB1:=Lib.hid hb1
 clear hb1 b0 b1
 obtain ⟨-,-,b0,b1⟩:=HBX.out w1 HB1.out
 go_wp2_with fail
 refine (H13.out _ HB1.out).mono ?_
 rintro e w2 ⟨hb2,q1,q2,n1,d1,m1,d2,rfl,hn1,hm1,hr1,hr2⟩
 obtain ⟨E1,HE1⟩:∃ E,Hid (E=w2.heap.size):=⟨_,Lib.hid rfl⟩
 obtain ⟨W2,HW2⟩:∃ W,Hid (w2.alloc (.cells #[.slice q1 n1 d1,.slice q2 m1 d2] 31)=W):=⟨_,Lib.hid rfl⟩
 have hb22:Below w2.heap.size w2 W2:=by rw [← HW2.out];exact (Below.refl _ _).alloc (Nat.le_refl _) _
 have HNW2:Hid (Below w1.heap.size w1 W2):=Lib.hid (hb2.trans (hb22.mono hb2.size))
 have HB2:Hid (Below W0.heap.size W0 W2):=Lib.hid (HB1.out.trans (HNW2.out.mono HB1.out.size))
 have HXW2:Hid (W2.heap[E1]?=some (.cells #[.slice q1 n1 d1,.slice q2 m1 d2] 31 (0,0))):=Lib.hid (by rw [← HW2.out,HE1.out];exact World.alloc_heap_new _ _)
 have HRq1:Hid (RdN W2 q1 s1):=Lib.hid (hr1.below hb22)
 have HRq2:Hid (RdS W2 q2 l1):=Lib.hid (hr2.below hb22)
 have HNn1:=Lib.hid hn1
 have HMm1:=Lib.hid hm1
 clear hb2 hb22 hr1 hr2 hn1 hm1
 clear b0 b1
 obtain ⟨-,-,b0,b1⟩:=HBX.out W2 HB2.out
 rw [← HW2.out] at b0 b1
 go_wp2_with fail
 rw [HW2.out,← HE1.out]
 refine (H14.out _ HB2.out).mono ?_
 rintro e w3 ⟨hb2,q3,q4,n2,d3,m2,d4,rfl,hn1,hm1,hr1,hr2⟩
 obtain ⟨E2,HE2⟩:∃ E,Hid (E=w3.heap.size):=⟨_,Lib.hid rfl⟩
 obtain ⟨W3,HW3⟩:∃ W,Hid (w3.alloc (.cells #[.slice q3 n2 d3,.slice q4 m2 d4] 31)=W):=⟨_,Lib.hid rfl⟩
 have hb22:Below w3.heap.size w3 W3:=by rw [← HW3.out];exact (Below.refl _ _).alloc (Nat.le_refl _) _
 have HNW3:Hid (Below W2.heap.size W2 W3):=Lib.hid (hb2.trans (hb22.mono hb2.size))
 have HB3:Hid (Below W0.heap.size W0 W3):=Lib.hid (HB2.out.trans (HNW3.out.mono HB2.out.size))
 have HXW3:Hid (W3.heap[E2]?=some (.cells #[.slice q3 n2 d3,.slice q4 m2 d4] 31 (0,0))):=Lib.hid (by rw [← HW3.out,HE2.out];exact World.alloc_heap_new _ _)
 have HRq3:Hid (RdN W3 q3 s1):=Lib.hid (hr1.below hb22)
 have HRq4:Hid (RdS W3 q4 l1):=Lib.hid (hr2.below hb22)
 have HNn2:=Lib.hid hn1
 have HMm2:=Lib.hid hm1
 clear hb2 hb22 hr1 hr2 hn1 hm1
 clear b0 b1
 have e1:W3.heap[E1]?=some (.cells #[.slice q1 n1 d1,.slice q2 m1 d2] 31 (0,0)):=(HNW3.out.block E1 (Array.getElem?_eq_some_iff.1 HXW2.out).1).trans HXW2.out
 have a0:W3.cell? ⟨E1,0,none⟩=some (.slice q1 n1 d1):=by simp [World.cell?,e1]
 have a1:W3.cell? ⟨E1,1,none⟩=some (.slice q2 m1 d2):=by simp [World.cell?,e1]
 have a2:W3.cell? ⟨E2,0,none⟩=some (.slice q3 n2 d3):=by simp [World.cell?,HXW3.out]
 have a3:W3.cell? ⟨E2,1,none⟩=some (.slice q4 m2 d4):=by simp [World.cell?,HXW3.out]
 have H15:Hid (Calls Tryz.prog 15 #[.agg #[.slice q1 n1 d1,.slice q2 m1 d2],.int .i64 z1,.agg #[.slice q3 n2 d3,.slice q4 m2 d4],.int .i64 z1] W3 fun e w'=>Below W3.heap.size W3 w'∧e=.returned (.bool true)):=Lib.hid (by
  have:=agrees_any q1 q2 q3 q4 d1 d2 d3 d4 n1 m1 n2 m2 z1 z1 (s1.map Int.ofNat) (s1.map Int.ofNat) l1 l1 W3 (Lib.hid (by rw [List.length_map,HNn1.out])) HMm1 (Lib.hid (by rw [List.length_map,HNn2.out])) HMm2 (by rw [← HNn1.out];exact HLE.out.1) (by rw [← HMm1.out];exact HLE.out.2) (by rw [← HNn2.out];exact HLE.out.1) (by rw [← HMm2.out];exact HLE.out.2) (HRq1.out.below HNW3.out) (HRq2.out.below HNW3.out) HRq3.out HRq4.out
  simpa using this)
 rw [← HW3.out] at a0 a1 a2 a3
 clear e1
 rw [HE2.out] at a2 a3
 go_wp2_with fail
 rw [HW3.out]
 refine (H15.out).mono ?_
 rintro e w4 ⟨hb4,rfl⟩
 have HB4:Hid (Below W0.heap.size W0 w4):=Lib.hid (HB3.out.trans (hb4.mono HB3.out.size))
 clear hb4 a0 a1 a2 a3
 go_wp2_with fail
 refine (HSANE.out _ HB4.out).mono ?_
 rintro e w5 ⟨hb5,rfl⟩
 have HB5:=Lib.hid (HBX.out w5 hb5).below
 clear hb5
 go_wp2_with fail
 go_ret
 exact ⟨HB5.out,rfl⟩
end Go.Proofs.YtlcpcpmlfegejaaGreatDoor.Arr
set_option maxRecDepth 100000
namespace Go.Proofs.YtlcpcpmlfegejaaGreatDoor
open Go.ChangeMaps Go.ChangeShapes Go.WideShapes Go.ChangeAt Go.RowKit
namespace Arr
theorem ownK:ownKnob Tryz.prog.godebug=none:=by kernel_rfl
section
variable {H : Type} {enc : TypeId × Value → H} {P : Program}
theorem post_of_below {f:Func} {s:ChangeSpec} {apart fresh handsOn again:Bool} {W W':World} {args:Array Value} {v:Value} {ds gs:List (DataW H)} {before pa pv:List MemPlace}
  (hW:DataW.Whole enc P f.params.toList s.vars apart W args.toList ds gs before)
  (hres:∀ (b:Nat) (sp:Nat→Bool) (hd:Bool),DataW.TrodAll enc P W' b sp hd f.resultTypes.toList (v.resultList f.resultTypes.size) (s.fn H (ds++gs)).results [])
  (hargs:∀ sp:Nat→Bool,(∀ p ∈ before,sp p.block=true)→DataW.TrodAll enc P W' 0 sp true f.params.toList args.toList (s.fn H (ds++gs)).args pa)
  (hvars:∀ sp:Nat→Bool,(∀ p ∈ before,sp p.block=true)→DataW.TrodVars enc P W' sp s.vars (s.fn H (ds++gs)).vars pv)
  (hps:before=pa++pv) (hb:Below W.heap.size W W')
  (hok:∀ (j:Nat) (t:TypeId) (r:Value),f.resultTypes[j]?=some t→(v.resultList f.resultTypes.size)[j]?=some r→Value.okWide P W' .any 0 t r) :
  s.post enc P f apart fresh handsOn again W args v W':=by
 have hlt:∀ p ∈ before,p.block<W.heap.size:=fun p hp=>hW.lt p hp
 have hold:∀ p ∈ before,(fun b=>decide (b<W.heap.size)) p.block=true:=fun p hp=>by simpa using hlt p hp
 refine ⟨ds,gs,before,[],pa,pv,hW,hres _ _ _,hargs _ hold,hvars _ hold,World.keptBut_mono (fun p hp=>⟨hp,?_⟩) (hb.frame (· ∈ before)),fun _=>?_⟩
 ·rw [hps,List.mem_append] at hp
  exact Or.inr hp
 ·obtain ⟨_,_,_,_,_,hz,hn⟩:=hW
  refine ⟨hok,_,_,([]++pa)++pv,⟨[]++pa,pv,trodAll_append (hargs _ (fun _ _=>rfl)) (hres _ _ _),hvars _ (fun _ _=>rfl),rfl,?_,?_⟩,?_⟩
  ·intro b off hp
   have hin:MemPlace.cell b off ∈ before:=by rw [hps];simpa using hp
   rw [hb.frozen (hlt _ hin)]
   exact hz b off hin
  ·intro ha
   have:=hn ha
   rw [hps] at this
   simpa using this
  ·intro p hp _
   rw [hps]
   simpa using hp
end
section
variable {H : Type} {enc : TypeId × Value → H} {P : Program}
theorem trodAll_stays (hl:laidOutB P=true) {W W':World} (hb:Below W.heap.size W W') (sp:Nat→Bool) :
  ∀ (ts:List TypeId) (vs:List Value) (ds:List (DataW H)) (ps:List MemPlace),(∀ t ∈ ts,P.readableRec t=true)→(∀ t ∈ ts,t<P.types.size) →
   DataW.TrodAll enc P W 0 (fun _=>true) true ts vs ds ps→(∀ x ∈ ps,x.block<W.heap.size)→(∀ x ∈ ps,sp x.block=true)→DataW.TrodAll enc P W' 0 sp true ts vs ds ps:=by
 intro ts
 induction ts with
 | nil =>
  intro vs ds ps _ _ h _ _
  obtain ⟨rfl,rfl,rfl⟩:=trodAll_nil h
  exact trodAll_mk0
 | cons t ts ih =>
  intro vs ds ps hr hrow h hlt hsp
  obtain ⟨v,vs',d,ds',p,q,rfl,rfl,rfl,h0,h1⟩:=trodAll_cons h
  exact trodAll_cons_mk (WideElems.Trod_stays hl (hr t (by simp)) (hrow t (by simp)) h0 (fun x hx=>hb.same (hlt x (by simp [hx]))) (fun x hx=>hsp x (by simp [hx])))
   (ih vs' ds' q (fun t ht=>hr t (by simp [ht])) (fun t ht=>hrow t (by simp [ht])) h1 (fun x hx=>hlt x (by simp [hx])) (fun x hx=>hsp x (by simp [hx])))
end
theorem gPow : Tryz.prog.globalNamed "internal/strconv.uint64pow10" = some 5 := by kernel_rfl
theorem gPowType:(Tryz.prog.globals[5]?).map (·.type)=some 249:=by kernel_rfl
theorem cells215:Tryz.prog.cellsOf 249=20:=by kernel_rfl
theorem cells125:Tryz.prog.cellsOf 137=1:=by kernel_rfl
theorem gSyn : Tryz.prog.globalNamed "strconv.ErrSyntax" = some 1 := by kernel_rfl
theorem gSynType:(Tryz.prog.globals[1]?).map (·.type)=some 133:=by kernel_rfl
theorem gRng : Tryz.prog.globalNamed "strconv.ErrRange" = some 2 := by kernel_rfl
theorem gRngType:(Tryz.prog.globals[2]?).map (·.type)=some 133:=by kernel_rfl
theorem starErr : "*" ++ "errors.errorString" = "*errors.errorString" := by decide
theorem rowErr (u : TypeId) (h : Tryz.prog.typeName? 3 u = some "*errors.errorString") : u = 241 :=
 typeName_ptr_named (nm := "errors.errorString") (by rw [starErr]; kernel_rfl) (by kernel_rfl) (by decide) u (by rw [starErr]; exact h)
theorem env_met {W:World} (h:laidMet Tryz.prog Rows.arrayReducedRow.laid W):Env W:=by
 have h3:=laidMet.tail (laidMet.tail h)
 have h4:=laidMet.tail h3
 have h5:=laidMet.tail h4
 refine ⟨Lib.tabIs_of_head gPow gPowType Tryz.underlying249 Tryz.underlying137 cells125 cells215 h3,?_,?_⟩
 ·obtain ⟨a,s,hv,-,-,-⟩:=laid_sentinel h5 gSyn gSynType Tryz.underlying133 rowErr Tryz.underlying241 Tryz.underlying243 rfl rfl Tryz.underlying9 (by kernel_rfl) (by kernel_rfl)
  exact ⟨_,by simpa using World.var?_cell gSyn hv 0,.inr ⟨_,_,rfl⟩⟩
 ·obtain ⟨a,s,hv,-,-,-⟩:=laid_sentinel h4 gRng gRngType Tryz.underlying133 rowErr Tryz.underlying241 Tryz.underlying243 rfl rfl Tryz.underlying9 (by kernel_rfl) (by kernel_rfl)
  exact ⟨_,by simpa using World.var?_cell gRng hv 0,.inr ⟨_,_,rfl⟩⟩
theorem env_laid {W:World} (h:laidMetH Tryz.prog Rows.arrayReducedRow.laid W):Env W:=by
 rw [MakeChecks.laidMetH_plain _ _ _ (by kernel_rfl)] at h
 exact env_met h
theorem laidAll:laidOutB Tryz.prog=true:=by kernel_rfl
end Arr
end Go.Proofs.YtlcpcpmlfegejaaGreatDoor
set_option maxRecDepth 100000
namespace Go.Proofs.YtlcpcpmlfegejaaGreatDoor
open Go.ChangeMaps Go.ChangeShapes Go.WideShapes Go.ChangeAt Go.RowKit Go.Deep
namespace Arr
theorem cells3':Tryz.prog.cellsOf 3=1:=by kernel_rfl
theorem cells9':Tryz.prog.cellsOf 9=1:=by kernel_rfl
theorem cells25':Tryz.prog.cellsOf 31=2:=by kernel_rfl
theorem cells22':Tryz.prog.cellsOf 29=1:=by kernel_rfl
theorem cells23':Tryz.prog.cellsOf 22=1:=by kernel_rfl
theorem at_addr {w:World} {a:Addr} {x:Value} (h:w.cell? a=some x):∃ b off,a=⟨b,off,none⟩∧b<w.heap.size:=by
 have hs:=World.cell?_spot h
 obtain ⟨b,off,sp⟩:=a
 simp only at hs
 subst hs
 refine ⟨b,off,rfl,Classical.byContradiction fun hx=>?_⟩
 simp [World.cell?,hx] at h
section
variable {H : Type} {enc : TypeId × Value → H} {w : World} {base : Nat} {spare : Nat → Bool} {held : Bool} {v : Value} {y : DataW H × List MemPlace} {n : Nat}
theorem in_ints (h:DataW.trod enc Tryz.prog w base spare held n 29 [v]=some y):∃ (q:Option Addr) (c:Nat) (l:List Int),v=.slice q l.length c∧Rd w q l:=by
 rcases open_ints Tryz.underlying29 Tryz.underlying3 cells3' h with ⟨e,-⟩|⟨a,len,cap,zs,e,hb,hl,hm,hlen,-,hc,hwf⟩
 ·simp at e
  exact ⟨none,0,[],e,fun z hz=>(by cases hz),.inl rfl⟩
 ·simp at e
  have hz:len≤zs.length:=by rw [hlen];split<;>omega
  have hll:(zs.take len).length=len:=by simp [hz]
  refine ⟨some a,cap,zs.take len,by rw [hll];exact e,fun z hz2=>bounds_i64 (hwf z (List.mem_of_mem_take hz2)),?_⟩
  by_cases h0:len=0
  ·exact .inl (by rw [hll];exact h0)
  ·have h1:=hc 0 (by omega)
   rw [Addr.add_zero'] at h1
   obtain ⟨b,off,rfl,hlt⟩:=at_addr h1
   refine .inr ⟨b,off,rfl,hlt,fun j hj=>?_⟩
   rw [hll] at hj
   have h2:=hc j (by omega)
   rw [Addr.add_lit] at h2
   rw [h2,List.getD_eq_getElem?_getD,List.getD_eq_getElem?_getD,List.getElem?_take_of_lt hj]
theorem in_strs (h:DataW.trod enc Tryz.prog w base spare held n 22 [v]=some y):∃ (q:Option Addr) (c:Nat) (l:List (List UInt8)),v=.slice q l.length c∧RdS w q l:=by
 rcases open_strings Tryz.underlying22 Tryz.underlying9 cells9' h with ⟨e,-⟩|⟨a,len,cap,ss,e,hb,hl,hm,hlen,-,hc,-⟩
 ·simp at e
  exact ⟨none,0,[],e,.inl rfl⟩
 ·simp at e
  have hz:len≤ss.length:=by rw [hlen];split<;>omega
  have hll:((ss.take len).map (·.data.toList)).length=len:=by simp [hz]
  refine ⟨some a,cap,(ss.take len).map (·.data.toList),by rw [hll];exact e,?_⟩
  by_cases h0:len=0
  ·exact .inl (by rw [hll];exact h0)
  ·have h1:=hc 0 (by omega)
   rw [Addr.add_zero'] at h1
   obtain ⟨b,off,rfl,hlt⟩:=at_addr h1
   refine .inr ⟨b,off,rfl,hlt,fun j hj=>?_⟩
   rw [hll] at hj
   have h2:=hc j (by omega)
   rw [Addr.add_lit] at h2
   have hj2:j<ss.length:=by omega
   rw [h2]
   simp [List.getD_eq_getElem?_getD,hj,hj2]
end
end Arr
end Go.Proofs.YtlcpcpmlfegejaaGreatDoor
set_option maxRecDepth 100000
namespace Go.Proofs.YtlcpcpmlfegejaaGreatDoor
open Go.ChangeMaps Go.ChangeShapes Go.WideShapes Go.ChangeAt Go.RowKit Go.Deep
namespace Arr
section
variable {H : Type} {enc : TypeId × Value → H} {w : World} {base b0 : Nat} {spare : Nat → Bool} {held : Bool} {r : Reach} {v : Value} {d : DataW H} {p : List MemPlace}
end
theorem readable31:Tryz.prog.readableRec 31=true:=by kernel_rfl
theorem inTypes31:31<Tryz.prog.types.size:=of_decide_eq_true (by kernel_rfl)
theorem readable3:Tryz.prog.readableRec 3=true:=by kernel_rfl
theorem inTypes3:3<Tryz.prog.types.size:=of_decide_eq_true (by kernel_rfl)
end Arr
end Go.Proofs.YtlcpcpmlfegejaaGreatDoor
set_option maxRecDepth 100000
namespace Go.Proofs.YtlcpcpmlfegejaaGreatDoor
open Go.ChangeMaps Go.ChangeShapes Go.WideShapes Go.ChangeAt Go.RowKit Go.Deep
namespace Arr
section
variable {H : Type} {enc : TypeId × Value → H} {w : World} {base b0 : Nat} {spare : Nat → Bool} {held : Bool} {r : Reach} {v : Value} {d : DataW H} {p : List MemPlace}
theorem in_intsc {y:DataW H × List MemPlace} {n:Nat} (h:DataW.trod enc Tryz.prog w base spare held n 29 [v]=some y):∃ (q:Option Addr) (c:Nat) (l:List Int),v=.slice q l.length c∧l.length≤c∧Rd w q l:=by
 obtain ⟨q,c,l,e,hr⟩:=in_ints h
 refine ⟨q,c,l,e,?_,hr⟩
 rcases open_ints Tryz.underlying29 Tryz.underlying3 cells3' h with ⟨e2,-⟩|⟨a,len,cap,zs,e2,hb,hl,-⟩
 ·injection e2 with e2 _
  rw [e2] at e
  injection e with e3 e4 e5
  omega
 ·injection e2 with e2 _
  rw [e2] at e
  injection e with e3 e4 e5
  omega
theorem in_arrayc (hv:Value.okWide Tryz.prog w r b0 31 v) (h:DataW.Trod enc Tryz.prog w base spare held 31 v d p) :
  ∃ (pa qa:Option Addr) (c c':Nat) (s:List Int) (l:List (List UInt8)),v=.agg #[.slice pa s.length c,.slice qa l.length c']∧s.length≤c∧Rd w pa s∧RdS w qa l:=by
 obtain ⟨cs,rfl,hsz⟩:=okWide_struct Tryz.underlying31 hv
 obtain ⟨x0,x1,rfl⟩:=Go.Joins.array2 (hsz.trans cells25')
 obtain ⟨fuel,hf⟩:=h
 obtain ⟨y3,y4,n2,-,-,g0,g1⟩:=trod_struct2 Tryz.underlying31 hf
 simp [Value.cells,cells22',cells23'] at g0 g1
 obtain ⟨pa,c,s,rfl,hc,hr0⟩:=in_intsc g0
 obtain ⟨qa,c',l,rfl,hr1⟩:=in_strs g1
 exact ⟨pa,qa,c,c',s,l,rfl,hc,hr0,hr1⟩
end
end Arr
end Go.Proofs.YtlcpcpmlfegejaaGreatDoor
