/- Arrays that are the same: the reference's Same, the laws' agrees. -/
import Derived.Test.YtlcpcpmlfegejaaGreatDoorGQ
import Derived.Laws.ResultCell
set_option maxHeartbeats 4000000
set_option maxRecDepth 100000
namespace Go.Proofs.YtlcpcpmlfegejaaGreatDoor.Arr
open Go.RowKit Go.Shelf
open Go.Lib
attribute [local go_sem] Oper.semAt_some
theorem same_any (p1 q1 p2 q2:Option Addr) (c1 d1 c2 d2 n1 m1 n2 m2:Nat) (s1 s2:List Int) (l1 l2:List (List UInt8)) (w:World) (hs1:Hid (s1.length=n1)) (hl1:Hid (l1.length=m1)) (hs2:Hid (s2.length=n2)) (hl2:Hid (l2.length=m2)) (hn:n1≤1000) (hm:m1≤5000) (hn2:n2≤1000) (hm2:m2≤5000) (hp1:Rd w p1 s1) (hq1:RdS w q1 l1) (hp2:Rd w p2 s2) (hq2:RdS w q2 l2) :
  Calls Tryz.prog 20 #[.agg #[.slice p1 n1 c1,.slice q1 m1 d1],.agg #[.slice p2 n2 c2,.slice q2 m2 d2]] w fun e w'=>Below w.heap.size w w'∧e=.returned (.bool (decide (s1=s2)&&decide (l1=l2))):=by
 have HP1:=Lib.hid hp1
 have HQ1:=Lib.hid hq1
 have HP2:=Lib.hid hp2
 have HQ2:=Lib.hid hq2
 have i1:(n1:Int)≤1000:=by omega
 have i2:(n2:Int)≤1000:=by omega
 have i3:(m1:Int)≤5000:=by omega
 have i4:(m2:Int)≤5000:=by omega
 obtain ⟨v,HV⟩:∃ v,Hid (v=(decide (s1=s2)&&decide (l1=l2))):=⟨_,rfl⟩
 rw [← HV.out]
 have HNN:Hid (n1≠n2→v=false):=Lib.hid (fun h=>by rw [HV.out,decide_eq_false (fun e=>h (by rw [← hs1.out,← hs2.out,e])),Bool.false_and])
 have HNM:Hid (m1≠m2→v=false):=Lib.hid (fun h=>by rw [HV.out,decide_eq_false (p:=l1=l2) (fun e=>h (by rw [← hl1.out,← hl2.out,e])),Bool.and_false])
 have HNS:Hid (∀ k,s1.getD k 0≠s2.getD k 0→v=false):=Lib.hid (fun k h=>by rw [HV.out,decide_eq_false (fun e=>h (by rw [e])),Bool.false_and])
 have HNL:Hid (∀ k,l1.getD k []≠l2.getD k []→v=false):=Lib.hid (fun k h=>by rw [HV.out,decide_eq_false (p:=l1=l2) (fun e=>h (by rw [e])),Bool.and_false])
 obtain ⟨A,HA⟩:∃ A,Hid (A=w.heap.size):=⟨_,Lib.hid rfl⟩
 obtain ⟨W0,HW0⟩:∃ W0,Hid ((w.alloc (.cells #[.slice p1 n1 c1,.slice q1 m1 d1] 31)).alloc (.cells #[.slice p2 n2 c2,.slice q2 m2 d2] 31)=W0):=⟨_,Lib.hid rfl⟩
 have HB0:Hid (Below w.heap.size w W0):=Lib.hid (by rw [← HW0.out];exact ((Below.refl _ w).alloc (Nat.le_refl _) _).alloc (by simp) _)
 have hs0:W0.heap.size=A+1+1:=by rw [← HW0.out,HA.out];simp
 have hA0:W0.heap[A]?=some (.cells #[.slice p1 n1 c1,.slice q1 m1 d1] 31 (0,0)):=by
  rw [← HW0.out,HA.out,(Below.alloc (Below.refl (w.alloc (.cells #[.slice p1 n1 c1,.slice q1 m1 d1] 31)).heap.size _) (Nat.le_refl _) _).block w.heap.size (by simp)]
  exact World.alloc_heap_new w _
 have hA1:W0.heap[A+1]?=some (.cells #[.slice p2 n2 c2,.slice q2 m2 d2] 31 (0,0)):=by
  rw [← HW0.out,HA.out,show w.heap.size+1=(w.alloc (.cells #[.slice p1 n1 c1,.slice q1 m1 d1] 31)).heap.size by simp]
  exact World.alloc_heap_new _ _
 have HBX:Hid (∀ W,Below W0.heap.size W0 W→W.cell? ⟨A,0,none⟩=some (.slice p1 n1 c1)∧W.cell? ⟨A,1,none⟩=some (.slice q1 m1 d1)∧W.cell? ⟨A+1,0,none⟩=some (.slice p2 n2 c2)∧W.cell? ⟨A+1,1,none⟩=some (.slice q2 m2 d2)∧Rd W p1 s1∧RdS W q1 l1∧Rd W p2 s2∧RdS W q2 l2):=Lib.hid (fun W hW=>by
  have h0:=(hW.block A (by omega)).trans hA0
  have h1:=(hW.block (A+1) (by omega)).trans hA1
  have hb:=HB0.out.trans (hW.mono HB0.out.size)
  exact ⟨by simp [World.cell?,h0],by simp [World.cell?,h0],by simp [World.cell?,h1],by simp [World.cell?,h1],HP1.out.below hb,HQ1.out.below hb,HP2.out.below hb,HQ2.out.below hb⟩)
 obtain ⟨b1,b2,b3,b4,-⟩:=HBX.out W0 (Below.refl _ _)
 clear hp1 hq1 hp2 hq2 hs0 hA0 hA1
 have HBA:Hid (∀ W,Below W0.heap.size W0 W→Below A w W):=Lib.hid (fun W hW=>by rw [HA.out];exact HB0.out.trans (hW.mono HB0.out.size))
 by_cases hnn:n1≠n2
 ·have ine:¬ (n1:Int)=(n2:Int):=by omega
  obtain rfl:v=false:=HNN.out hnn
  go_enter Tryz.func20,Tryz.ntmps20
  go_wp2_with fail
  rw [HW0.out,← HA.out]
  go_wp2_with fail
  go_ret
  exact ⟨HBA.out _ (Below.refl _ _),rfl⟩
 obtain rfl:n1=n2:=by omega
 by_cases hmm:m1≠m2
 ·have ine:¬ (m1:Int)=(m2:Int):=by omega
  obtain rfl:v=false:=HNM.out hmm
  go_enter Tryz.func20,Tryz.ntmps20
  go_wp2_with fail
  rw [HW0.out,← HA.out]
  go_wp2_with fail
  go_ret
  exact ⟨HBA.out _ (Below.refl _ _),rfl⟩
 obtain rfl:m1=m2:=by omega
 go_enter Tryz.func20,Tryz.ntmps20
 go_wp2_with fail
 rw [HW0.out,← HA.out]
 go_wp2_with fail
 clear b1 b2 b3 b4
 go_loopw [5] (fun iv wr=>∃ i:Nat,i≤n1∧iv=.int .i64 i∧Hid (∀ k,k<i→s1.getD k 0=s2.getD k 0)∧Hid (Below W0.heap.size W0 wr)) (fun iv _=>n1-(Go.RowKit.intOf iv).toNat)
 case atStart=>exact ⟨0,Nat.zero_le _,rfl,Lib.hid (fun k hk=>by omega),Lib.hid (Below.refl _ _)⟩
 case round =>
  obtain ⟨i,hi,rfl,HQ,HB⟩:=hrel
  have ii:(i:Int)≤(n1:Int):=by omega
  obtain ⟨b1,b2,b3,b4,r1,r2,r3,r4⟩:=HBX.out _ HB.out
  have HBQ:Hid (∀ q,Below W0.heap.size W0 (wr.drewN q)):=Lib.hid (fun q=>HB.out.trans ⟨rfl,rfl,rfl,Nat.le_refl _,fun _ _=>rfl⟩)
  have HR2:=Lib.hid r2
  have HR4:=Lib.hid r4
  by_cases hlt:i<n1
  ·have ilt:(i:Int)<(n1:Int):=by omega
   obtain ⟨a1,o1,x,e1,ha1,hx,HX,-,-⟩:=r1.at (k:=i) (by rw [hs1.out];exact hlt)
   obtain ⟨a2,o2,y,e2,ha2,hy,HY,-,-⟩:=r3.at (k:=i) (by rw [hs2.out];exact hlt)
   clear r1 r2 r3 r4
   subst e1 e2
   by_cases hxy:x=y
   ·subst hxy
    have hst:Hid (∀ k,k<i+1→s1.getD k 0=s2.getD k 0):=Lib.hid (fun k hk=>by
     by_cases e:k=i
     ·rw [e,← HX.out,← HY.out]
     ·exact HQ.out k (by omega))
    go_wp2_with fail
    go_quiet (fail)
    go_wp2_with fail
    go_roundw
    case rel=>exact ⟨i+1,by omega,by go_num,hst,Lib.hid (HBQ.out _)⟩
    case measure=>simp [Go.RowKit.intOf];omega
   ·obtain rfl:v=false:=HNS.out i (by rw [← HX.out,← HY.out];exact hxy)
    have dxy:(x != y)=true:=by simpa using hxy
    go_wp2_with fail
    go_quiet (fail)
    go_wp2_with fail
    go_ret
    first|exact ⟨HBA.out _ (HBQ.out _),rfl⟩|exact ⟨by rw [← HA.out];exact HBA.out _ (HBQ.out _),rfl⟩
  ·obtain rfl:i=n1:=by omega
   have ilt:¬ (i:Int)<(i:Int):=by omega
   clear r1 r2 r3 r4
   go_wp2_with fail
   have HSS:Hid (s1=s2):=Lib.hid (List.ext_getElem (by rw [hs1.out,hs2.out]) (fun k h1 h2=>by
    have:=HQ.out k (by rw [← hs1.out];exact h1)
    rwa [List.getD_eq_getElem?_getD,List.getElem?_eq_getElem h1,List.getD_eq_getElem?_getD,List.getElem?_eq_getElem h2] at this))
   go_loopw [6] (fun iv wr2=>∃ j:Nat,j≤m1∧iv=.int .i64 j∧Hid (∀ k,k<j→l1.getD k []=l2.getD k [])∧Hid (Below W0.heap.size W0 wr2)) (fun iv _=>m1-(Go.RowKit.intOf iv).toNat)
   case atStart=>exact ⟨0,Nat.zero_le _,rfl,Lib.hid (fun k hk=>by omega),HB⟩
   case round =>
    clear b1 b2 b3 b4 HB HBQ HR2 HR4 HQ
    obtain ⟨j,hj,rfl,HQ,HB⟩:=hrel
    have ij:(j:Int)≤(m1:Int):=by omega
    obtain ⟨b1,b2,b3,b4,r1,r2,r3,r4⟩:=HBX.out _ HB.out
    have HBQ:Hid (∀ q,Below W0.heap.size W0 (wr.drewN q)):=Lib.hid (fun q=>HB.out.trans ⟨rfl,rfl,rfl,Nat.le_refl _,fun _ _=>rfl⟩)
    by_cases hlt:j<m1
    ·have jlt:(j:Int)<(m1:Int):=by omega
     obtain ⟨a1,o1,x,e1,ha1,hx,HX⟩:=r2.at (k:=j) (by rw [hl1.out];exact hlt)
     obtain ⟨a2,o2,y,e2,ha2,hy,HY⟩:=r4.at (k:=j) (by rw [hl2.out];exact hlt)
     clear r1 r2 r3 r4
     subst e1 e2
     by_cases hxy:x=y
     ·subst hxy
      have hst:Hid (∀ k,k<j+1→l1.getD k []=l2.getD k []):=Lib.hid (fun k hk=>by
       by_cases e:k=j
       ·rw [e,← HX.out,← HY.out]
       ·exact HQ.out k (by omega))
      go_wp2_with fail
      go_quiet (fail)
      go_wp2_with fail
      go_roundw
      case rel=>exact ⟨j+1,by omega,by go_num,hst,Lib.hid (HBQ.out _)⟩
      case measure=>simp [Go.RowKit.intOf];omega
     ·obtain rfl:v=false:=HNL.out j (by rw [← HX.out,← HY.out];exact hxy)
      have dxy:(x==y)=false:=by simpa using hxy
      go_wp2_with fail
      go_quiet (fail)
      go_wp2_with fail
      go_ret
      first|exact ⟨HBA.out _ (HBQ.out _),rfl⟩|exact ⟨by rw [← HA.out];exact HBA.out _ (HBQ.out _),rfl⟩
    ·obtain rfl:j=m1:=by omega
     have jlt:¬ (j:Int)<(j:Int):=by omega
     have HLL:Hid (l1=l2):=Lib.hid (List.ext_getElem (by rw [hl1.out,hl2.out]) (fun k h1 h2=>by
      have:=HQ.out k (by rw [← hl1.out];exact h1)
      rwa [List.getD_eq_getElem?_getD,List.getElem?_eq_getElem h1,List.getD_eq_getElem?_getD,List.getElem?_eq_getElem h2] at this))
     obtain rfl:v=true:=by rw [HV.out,HSS.out,HLL.out];simp
     clear r1 r2 r3 r4
     go_wp2_with fail
     go_ret
     first|exact ⟨HBA.out _ HB.out,rfl⟩|exact ⟨by rw [← HA.out];exact HBA.out _ HB.out,rfl⟩
end Go.Proofs.YtlcpcpmlfegejaaGreatDoor.Arr
set_option maxHeartbeats 4000000
set_option maxRecDepth 100000
namespace Go.Proofs.YtlcpcpmlfegejaaGreatDoor.Arr
open Go.RowKit Go.Shelf
open Go.Lib
attribute [local go_sem] Oper.semAt_some
theorem agrees_any (p1 q1 p2 q2:Option Addr) (c1 d1 c2 d2 n1 m1 n2 m2:Nat) (z1 z2:Int) (s1 s2:List Int) (l1 l2:List (List UInt8)) (w:World) (hs1:Hid (s1.length=n1)) (hl1:Hid (l1.length=m1)) (hs2:Hid (s2.length=n2)) (hl2:Hid (l2.length=m2)) (hn:n1≤1000) (hm:m1≤5000) (hn2:n2≤1000) (hm2:m2≤5000) (hp1:Rd w p1 s1) (hq1:RdS w q1 l1) (hp2:Rd w p2 s2) (hq2:RdS w q2 l2) :
  Calls Tryz.prog 15 #[.agg #[.slice p1 n1 c1,.slice q1 m1 d1],.int .i64 z1,.agg #[.slice p2 n2 c2,.slice q2 m2 d2],.int .i64 z2] w fun e w'=>Below w.heap.size w w'∧e=.returned (.bool (decide (z1=z2)&&(decide (s1=s2)&&decide (l1=l2)))):=by
 have HP1:=Lib.hid hp1
 have HQ1:=Lib.hid hq1
 have HP2:=Lib.hid hp2
 have HQ2:=Lib.hid hq2
 obtain ⟨A,HA⟩:∃ A,Hid (A=w.heap.size):=⟨_,Lib.hid rfl⟩
 obtain ⟨W0,HW0⟩:∃ W0,Hid ((w.alloc (.cells #[.slice p1 n1 c1,.slice q1 m1 d1] 31)).alloc (.cells #[.slice p2 n2 c2,.slice q2 m2 d2] 31)=W0):=⟨_,Lib.hid rfl⟩
 have HB0:Hid (Below w.heap.size w W0):=Lib.hid (by rw [← HW0.out];exact ((Below.refl _ w).alloc (Nat.le_refl _) _).alloc (by simp) _)
 have hs0:W0.heap.size=A+1+1:=by rw [← HW0.out,HA.out];simp
 have hA0:W0.heap[A]?=some (.cells #[.slice p1 n1 c1,.slice q1 m1 d1] 31 (0,0)):=by
  rw [← HW0.out,HA.out,(Below.alloc (Below.refl (w.alloc (.cells #[.slice p1 n1 c1,.slice q1 m1 d1] 31)).heap.size _) (Nat.le_refl _) _).block w.heap.size (by simp)]
  exact World.alloc_heap_new w _
 have hA1:W0.heap[A+1]?=some (.cells #[.slice p2 n2 c2,.slice q2 m2 d2] 31 (0,0)):=by
  rw [← HW0.out,HA.out,show w.heap.size+1=(w.alloc (.cells #[.slice p1 n1 c1,.slice q1 m1 d1] 31)).heap.size by simp]
  exact World.alloc_heap_new _ _
 have HBX:Hid (∀ W,Below W0.heap.size W0 W→W.cell? ⟨A,0,none⟩=some (.slice p1 n1 c1)∧W.cell? ⟨A,1,none⟩=some (.slice q1 m1 d1)∧W.cell? ⟨A+1,0,none⟩=some (.slice p2 n2 c2)∧W.cell? ⟨A+1,1,none⟩=some (.slice q2 m2 d2)∧Rd W p1 s1∧RdS W q1 l1∧Rd W p2 s2∧RdS W q2 l2):=Lib.hid (fun W hW=>by
  have h0:=(hW.block A (by omega)).trans hA0
  have h1:=(hW.block (A+1) (by omega)).trans hA1
  have hb:=HB0.out.trans (hW.mono HB0.out.size)
  exact ⟨by simp [World.cell?,h0],by simp [World.cell?,h0],by simp [World.cell?,h1],by simp [World.cell?,h1],HP1.out.below hb,HQ1.out.below hb,HP2.out.below hb,HQ2.out.below hb⟩)
 obtain ⟨b1,b2,b3,b4,-⟩:=HBX.out W0 (Below.refl _ _)
 clear hp1 hq1 hp2 hq2 hs0 hA0 hA1
 obtain ⟨v,HV⟩:∃ v,Hid (v=(decide (s1=s2)&&decide (l1=l2))):=⟨_,Lib.hid rfl⟩
 rw [← HV.out]
 have H37:Hid (∀ W,Below W0.heap.size W0 W→Calls Tryz.prog 20 #[.agg #[.slice p1 n1 c1,.slice q1 m1 d1],.agg #[.slice p2 n2 c2,.slice q2 m2 d2]] W fun e w'=>Below W.heap.size W w'∧e=.returned (.bool v)):=Lib.hid (fun W hW=>by
  obtain ⟨-,-,-,-,r1,r2,r3,r4⟩:=HBX.out W hW
  rw [HV.out]
  exact same_any p1 q1 p2 q2 c1 d1 c2 d2 n1 m1 n2 m2 s1 s2 l1 l2 W hs1 hl1 hs2 hl2 hn hm hn2 hm2 r1 r2 r3 r4)
 clear b1 b2 b3 b4
 by_cases hz:z1=z2
 ·subst hz
  rw [decide_eq_true rfl,Bool.true_and]
  go_enter Tryz.func15,Tryz.ntmps15
  go_wp2_with fail
  rw [HW0.out]
  refine (H37.out _ (Below.refl _ _)).mono ?_
  rintro e w1 ⟨hb,rfl⟩
  have HB1:Hid (Below w.heap.size w w1):=Lib.hid (HB0.out.trans (hb.mono HB0.out.size))
  clear hb
  go_wp2_with fail
  go_ret
  exact ⟨HB1.out,rfl⟩
 ·rw [decide_eq_false hz,Bool.false_and]
  go_enter Tryz.func15,Tryz.ntmps15
  go_wp2_with fail
  rw [HW0.out]
  go_ret
  exact ⟨HB0.out,rfl⟩
def wideT (s:List Int) (l:List (List UInt8)):Bool:=decide (10<s.length) || (decide (100<l.length) || l.any (fun x=>decide (200<x.length)))
theorem wide_any (p q:Option Addr) (c d n m:Nat) (s:List Int) (l:List (List UInt8)) (w:World) (hs:Hid (s.length=n)) (hl:Hid (l.length=m)) (hq:RdS w q l) :
  Calls Tryz.prog 12 #[.agg #[.slice p n c,.slice q m d]] w fun e w'=>Below w.heap.size w w'∧e=.returned (.bool (wideT s l)):=by
 have HQ:=Lib.hid hq
 obtain ⟨A,HA⟩:∃ A,Hid (A=w.heap.size):=⟨_,Lib.hid rfl⟩
 obtain ⟨W0,HW0⟩:∃ W0,Hid (w.alloc (.cells #[.slice p n c,.slice q m d] 31)=W0):=⟨_,Lib.hid rfl⟩
 have HB0:Hid (Below w.heap.size w W0):=Lib.hid (by rw [← HW0.out];exact (Below.refl _ w).alloc (Nat.le_refl _) _)
 have HX0:Hid (W0.heap[A]?=some (.cells #[.slice p n c,.slice q m d] 31 (0,0))):=Lib.hid (by rw [← HW0.out,HA.out];exact World.alloc_heap_new w _)
 have HBX:Hid (∀ W,Below W0.heap.size W0 W→W.cell? ⟨A,0,none⟩=some (.slice p n c)∧W.cell? ⟨A,1,none⟩=some (.slice q m d)∧RdS W q l∧Below w.heap.size w W):=Lib.hid (fun W hW=>by
  have h0:=(hW.block A (Array.getElem?_eq_some_iff.1 HX0.out).1).trans HX0.out
  have hb:=HB0.out.trans (hW.mono HB0.out.size)
  exact ⟨by simp [World.cell?,h0],by simp [World.cell?,h0],HQ.out.below hb,hb⟩)
 obtain ⟨v,HV⟩:∃ v,Hid (v=wideT s l):=⟨_,Lib.hid rfl⟩
 rw [← HV.out]
 have HN1:Hid (10<n→v=true):=Lib.hid (fun h=>by rw [HV.out];unfold wideT;rw [decide_eq_true (by rw [hs.out];exact h),Bool.true_or])
 have HN2:Hid (100<m→v=true):=Lib.hid (fun h=>by rw [HV.out];unfold wideT;rw [decide_eq_true (p:=100<l.length) (by rw [hl.out];exact h),Bool.true_or,Bool.or_true])
 have HN3:Hid (∀ k,k<m→200<(l.getD k []).length→v=true):=Lib.hid (fun k hk h=>by
  have:l.any (fun x=>decide (200<x.length))=true:=List.any_eq_true.2 ⟨l.getD k [],by rw [List.getD_eq_getElem?_getD,List.getElem?_eq_getElem (by rw [hl.out];exact hk)];exact List.getElem_mem _,decide_eq_true h⟩
  rw [HV.out];unfold wideT;rw [this,Bool.or_true,Bool.or_true])
 have HN4:Hid (¬ 10<n→¬ 100<m→(∀ k,k<m→¬ 200<(l.getD k []).length)→v=false):=Lib.hid (fun h1 h2 h3=>by
  have:l.any (fun x=>decide (200<x.length))=false:=List.any_eq_false.2 (fun x hx=>by
   obtain ⟨k,hk,e⟩:=List.getElem_of_mem hx
   have:=h3 k (by rw [← hl.out];exact hk)
   rw [List.getD_eq_getElem?_getD,List.getElem?_eq_getElem hk,Option.getD_some,e] at this
   simpa using this)
  rw [HV.out];unfold wideT;rw [this,decide_eq_false (by rw [hs.out];exact h1),decide_eq_false (p:=100<l.length) (by rw [hl.out];exact h2)];rfl)
 obtain ⟨b1,b2,-,hb⟩:=HBX.out W0 (Below.refl _ _)
 clear hq hb
 by_cases h10:10<n
 ·have i10:(10:Int)<(n:Int):=by omega
  obtain rfl:v=true:=HN1.out h10
  go_enter Tryz.func12,Tryz.ntmps12
  go_wp2_with fail
  rw [HW0.out,← HA.out]
  go_wp2_with fail
  go_ret
  exact ⟨by first|exact HB0.out|(rw [HA.out];exact HB0.out),rfl⟩
 have i10:¬ (10:Int)<(n:Int):=by omega
 by_cases h100:100<m
 ·have i100:(100:Int)<(m:Int):=by omega
  obtain rfl:v=true:=HN2.out h100
  go_enter Tryz.func12,Tryz.ntmps12
  go_wp2_with fail
  rw [HW0.out,← HA.out]
  go_wp2_with fail
  go_ret
  exact ⟨by first|exact HB0.out|(rw [HA.out];exact HB0.out),rfl⟩
 have i100:¬ (100:Int)<(m:Int):=by omega
 have mi:(m:Int)≤100:=by omega
 go_enter Tryz.func12,Tryz.ntmps12
 go_wp2_with fail
 rw [HW0.out,← HA.out]
 go_wp2_with fail
 clear b1 b2 i10 i100
 go_loopw [3] (fun iv wr=>∃ i:Nat,i≤m∧iv=.int .i64 i∧Hid (∀ k,k<i→¬ 200<(l.getD k []).length)∧Hid (Below W0.heap.size W0 wr)) (fun iv _=>m-(Go.RowKit.intOf iv).toNat)
 case atStart=>exact ⟨0,Nat.zero_le _,rfl,Lib.hid (fun k hk=>by omega),Lib.hid (Below.refl _ _)⟩
 case round =>
  obtain ⟨i,hi,rfl,HA2,HB⟩:=hrel
  have ii:(i:Int)≤(m:Int):=by omega
  obtain ⟨b1,b2,r1,hb⟩:=HBX.out _ HB.out
  have HBF:=Lib.hid hb
  clear hb
  by_cases hlt:i<m
  ·have ilt:(i:Int)<(m:Int):=by omega
   obtain ⟨a1,o1,x,e1,ha1,hx,HX⟩:=r1.at (k:=i) (by rw [hl.out];exact hlt)
   clear r1
   subst e1
   by_cases hw:200<x.length
   ·have ixw:(200:Int)<(x.length:Int):=by omega
    obtain rfl:v=true:=HN3.out i hlt (by rw [← HX.out];exact hw)
    go_wp2_with fail
    go_ret
    exact ⟨HBF.out,rfl⟩
   ·have ixw:¬ (200:Int)<(x.length:Int):=by omega
    have hst:Hid (∀ k,k<i+1→¬ 200<(l.getD k []).length):=Lib.hid (fun k hk=>by
     by_cases e:k=i
     ·rw [e,← HX.out];exact hw
     ·exact HA2.out k (by omega))
    go_wp2_with fail
    go_roundw
    case rel=>exact ⟨i+1,by omega,by go_num,hst,HB⟩
    case measure=>simp [Go.RowKit.intOf];omega
  ·obtain rfl:i=m:=by omega
   have ilt:¬ (i:Int)<(i:Int):=by omega
   obtain rfl:v=false:=HN4.out h10 h100 HA2.out
   clear r1
   go_wp2_with fail
   go_ret
   exact ⟨HBF.out,rfl⟩
end Go.Proofs.YtlcpcpmlfegejaaGreatDoor.Arr
set_option maxHeartbeats 4000000
set_option maxRecDepth 100000
namespace Go.Proofs.YtlcpcpmlfegejaaGreatDoor.Arr
open Go.RowKit Go.Shelf
open Go.Lib
attribute [local go_sem] Oper.semAt_some
def sS:List Nat:=[2,3]
def sL:List (List UInt8):=[[49],[50],[51],[52],[53],[54]]
def sC:List (Int × Int × Int):=[(0,2,1),(0,2,2)]
theorem s_valid:validA (sS.map Int.ofNat) sL=true:=by kernel_rfl
theorem s_slab:slabOk sS sC=true:=by kernel_rfl
theorem s_val:sliceV sS sL sC=[[49],[51],[52],[54]]:=by kernel_rfl
theorem s_prod:prod (cnts sC)=4:=by kernel_rfl
theorem sane_any (w:World) (he:Env w) :
  Calls Tryz.prog 9 #[] w fun e w'=>Below w.heap.size w w'∧e=.returned (.bool true):=by
 have HE:=Lib.hid he
 clear he
 go_enter Tryz.func9,Tryz.ntmps9
 go_wp2_with fail
 obtain ⟨A,HA⟩:∃ A,Hid (A=w.heap.size):=⟨_,Lib.hid rfl⟩
 obtain ⟨W0,HW0⟩:∃ W0,Hid ((((w.alloc (.cells #[.int .i64 2,.int .i64 3] 3)).alloc (.cells #[.string ⟨#[49]⟩,.string ⟨#[50]⟩,.string ⟨#[51]⟩,.string ⟨#[52]⟩,.string ⟨#[53]⟩,.string ⟨#[54]⟩] 9)).alloc (.cells #[.slice (some ⟨w.heap.size,0,none⟩) 2 2,.slice (some ⟨w.heap.size+1,0,none⟩) 6 6] 31)).alloc (.cells #[.int .i64 0,.int .i64 2,.int .i64 1,.int .i64 0,.int .i64 2,.int .i64 2] 53)=W0):=⟨_,Lib.hid rfl⟩
 have HB0:Hid (Below w.heap.size w W0):=Lib.hid (by rw [← HW0.out];exact ((((Below.refl _ w).alloc (Nat.le_refl _) _).alloc (by simp) _).alloc (by simp;omega) _).alloc (by simp;omega) _)
 have b0:W0.heap[w.heap.size]?=some (.cells #[.int .i64 2,.int .i64 3] 3 (0,0)):=by
  rw [← HW0.out];simp only [World.alloc,Array.getElem?_push,Array.size_push]
  repeat' (first|rw [if_pos (by omega)] | rw [if_neg (by omega)] | rfl)
 have b1:W0.heap[w.heap.size+1]?=some (.cells #[.string ⟨#[49]⟩,.string ⟨#[50]⟩,.string ⟨#[51]⟩,.string ⟨#[52]⟩,.string ⟨#[53]⟩,.string ⟨#[54]⟩] 9 (0,0)):=by
  rw [← HW0.out];simp only [World.alloc,Array.getElem?_push,Array.size_push]
  repeat' (first|rw [if_pos (by omega)] | rw [if_neg (by omega)] | rfl)
 have b3:W0.heap[w.heap.size+1+1+1]?=some (.cells #[.int .i64 0,.int .i64 2,.int .i64 1,.int .i64 0,.int .i64 2,.int .i64 2] 53 (0,0)):=by
  rw [← HW0.out];simp only [World.alloc,Array.getElem?_push,Array.size_push]
  repeat' (first|rw [if_pos (by omega)] | rw [if_neg (by omega)] | rfl)
 have sz:∀ {k:Nat} {o:Obj},W0.heap[k]?=some o→k<W0.heap.size:=fun hh=>(Array.getElem?_eq_some_iff.1 hh).1
 have r0:RdN W0 (some ⟨w.heap.size,0,none⟩) sS:=⟨fun z hz=>by
   simp only [sS,List.map_cons,List.map_nil,List.mem_cons,List.not_mem_nil,or_false] at hz
   rcases hz with rfl|rfl<;>decide,.inr ⟨_,_,rfl,sz b0,fun j hj=>by
   have hj2:j<2:=hj
   have e:j=0∨j=1:=by omega
   rcases e with rfl|rfl<;>simp [World.cell?,b0,sS]⟩⟩
 have r1:RdS W0 (some ⟨w.heap.size+1,0,none⟩) sL:=.inr ⟨_,_,rfl,sz b1,fun j hj=>by
   have hj2:j<6:=hj
   have e:j=0∨j=1∨j=2∨j=3∨j=4∨j=5:=by omega
   rcases e with rfl|rfl|rfl|rfl|rfl|rfl<;>simp [World.cell?,b1,sL]⟩
 have r3:RdC W0 (some ⟨w.heap.size+1+1+1,0,none⟩) sC:=⟨fun z hz=>by
   simp only [sC,List.mem_cons,List.not_mem_nil,or_false] at hz
   rcases hz with rfl|rfl<;>decide,.inr ⟨_,_,rfl,sz b3,fun j hj=>by
   have hj2:j<2:=hj
   have e:j=0∨j=1:=by omega
   rcases e with rfl|rfl<;>simp [World.cell?,b3,sC]⟩⟩
 have hsh:Shp sS:=by unfold Shp;decide
 have H23:=Lib.hid (slice_yes (some ⟨w.heap.size,0,none⟩) (some ⟨w.heap.size+1,0,none⟩) (some ⟨w.heap.size+1+1+1,0,none⟩) 2 6 2 6 2 sS sC sL W0 (HE.out.below HB0.out) (Lib.hid rfl) (Lib.hid rfl) (by omega) (Lib.hid hsh) r0 r1 r3 s_valid (Lib.hid s_slab))
 clear b0 b1 b3 r0 r1 r3
 rw [HW0.out]
 refine (H23.out).mono ?_
 rintro e w1 ⟨hb1,q,d,V,rfl,-,-,-,-,hv,hV⟩
 rw [s_prod]
 rw [s_val] at hv
 have HB1:Hid (Below w.heap.size w w1):=Lib.hid (HB0.out.trans (hb1.mono HB0.out.size))
 have v1:w1.cell? ⟨V,1,none⟩=some (.string ⟨#[51]⟩):=by
  obtain ⟨b,off,x,e,-,hc,hx⟩:=hv.at (k:=1) (by decide)
  cases e;rw [hx.out] at hc;simpa using hc
 have v3:w1.cell? ⟨V,3,none⟩=some (.string ⟨#[54]⟩):=by
  obtain ⟨b,off,x,e,-,hc,hx⟩:=hv.at (k:=3) (by decide)
  cases e;rw [hx.out] at hc;simpa using hc
 have hVs:V<w1.heap.size:=by
  obtain ⟨b,off,x,e,hb,-⟩:=hv.at (k:=1) (by decide)
  cases e;exact hb
 have hBo:=fun o=>(Below.refl w1.heap.size w1).alloc (Nat.le_refl _) o
 have k1:(w1.alloc (.cells #[.slice q 2 d,.slice (some ⟨V,0,none⟩) 4 4] 31)).cell? ⟨V,1,none⟩=some (.string ⟨#[51]⟩):=((hBo _).cell (p:=⟨V,1,none⟩) hVs).trans v1
 have k3:(w1.alloc (.cells #[.slice q 2 d,.slice (some ⟨V,0,none⟩) 4 4] 31)).cell? ⟨V,3,none⟩=some (.string ⟨#[54]⟩):=((hBo _).cell (p:=⟨V,3,none⟩) hVs).trans v3
 have HBF:Hid (Below w.heap.size w (w1.alloc (.cells #[.slice q 2 d,.slice (some ⟨V,0,none⟩) 4 4] 31))):=Lib.hid (HB1.out.trans ((hBo _).mono HB1.out.size))
 clear hb1 hv hV hBo sz v1 v3 hVs H23
 go_wp2_with fail
 go_ret
 exact ⟨HBF.out,rfl⟩
end Go.Proofs.YtlcpcpmlfegejaaGreatDoor.Arr
