/- Contracts. -/
import Derived.Test.YtgepehlpjpccaaaGreatDoorWDA
import Derived.RangeFuncFrom
set_option maxHeartbeats 3200000
set_option maxRecDepth 100000
namespace Go.Proofs.YtgepehlpjpccaaaGreatDoor
section
open Go.RowKit
open Go.Lib
def ygw (s:Lb):Bool:=(yew s [48]).2&&decide ((0:Int)<(yew s [48]).1)
def gsB (n:Int):Bool:=decide (1≤n)&&decide (n≤8)
def yd5 (x:Sg):Bool:=if x.1=1 then decide (x.2.1=0)&&ygw x.2.2 else if x.1=2∨x.1=3∨x.1=5 then gsB x.2.1&&decide (x.2.2=[]) else if x.1=4 then decide (x.2.1=0)&&decide (x.2.2=[]) else false
theorem yt2 (n:Int) (w:World):Calls Tryz.prog 84 #[.int .i64 n] w (Qp (.bool (gsB n)) w):=by
 unfold gsB
 by_cases h:n<1∨8<n
 ·have e:(decide (1≤n)&&decide (n≤8))=false:=by
   rw [Bool.and_eq_false_iff,decide_eq_false_iff_not,decide_eq_false_iff_not];omega
  rw [e];exact yrR n w h
 ·have e:(decide (1≤n)&&decide (n≤8))=true:=by
   rw [Bool.and_eq_true,decide_eq_true_eq,decide_eq_true_eq];omega
  obtain ⟨m,rfl⟩:∃ m:Nat,n=m:=⟨n.toNat,by omega⟩
  rw [e];exact yie m w (by omega) (by omega)
theorem yo7 (x:ByteArray) (w:World) (htab:Tab w):Calls Tryz.prog 43 #[.string x] w (Rp (.bool (ygw x.data.toList)) w):=by
 have HC:=h_ (yoc x ⟨#[48]⟩ w htab)
 obtain ⟨v,HV⟩:=ez (ygw x.data.toList)
 obtain ⟨⟨z,b⟩,HZ⟩:∃ t:Int × Bool,Hid (yew x.data.toList [48]=t):=⟨_,rfl⟩
 have HC2:Hid (Calls Tryz.prog 85 #[.string x,.string ⟨#[48]⟩] w (yah (z,b) w)):=h_ (by rw [← HZ.out];exact HC.out)
 have HVZ:Hid ((b&&decide ((0:Int)<z))=v):=h_ (by rw [← HV.out];unfold ygw;rw [HZ.out])
 rw [HV.out]
 clear htab HC
 cases b with
 | false =>
  obtain rfl:v=false:=by rw [← HVZ.out];rfl
  go_in
  go_wp2_with fail
  refine (HC2.out).mono ?_
  rintro e w1 ⟨rfl,hb1⟩
  have HB:=h_ hb1
  clear hb1
  go_wp2
  go_ret
  exact ⟨rfl,HB.out⟩
 | true =>
  by_cases hz:(0:Int)<z
  ·obtain rfl:v=true:=by rw [← HVZ.out,decide_eq_true hz];rfl
   go_in
   go_wp2_with fail
   refine (HC2.out).mono ?_
   rintro e w1 ⟨rfl,hb1⟩
   have HB:=h_ hb1
   clear hb1
   go_wp2
   go_ret
   exact ⟨rfl,HB.out⟩
  ·obtain rfl:v=false:=by rw [← HVZ.out,decide_eq_false hz];rfl
   have hzd:decide ((0:Int)<z)=false:=decide_eq_false hz
   clear hz
   go_in
   go_wp2_with fail
   refine (HC2.out).mono ?_
   rintro e w1 ⟨rfl,hb1⟩
   have HB:=h_ hb1
   clear hb1
   go_wp2
   go_ret
   exact ⟨rfl,HB.out⟩
theorem ysb (n:Int) (X:ByteArray) (w:World) (bp:Bool) (hp:∀ W,Be w W→Calls Tryz.prog 43 #[.string X] W fun e w2=>e=.returned (.bool bp)∧Be W w2):Calls Tryz.prog 40 #[.agg #[.int .i64 1,.int .i64 n,.string X]] w (Rp (.bool (decide (n=0)&&bp)) w):=by
 obtain ⟨W1,vA⟩:∃ W1,Hid (w.alloc (.cells #[.int .i64 1,.int .i64 n,.string X] 45)=W1):=⟨_,h_ rfl⟩
 have yY:Hid (Be w W1):=h_ (by rw [← vA.out];exact bR.alloc nl _)
 have HPS:=h_ (hp W1 yY.out)
 clear hp
 by_cases hn:n=0
 ·subst hn
  go_in
  go_wp2_with fail
  try rw [vA.out]
  refine (HPS.out).mono ?_
  rintro e w1 ⟨rfl,hb1⟩
  have HB:=th yY hb1
  clear hb1
  go_wp2
  go_ret
  exact ⟨by simp,HB.out⟩
 ·have hne:(n==0)=false:=by rw [beq_eq_false_iff_ne];exact hn
  rw [decide_eq_false hn,Bool.false_and]
  go_in
  go_wp2
  go_ret
  exact ⟨rfl,by first|exact yY.out|(rw [vA.out];exact yY.out)⟩
theorem yfT (kk:Int) (n:Int) (X:ByteArray) (w:World) (bs:Bool) (hb:X.toList.isEmpty=bs) (hkk:kk=2∨kk=3∨kk=5):Calls Tryz.prog 40 #[.agg #[.int .i64 kk,.int .i64 n,.string X]] w (Rp (.bool (gsB n&&bs)) w):=by
 obtain ⟨W1,vA⟩:∃ W1,Hid (w.alloc (.cells #[.int .i64 kk,.int .i64 n,.string X] 45)=W1):=⟨_,h_ rfl⟩
 rcases hkk with rfl|rfl|rfl
 all_goals
  have yY:Hid (Be w W1):=h_ (by rw [← vA.out];exact bR.alloc nl _)
  have HGS:=h_ (fun W=>yt2 n W)
  obtain ⟨bg,HBG⟩:∃ b,Hid (gsB n=b):=⟨_,rfl⟩
  rw [HBG.out] at HGS ⊢
  cases bg with
  | false =>
   clear hb
   go_in
   go_wp2_with fail
   refine (HGS.out _).mono ?_
   rintro e w' ⟨rfl,rfl⟩
   go_wp2
   go_ret
   exact ⟨rfl,by first|exact yY.out|(rw [vA.out];exact yY.out)⟩
  | true =>
   cases bs with
   | true =>
    have g1:X.toList=[]:=List.isEmpty_iff.1 hb
    clear hb
    go_in
    go_wp2_with fail
    refine (HGS.out _).mono ?_
    rintro e w' ⟨rfl,rfl⟩
    go_wp2
    go_ret
    exact ⟨rfl,by first|exact yY.out|(rw [vA.out];exact yY.out)⟩
   | false =>
    have g2:¬ X.toList=[]:=fun h=>by rw [h] at hb;cases hb
    have g3:(X.toList==[])=false:=by rw [beq_eq_false_iff_ne];exact g2
    go_in
    go_wp2_with fail
    refine (HGS.out _).mono ?_
    rintro e w' ⟨rfl,rfl⟩
    go_wp2
    go_ret
    exact ⟨rfl,by first|exact yY.out|(rw [vA.out];exact yY.out)⟩
theorem ysc (n:Int) (X:ByteArray) (w:World) (bs:Bool) (hb:X.toList.isEmpty=bs):Calls Tryz.prog 40 #[.agg #[.int .i64 4,.int .i64 n,.string X]] w (Rp (.bool (decide (n=0)&&bs)) w):=by
 obtain ⟨W1,vA⟩:∃ W1,Hid (w.alloc (.cells #[.int .i64 4,.int .i64 n,.string X] 45)=W1):=⟨_,h_ rfl⟩
 have yY:Hid (Be w W1):=h_ (by rw [← vA.out];exact bR.alloc nl _)
 by_cases hn:n=0
 ·subst hn
  rw [decide_eq_true rfl,Bool.true_and]
  cases bs with
  | true =>
   have g1:X.toList=[]:=List.isEmpty_iff.1 hb
   clear hb
   go_in
   go_wp2
   go_ret
   exact ⟨rfl,by first|exact yY.out|(rw [vA.out];exact yY.out)⟩
  | false =>
   have g2:¬ X.toList=[]:=fun h=>by rw [h] at hb;cases hb
   have g3:(X.toList==[])=false:=by rw [beq_eq_false_iff_ne];exact g2
   go_in
   go_wp2
   go_ret
   exact ⟨rfl,by first|exact yY.out|(rw [vA.out];exact yY.out)⟩
 ·have hne:(n==0)=false:=by rw [beq_eq_false_iff_ne];exact hn
  rw [decide_eq_false hn,Bool.false_and]
  clear hb
  go_in
  go_wp2
  go_ret
  exact ⟨rfl,by first|exact yY.out|(rw [vA.out];exact yY.out)⟩
theorem ysd (k n:Int) (X:ByteArray) (w:World) (h:k≠1∧k≠2∧k≠3∧k≠4∧k≠5):Calls Tryz.prog 40 #[.agg #[.int .i64 k,.int .i64 n,.string X]] w (Rp (.bool (false)) w):=by
 obtain ⟨W1,vA⟩:∃ W1,Hid (w.alloc (.cells #[.int .i64 k,.int .i64 n,.string X] 45)=W1):=⟨_,h_ rfl⟩
 have yY:Hid (Be w W1):=h_ (by rw [← vA.out];exact bR.alloc nl _)
 obtain ⟨h1,h2,h3,h4,h5⟩:=h
 have e1:(k==1)=false:=by rw [beq_eq_false_iff_ne];exact h1
 have e2:(k==2)=false:=by rw [beq_eq_false_iff_ne];exact h2
 have e3:(k==3)=false:=by rw [beq_eq_false_iff_ne];exact h3
 have e4:(k==4)=false:=by rw [beq_eq_false_iff_ne];exact h4
 have e5:(k==5)=false:=by rw [beq_eq_false_iff_ne];exact h5
 go_in
 go_wp2
 go_ret
 exact ⟨rfl,by first|exact yY.out|(rw [vA.out];exact yY.out)⟩
theorem ym0 (k n:Int) (s:Lb) (w:World) (htab:Tab w):Calls Tryz.prog 40 #[.agg #[.int .i64 k,.int .i64 n,.string ⟨s.toArray⟩]] w (Rp (.bool (yd5 (k,n,s))) w):=by
 have hs:(⟨s.toArray⟩:ByteArray).toList.isEmpty=decide (s=[]):=by
  cases s with
  | nil=>simp
  | cons a r=>simp
 have E1:∀ j:Int,j≠1→¬ (j,n,s).1=1:=fun _ h=>h
 unfold yd5
 by_cases h1:k=1
 ·subst h1
  rw [if_pos rfl]
  exact ysb n _ w (ygw s) (fun W hW=>yo7 ⟨s.toArray⟩ W (htab.below hW))
 by_cases h2:k=2
 ·subst h2;rw [if_neg (E1 2 (by decide)),if_pos (by show (2:Int)=2∨(2:Int)=3∨(2:Int)=5;decide)];exact yfT 2 n _ w _ hs (.inl rfl)
 by_cases h3:k=3
 ·subst h3;rw [if_neg (E1 3 (by decide)),if_pos (by show (3:Int)=2∨(3:Int)=3∨(3:Int)=5;decide)];exact yfT 3 n _ w _ hs (.inr (.inl rfl))
 by_cases h5:k=5
 ·subst h5;rw [if_neg (E1 5 (by decide)),if_pos (by show (5:Int)=2∨(5:Int)=3∨(5:Int)=5;decide)];exact yfT 5 n _ w _ hs (.inr (.inr rfl))
 by_cases h4:k=4
 ·subst h4;rw [if_neg (E1 4 (by decide)),if_neg (by show ¬ ((4:Int)=2∨(4:Int)=3∨(4:Int)=5);decide),if_pos (by show (4:Int)=4;rfl)];exact ysc n _ w _ hs
 rw [if_neg h1,if_neg (by show ¬ (k=2∨k=3∨k=5);omega),if_neg h4]
 exact ysd k n _ w ⟨h1,h2,h3,h4,h5⟩
def ybo (l:List Sg) (i:Nat):Bool:=yd5 (l.getD i (0,0,[]))&&(decide (i=0) || !decide ((l.getD i (0,0,[])).1=1))
def uC (k:Int) (l:List Sg):Bool:=isT k&&decide (l.length≤4)&&(List.range l.length).all (ybo l)
theorem yqv {k:Int} {l:List Sg} {i:Nat} (hi:i<l.length) (h:ybo l i=false):uC k l=false:=by
 unfold uC
 have:(List.range l.length).all (ybo l)=false:=by
  rw [List.all_eq_false]
  exact ⟨i,List.mem_range.2 hi,by rw [h];simp⟩
 rw [this,Bool.and_false]
theorem ynJ {k:Int} {l:List Sg} (hk:isT k=true) (hl:l.length≤4) (h:∀ i,i<l.length→ybo l i=true):uC k l=true:=by
 unfold uC
 rw [hk,decide_eq_true hl,Bool.true_and,Bool.true_and,List.all_eq_true]
 exact fun i hi=>h i (List.mem_range.1 hi)
theorem ydU {k:Int} {l:List Sg} (h:uC k l=true):isT k=true∧l.length≤4∧∀ i,i<l.length→ybo l i=true:=by
 unfold uC at h
 rw [Bool.and_eq_true,Bool.and_eq_true,decide_eq_true_eq,List.all_eq_true] at h
 exact ⟨h.1.1,h.1.2,fun i hi=>h.2 i (List.mem_range.2 hi)⟩
theorem ybl (k:Int) (p:Oa) (c n:Nat) (l:List Sg) (w:World) (htab:Tab w) (hx:Hid (l.length=n)) (hs:RdG w p l) :
  Calls Tryz.prog 15 #[.int .i64 k,.slice p n c] w (Rp (.bool (uC k l)) w):=by
 have HS:=h_ hs
 have yuu:=h_ htab
 obtain ⟨v,HV⟩:=ez (uC k l)
 have HT:=h_ (fun W=>ybj k W)
 obtain ⟨bt,HBT⟩:=ez (isT k)
 rw [HBT.out] at HT
 rw [HV.out]
 have HB0:=h_ (Below.refl w.heap.size w)
 clear hs htab
 cases bt with
 | false =>
  obtain rfl:v=false:=by rw [← HV.out];unfold uC;rw [HBT.out];rfl
  go_in
  go_wp2_with fail
  refine (HT.out _).mono ?_
  rintro e w' ⟨rfl,rfl⟩
  go_wp2
  go_ret
  exact ⟨rfl,HB0.out⟩
 | true =>
 by_cases h4:4<n
 ·have h4i:(4:Int)<(n:Int):=by omega
  obtain rfl:v=false:=by
   rw [← HV.out];unfold uC;rw [decide_eq_false (by rw [hx.out];omega),Bool.and_false];rfl
  go_in
  go_wp2_with fail
  refine (HT.out _).mono ?_
  rintro e w' ⟨rfl,rfl⟩
  go_wp2
  go_ret
  exact ⟨rfl,HB0.out⟩
 have h4i:¬ (4:Int)<(n:Int):=by omega
 have hni:(n:Int)≤4:=by omega
 have HNO:Hid (∀ i,i<n→ybo l i=false→v=false):=h_ (fun i hi h=>by rw [← HV.out];exact yqv (by rw [hx.out];exact hi) h)
 have ygB:Hid ((∀ i,i<n→ybo l i=true)→v=true):=h_ (fun h=>by rw [← HV.out];exact ynJ HBT.out (by rw [hx.out];omega) (fun i hi=>h i (by rw [← hx.out];exact hi)))
 go_in
 go_wp2_with fail
 refine (HT.out _).mono ?_
 rintro e w' ⟨rfl,rfl⟩
 go_wp2
 go_loopw [17] (fun iv wr=>∃ i:Nat,i≤n∧iv=.int .i64 i∧Hid (∀ j,j<i→ybo l j=true)∧Hid (Be w wr)) (fun iv _=>n-(intOf iv).toNat)
 case atStart=>exact ⟨0,Nat.zero_le _,rfl,h_ (fun j hj=>by omega),HB0⟩
 case round =>
  obtain ⟨i,hi,rfl,HA,HB⟩:=hrel
  have ii:(i:Int)≤(n:Int):=by omega
  by_cases hlt:i<n
  ·have ilt:(i:Int)<(n:Int):=by omega
   obtain ⟨b1,o1,x,y,z,e1,hb1,hc1,hc2,hc3,hx1⟩:=(HS.out.below HB.out).at (k:=i) (by rw [hx.out];exact hlt)
   subst e1
   obtain ⟨Z,HZ⟩:∃ Z:ByteArray,Hid (⟨z.toArray⟩=Z):=⟨_,rfl⟩
   rw [HZ.out] at hc3
   obtain ⟨W1,vA⟩:∃ W1,Hid (wr.alloc (.cells #[.int .i64 x,.int .i64 y,.string Z] 45)=W1):=⟨_,h_ rfl⟩
   have yY:Hid (Be wr W1):=h_ (by rw [← vA.out];exact bR.alloc nl _)
   have ygD:Hid (Be w W1):=h_ (tr HB.out yY.out)
   obtain ⟨u,HU⟩:=ez (yd5 (x,y,z))
   have HVS:Hid (Calls Tryz.prog 40 #[.agg #[.int .i64 x,.int .i64 y,.string Z]] W1 (Rp (.bool u) W1)):=h_ (by
    have h:=ym0 x y z W1 (yuu.out.below ygD.out)
    rwa [HZ.out,HU.out] at h)
   have yd6:Hid (W1.heap[wr.heap.size]?=some (.cells #[.int .i64 x,.int .i64 y,.string Z] 45 (0,0))):=h_ (by rw [← vA.out];exact World.alloc_heap_new wr _)
   have hq0:W1.cell? ⟨wr.heap.size,0,none⟩=some (.int .i64 x):=by simp [World.cell?,yd6.out]
   have hq1:W1.cell? ⟨wr.heap.size,1,none⟩=some (.int .i64 y):=by simp [World.cell?,yd6.out]
   have hq2:W1.cell? ⟨wr.heap.size,2,none⟩=some (.string Z):=by simp [World.cell?,yd6.out]
   have HPL:Hid (ybo l i=(u&&(decide (i=0) || !decide (x=1)))):=h_ (by unfold ybo;rw [hx1.out,HU.out])
   cases u with
   | false =>
    obtain rfl:v=false:=HNO.out i hlt (by rw [HPL.out];rfl)
    go_wp2_with fail
    rw [vA.out]
    go_wp2_with fail
    refine (HVS.out).mono ?_
    rintro e w3 ⟨rfl,hb3⟩
    have HB3:Hid (Be w w3):=th ygD hb3
    clear hb3
    go_wp2
    go_ret
    exact ⟨rfl,HB3.out⟩
   | true =>
    by_cases h1:x=1
    ·by_cases h0:i=0
     ·have hst:Hid (∀ j,j<i+1→ybo l j=true):=h_ (fun j hj=>by
       by_cases e:j=i
       ·rw [e,HPL.out,decide_eq_true h0];rfl
       ·exact HA.out j (by omega))
      subst h1
      have hi0:¬ (0:Int)<(i:Int):=by omega
      have hi0d:decide ((0:Int)<(i:Int))=false:=decide_eq_false hi0
      clear h0
      go_wp2_with fail
      rw [vA.out]
      go_wp2_with fail
      refine (HVS.out).mono ?_
      rintro e w3 ⟨rfl,hb3⟩
      have hg0:=(hb3.cell (p:=⟨wr.heap.size,0,none⟩) (by have:=Array.getElem?_eq_some_iff.1 yd6.out;exact this.1)).trans hq0
      have HB3:Hid (Be w w3):=th ygD hb3
      clear hb3
      go_wp2
      go_roundw
      case rel=>exact ⟨i+1,by omega,by go_num,hst,HB3⟩
      case measure=>simp [intOf];omega
     ·obtain rfl:v=false:=HNO.out i hlt (by rw [HPL.out,decide_eq_false h0,decide_eq_true h1];rfl)
      subst h1
      have hi0:(0:Int)<(i:Int):=by omega
      go_wp2_with fail
      rw [vA.out]
      go_wp2_with fail
      refine (HVS.out).mono ?_
      rintro e w3 ⟨rfl,hb3⟩
      have hg0:=(hb3.cell (p:=⟨wr.heap.size,0,none⟩) (by have:=Array.getElem?_eq_some_iff.1 yd6.out;exact this.1)).trans hq0
      have HB3:Hid (Be w w3):=th ygD hb3
      clear hb3
      go_wp2
      go_ret
      exact ⟨rfl,HB3.out⟩
    ·have hst:Hid (∀ j,j<i+1→ybo l j=true):=h_ (fun j hj=>by
      by_cases e:j=i
      ·rw [e,HPL.out,decide_eq_false h1];simp
      ·exact HA.out j (by omega))
     have hx1b:(x==1)=false:=by rw [beq_eq_false_iff_ne];exact h1
     clear h1
     go_wp2_with fail
     rw [vA.out]
     go_wp2_with fail
     refine (HVS.out).mono ?_
     rintro e w3 ⟨rfl,hb3⟩
     have hg0:=(hb3.cell (p:=⟨wr.heap.size,0,none⟩) (by have:=Array.getElem?_eq_some_iff.1 yd6.out;exact this.1)).trans hq0
     have HB3:Hid (Be w w3):=th ygD hb3
     clear hb3
     go_wp2
     go_roundw
     case rel=>exact ⟨i+1,by omega,by go_num,hst,HB3⟩
     case measure=>simp [intOf];omega
  ·obtain rfl:i=n:=by omega
   have ilt:¬ (i:Int)<(i:Int):=by omega
   obtain rfl:v=true:=ygB.out HA.out
   go_wp2
   go_ret
   exact ⟨rfl,HB.out⟩
end
section
open Go.Lib Big
/-! Digits -/
/-! Compare -/
theorem yo8 {x y:Lb} {a b:Rat} (hx:num x=some a) (hy:num y=some b):yew x y=(yfb (a-b),true):=by unfold yew;rw [hx,hy]
end
section
open Go.RowKit Big
open Go.Lib
theorem yt3 (x:Value) (q:Rat) (K:Nat) (w:World) (hK:K≤900000) (hq:QLt K q) (hx:uH w x q):Calls Tryz.prog 82 #[x] w (Rp (.string ⟨(txt q).toArray⟩) w):=by
 have htx:=yA (fun W (hW:Be w W)=>yql x q K W hK hq (hx.below hW))
 obtain ⟨p,n,c,p2,n2,c2,rfl,-,-⟩:=hx.slices
 obtain ⟨s,hs⟩:∃ s,Hid (s=decide (q.num<0)):=⟨_,yA rfl⟩
 rw [← hs.out] at htx ⊢
 obtain ⟨y,hy⟩:∃ y:ByteArray,Hid (y=⟨(txt q).toArray⟩):=⟨_,yA rfl⟩
 obtain ⟨f,hf⟩:∃ f,Hid (f=!(txt q).isEmpty):=⟨_,yA rfl⟩
 unfold yeo at htx
 rw [← hy.out,← hf.out] at htx
 rw [← hy.out]
 clear hx hq
 go_in
 go_wp2_with fail
 refine (htx.out _ (yD _ _)).mono ?_
 rintro e w1 ⟨rfl,hb1⟩
 have Hb1:=yA ((yD w _).trans (hb1.mono (yD w _).size))
 clear hb1
 go_wp2
 go_ret
 exact ⟨rfl,Hb1.out⟩
theorem Resa.other {B g:Nat} {w0 W:World} (h:Resa B w0 W) (hg:g≠B) (h0:w0.heap.size≤g) (k:Nat) (v:Value):Resa B w0 (W.setCell ⟨g,k,none⟩ v):=by
 refine ⟨by rw [World.size_setCell];exact h.size,h.below.setCell h0 _,?_⟩
 obtain ⟨z0,z1,z2,hz,hn⟩:=h.z
 exact ⟨z0,z1,z2,(Below.heap_setCell _ _ _ _ (fun e=>hg e.symm)).trans hz,hn⟩
def yaf (a b:Rat) (f:Bool) (w:World) (e:Ending) (w':World):Prop:=∃ b1 p n c p2 n2 c2 b2 q m d q2 m2 d2,e=.returned (.tuple #[.agg #[.bool b1,.slice p n c,.slice p2 n2 c2],.agg #[.bool b2,.slice q m d,.slice q2 m2 d2],.bool f])∧Be w w' ∧
 (f=true→uH w' (.agg #[.bool b1,.slice p n c,.slice p2 n2 c2]) a∧uH w' (.agg #[.bool b2,.slice q m d,.slice q2 m2 d2]) b)
theorem yhH (f g:Bool) (s t:ByteArray) (a b:Rat) (w:World) (h1:∀ W,Hid (Calls Tryz.prog 31 #[.string s] W (zX a f W))) (h2:∀ W,Hid (Calls Tryz.prog 31 #[.string t] W (zX b g W))) :
  Calls Tryz.prog 80 #[.string s,.string t] w (yaf a b (f&&g) w):=by
 cases f<;>cases g
 all_goals
  have hr1:=(Resa.start w).next (yD _ (.cells #[.bool false,.slice none 0 0,.slice none 0 0] 59))
  have hr2:Resa (w.heap.size+1) w ((w.alloc (.cells #[.bool false,.slice none 0 0,.slice none 0 0] 59)).alloc (.cells #[.bool false,.slice none 0 0,.slice none 0 0] 59)) :=
   ⟨by simp,hr1.below,.bool false,.slice none 0 0,.slice none 0 0,by rw [show w.heap.size+1=(w.alloc (.cells #[.bool false,.slice none 0 0,.slice none 0 0] 59)).heap.size from by simp];exact zG _ _,zI _,yW _ _ _,yW _ _ _⟩
  have Hr1:=yA hr1
  have Hr2:=yA hr2
  clear hr1 hr2
  go_in
  go_wp2_with fail
  refine (h1 _).out.mono ?_
  rintro e w1 ⟨b1,p,n,c,p2,n2,c2,rfl,hb1,hq1⟩
  have hR1:=yA ((Hr1.out.next hb1).next (yD w1 (.cells #[.bool b1,.slice p n c,.slice p2 n2 c2] 59)))
  have hR2:=yA ((Hr2.out.next hb1).next (yD w1 (.cells #[.bool b1,.slice p n c,.slice p2 n2 c2] 59)))
  have hQ1:=yA (fun h=>(hq1 h).below (yD w1 (.cells #[.bool b1,.slice p n c,.slice p2 n2 c2] 59)))
  have hB7:Hid ((w1.alloc (.cells #[.bool b1,.slice p n c,.slice p2 n2 c2] 59)).heap[w1.heap.size]?=some (.cells #[.bool b1,.slice p n c,.slice p2 n2 c2] 59 (0,0))):=yA (zG _ _)
  have hlt1:Hid (w.heap.size+1<w1.heap.size):=yA (by have:=hb1.size;simp at this;omega)
  clear hb1 hq1
  go_wp2_with fail
  refine (h2 _).out.mono ?_
  rintro e w2 ⟨b2,q,m,d,q2,m2,d2,rfl,hb2,hq2⟩
  have hS1:=yA ((hR1.out.next hb2).next (yD w2 (.cells #[.bool b2,.slice q m d,.slice q2 m2 d2] 59)))
  have hS2:=yA ((hR2.out.next hb2).next (yD w2 (.cells #[.bool b2,.slice q m d,.slice q2 m2 d2] 59)))
  have hT1:=yA (fun h=>((hQ1.out h).below hb2).below (yD w2 (.cells #[.bool b2,.slice q m d,.slice q2 m2 d2] 59)))
  have hT2:=yA (fun h=>(hq2 h).below (yD w2 (.cells #[.bool b2,.slice q m d,.slice q2 m2 d2] 59)))
  have h7:(w2.alloc (.cells #[.bool b2,.slice q m d,.slice q2 m2 d2] 59)).heap[w1.heap.size]?=some (.cells #[.bool b1,.slice p n c,.slice p2 n2 c2] 59 (0,0)):=by
   rw [yaH _ _ _ (by have:=hb2.size;simp at this;omega),hb2.block _ (by simp)];exact hB7.out
  have h9:(w2.alloc (.cells #[.bool b2,.slice q m d,.slice q2 m2 d2] 59)).heap[w2.heap.size]?=some (.cells #[.bool b2,.slice q m d,.slice q2 m2 d2] 59 (0,0)):=zG _ _
  have x70:=zW h7 0
  have x71:=zW h7 1
  have x72:=zW h7 2
  obtain ⟨y0,y1,y2,l0,l1,l2,f0,f1,f2⟩:=hS1.out.slots
  obtain ⟨z0,z1,z2,k0,k1,k2,g0,g1,g2⟩:=hS2.out.slots
  have x90:=zW h9 0
  have x91:=zW h9 1
  have x92:=zW h9 2
  have hs1:w.heap.size+1<w1.heap.size:=hlt1.out
  have hs2:w1.heap.size<w2.heap.size:=by have:=hb2.size;simp at this;omega
  have n1:w2.heap.size≠w.heap.size:=by omega
  have n2':w.heap.size≠w2.heap.size:=by omega
  have n3:w2.heap.size≠w.heap.size+1:=by omega
  have n4:w.heap.size+1≠w2.heap.size:=by omega
  have n5:w1.heap.size≠w.heap.size:=by omega
  have n6:w.heap.size≠w1.heap.size:=by omega
  have n7:w1.heap.size≠w.heap.size+1:=by omega
  have n8:w.heap.size+1≠w1.heap.size:=by omega
  clear h7 h9 hb2 hq2
  go_wp2_with fail
  have hA:=yA (hS1.out.put3 nl b1 p p2 n c n2 c2)
  have hB:=yA (((hS2.out.other (by omega) nl 0 (.bool b1)).other (by omega) nl 1 (.slice p n c)).other (by omega) nl 2 (.slice p2 n2 c2))
  first
  | (
    have hQ:Hid (yaf a b true w (.returned (.tuple #[.agg #[.bool b1,.slice p n c,.slice p2 n2 c2],.agg #[.bool b2,.slice q m d,.slice q2 m2 d2],.bool true])) ((((((((w2.alloc (.cells #[.bool b2,.slice q m d,.slice q2 m2 d2] 59)).setCell ⟨w.heap.size,0,none⟩ (.bool b1)).setCell ⟨w.heap.size,1,none⟩ (.slice p n c)).setCell ⟨w.heap.size,2,none⟩ (.slice p2 n2 c2)).setCell ⟨w.heap.size+1,0,none⟩ (.bool b2)).setCell ⟨w.heap.size+1,1,none⟩ (.slice q m d)).setCell ⟨w.heap.size+1,2,none⟩ (.slice q2 m2 d2)).drew)):=yA (by
     refine ⟨_,_,_,_,_,_,_,_,_,_,_,_,_,_,rfl,((hB.out.put3 (by omega) b2 q q2 m d m2 d2).below).drew,?_⟩
     exact fun _=>⟨((hT1.out (by trivial)).put3 hS1.out nl b1 p p2 n c n2 c2).put3 hB.out (by omega) b2 q q2 m d m2 d2 |>.below bR.drew,((hT2.out (by trivial)).put3 hS1.out nl b1 p p2 n c n2 c2).put3 hB.out (by omega) b2 q q2 m d m2 d2 |>.below bR.drew⟩)
    go_region
    go_wp2
    refine bodyPost_ret (v:=.tuple #[.agg #[.bool b1,.slice p n c,.slice p2 n2 c2],.agg #[.bool b2,.slice q m d,.slice q2 m2 d2],.bool true]) ?_ rfl ?_
    ·simp [results,Tryz.results80,go_sem,l0,l1,l2,k0,k1,k2]
    ·exact hQ.out)
  | (
    have hQ:Hid (yaf a b false w (.returned (.tuple #[.agg #[.bool b1,.slice p n c,.slice p2 n2 c2],.agg #[.bool b2,.slice q m d,.slice q2 m2 d2],.bool false])) ((((((((w2.alloc (.cells #[.bool b2,.slice q m d,.slice q2 m2 d2] 59)).setCell ⟨w.heap.size,0,none⟩ (.bool b1)).setCell ⟨w.heap.size,1,none⟩ (.slice p n c)).setCell ⟨w.heap.size,2,none⟩ (.slice p2 n2 c2)).setCell ⟨w.heap.size+1,0,none⟩ (.bool b2)).setCell ⟨w.heap.size+1,1,none⟩ (.slice q m d)).setCell ⟨w.heap.size+1,2,none⟩ (.slice q2 m2 d2)).drew)):=yA (by
     refine ⟨_,_,_,_,_,_,_,_,_,_,_,_,_,_,rfl,((hB.out.put3 (by omega) b2 q q2 m d m2 d2).below).drew,?_⟩
     exact fun h=>by cases h)
    go_region
    go_wp2
    refine bodyPost_ret (v:=.tuple #[.agg #[.bool b1,.slice p n c,.slice p2 n2 c2],.agg #[.bool b2,.slice q m d,.slice q2 m2 d2],.bool false]) ?_ rfl ?_
    ·simp [results,Tryz.results80,go_sem,l0,l1,l2,k0,k1,k2]
    ·exact hQ.out)
theorem ynK (s t:ByteArray) (w:World):Calls Tryz.prog 80 #[.string s,.string t] w fun e w'=>match num s.data.toList,num t.data.toList with
  | some a,some b=>yaf a b true w e w'
  | _,_=>∃ a b,yaf a b false w e w':=by
 have gs:=fun W=>yia s W
 have gt:=fun W=>yia t W
 have rd:∀ (x:ByteArray) (W:World) (q:Rat),(∀ W,Calls Tryz.prog 31 #[.string x] W (ynw none W))→Calls Tryz.prog 31 #[.string x] W (zX q false W):=fun x W q h=>(h W).mono fun e w' ⟨q',b,p,n,c,p2,n2,c2,h1,h2,_⟩=>⟨b,p,n,c,p2,n2,c2,h1,h2,fun h=>by cases h⟩
 cases ha:num s.data.toList with
 | none =>
  rw [ha] at gs
  cases hb:num t.data.toList with
  | none=>rw [hb] at gt;exact (yhH false false s t 0 0 w (fun W=>yA (rd s W 0 gs)) (fun W=>yA (rd t W 0 gt))).mono fun e w' h=>⟨_,_,h⟩
  | some b=>rw [hb] at gt;exact (yhH false true s t 0 b w (fun W=>yA (rd s W 0 gs)) (fun W=>yA (gt W))).mono fun e w' h=>⟨_,_,h⟩
 | some a =>
  rw [ha] at gs
  cases hb:num t.data.toList with
  | none=>rw [hb] at gt;exact (yhH true false s t a 0 w (fun W=>yA (gs W)) (fun W=>yA (rd t W 0 gt))).mono fun e w' h=>⟨_,_,h⟩
  | some b=>rw [hb] at gt;exact yhH true true s t a b w (fun W=>yA (gs W)) (fun W=>yA (gt W))
theorem yt4 (s t:ByteArray) (a b:Rat) (w:World) (uV:∀ W,Hid (Calls Tryz.prog 80 #[.string s,.string t] W (yaf a b false W))):Calls Tryz.prog 94 #[.string s,.string t] w (yah (0,false) w):=by
 go_in
 go_wp2_with fail
 refine (uV _).out.mono ?_
 rintro e w1 ⟨b1,p,n,c,p2,n2,c2,b2,q,m,d,q2,m2,d2,rfl,hb1,-⟩
 have HB:Hid (∀ o1 o2,Be w ((w1.alloc o1).alloc o2)):=yA fun o1 o2=>(hb1.alloc hb1.size o1).alloc (by have:=hb1.size;simp;omega) o2
 clear hb1
 go_wp2
 go_ret2
 exact ⟨rfl,HB.out _ _⟩
theorem yse (s t:ByteArray) (a b:Rat) (z:Int) (w:World) (hz0:yb7 (a-b)=z) (hab:QLt 5 a) (hbb:QLt 5 b) (uV:∀ W,Hid (Calls Tryz.prog 80 #[.string s,.string t] W (yaf a b true W))):Calls Tryz.prog 94 #[.string s,.string t] w (yah (z,true) w):=by
 have hop:∀ W x y,uH W x a→uH W y b→Hid (Calls Tryz.prog 52 #[x,y] W (Rp (.int .i64 z) W)):=fun W x y hx hy=>yA (by have h:=yh6 x y a b 5 5 W (by omega) hab hbb hx hy;rw [hz0] at h;exact h)
 clear hab hbb hz0
 go_in
 go_wp2_with fail
 refine (uV _).out.mono ?_
 rintro e w1 ⟨b1,p,n,c,p2,n2,c2,b2,q,m,d,q2,m2,d2,rfl,hb1,hq⟩
 obtain ⟨hx,hz⟩:=hq rfl
 have HB:Hid (∀ o1 o2,Be w ((w1.alloc o1).alloc o2)):=yA fun o1 o2=>(hb1.alloc hb1.size o1).alloc (by have:=hb1.size;simp;omega) o2
 have HX:Hid (∀ o1 o2,uH ((w1.alloc o1).alloc o2) (.agg #[.bool b1,.slice p n c,.slice p2 n2 c2]) a∧uH ((w1.alloc o1).alloc o2) (.agg #[.bool b2,.slice q m d,.slice q2 m2 d2]) b):=yA fun o1 o2=>⟨(hx.below (yD _ _)).below (yD _ _),(hz.below (yD _ _)).below (yD _ _)⟩
 clear hb1 hq hx hz
 go_wp2_with fail
 refine (hop _ _ _ (HX.out _ _).1 (HX.out _ _).2).out.mono ?_
 rintro e w3 ⟨rfl,hb3⟩
 have Hb3:=yA ((HB.out _ _).trans (hb3.mono (HB.out _ _).size))
 clear hb3
 go_wp2
 go_ret2
 exact ⟨rfl,Hb3.out⟩
theorem yt5 {s t:ByteArray} {a b:Rat} (ha:num s.data.toList=some a) (hb:num t.data.toList=some b) (W:World):Hid (Calls Tryz.prog 80 #[.string s,.string t] W (yaf a b true W)):=yA (by
 have h:=ynK s t W
 rw [ha,hb] at h;exact h)
theorem yt6 {s t:ByteArray} (hn:num s.data.toList=none∨num t.data.toList=none) (W:World):Hid (Calls Tryz.prog 80 #[.string s,.string t] W (yaf 0 0 false W)):=yA (by
 have h:=ynK s t W
 have k:∀ e w',(∃ a b,yaf a b false W e w')→yaf 0 0 false W e w':=by
  rintro e w' ⟨a,b,b1,p,n,c,p2,n2,c2,b2,q,m,d,q2,m2,d2,h1,h2,_⟩
  exact ⟨b1,p,n,c,p2,n2,c2,b2,q,m,d,q2,m2,d2,h1,h2,fun h=>by cases h⟩
 refine h.mono fun e w' h=>?_
 rcases hn with h1|h1
 ·rw [h1] at h;exact k _ _ h
 ·rw [h1] at h
  cases h2:num s.data.toList with
  | none=>rw [h2] at h;exact k _ _ h
  | some a=>rw [h2] at h;exact k _ _ h)
theorem ysf (x y:Lb):(∃ a b,num x=some a∧num y=some b)∨(num x=none∨num y=none):=by
 cases hx:num x with
 | none=>exact .inr (.inl rfl)
 | some a=>cases hy:num y with
  | none=>exact .inr (.inr rfl)
  | some b=>exact .inl ⟨a,b,rfl,rfl⟩
theorem ym1 (s t:ByteArray) (w:World):Calls Tryz.prog 94 #[.string s,.string t] w (yah (yew s.data.toList t.data.toList) w):=by
 rcases ysf s.data.toList t.data.toList with ⟨a,b,ha,hb⟩|hn
 ·rw [yo8 ha hb];exact yse s t a b _ w (yra _) (yib ha) (yib hb) (yt5 ha hb)
 ·have e:yew s.data.toList t.data.toList=(0,false):=by
   unfold yew
   rcases hn with h|h
   ·rw [h]
   ·rw [h];cases num s.data.toList<;>rfl
  rw [e];exact yt4 s t 0 0 w (yt6 hn)
end
section
open Go.RowKit
open Go.Lib
theorem yg7 (x:ByteArray) (w:World):Calls Tryz.prog 47 #[.string x] w (Rp (.bool (ygw x.data.toList)) w):=by
 have HC:=h_ (ym1 x ⟨#[48]⟩ w)
 obtain ⟨v,HV⟩:=ez (ygw x.data.toList)
 obtain ⟨⟨z,b⟩,HZ⟩:∃ t:Int × Bool,Hid (yew x.data.toList [48]=t):=⟨_,rfl⟩
 have HC2:Hid (Calls Tryz.prog 94 #[.string x,.string ⟨#[48]⟩] w (yah (z,b) w)):=h_ (by rw [← HZ.out];exact HC.out)
 have HVZ:Hid ((b&&decide ((0:Int)<z))=v):=h_ (by rw [← HV.out];unfold ygw;rw [HZ.out])
 rw [HV.out]
 clear HC
 cases b with
 | false =>
  obtain rfl:v=false:=by rw [← HVZ.out];rfl
  go_in
  go_wp2_with fail
  refine (HC2.out).mono ?_
  rintro e w1 ⟨rfl,hb1⟩
  have HB:=h_ hb1
  clear hb1
  go_wp2
  go_ret
  exact ⟨rfl,HB.out⟩
 | true =>
  by_cases hz:(0:Int)<z
  ·obtain rfl:v=true:=by rw [← HVZ.out,decide_eq_true hz];rfl
   go_in
   go_wp2_with fail
   refine (HC2.out).mono ?_
   rintro e w1 ⟨rfl,hb1⟩
   have HB:=h_ hb1
   clear hb1
   go_wp2
   go_ret
   exact ⟨rfl,HB.out⟩
  ·obtain rfl:v=false:=by rw [← HVZ.out,decide_eq_false hz];rfl
   have hzd:decide ((0:Int)<z)=false:=decide_eq_false hz
   clear hz
   go_in
   go_wp2_with fail
   refine (HC2.out).mono ?_
   rintro e w1 ⟨rfl,hb1⟩
   have HB:=h_ hb1
   clear hb1
   go_wp2
   go_ret
   exact ⟨rfl,HB.out⟩
theorem ysg (n:Int) (i:Nat) (X:ByteArray) (w:World) (bp:Bool) (hp:∀ W,Be w W→Calls Tryz.prog 47 #[.string X] W fun e w2=>e=.returned (.bool bp)∧Be W w2):Calls Tryz.prog 42 #[.agg #[.int .i64 1,.int .i64 n,.string X],.int .i64 (i:Int)] w (Rp (.bool (decide (i=0)&&(decide (n=0)&&bp))) w):=by
 obtain ⟨W1,vA⟩:∃ W1,Hid (w.alloc (.cells #[.int .i64 1,.int .i64 n,.string X] 45)=W1):=⟨_,h_ rfl⟩
 have yY:Hid (Be w W1):=h_ (by rw [← vA.out];exact bR.alloc nl _)
 have HPS:=h_ (hp W1 yY.out)
 clear hp
 by_cases hi:i=0
 ·subst hi
  by_cases hn:n=0
  ·subst hn
   go_in
   go_wp2_with fail
   try rw [vA.out]
   refine (HPS.out).mono ?_
   rintro e w1 ⟨rfl,hb1⟩
   have HB:=th yY hb1
   clear hb1
   go_wp2
   go_ret
   exact ⟨by simp,HB.out⟩
  ·have hne:(n==0)=false:=by rw [beq_eq_false_iff_ne];exact hn
   rw [decide_eq_false hn,Bool.false_and,Bool.and_false]
   go_in
   go_wp2
   go_ret
   exact ⟨rfl,by first|exact yY.out|(rw [vA.out];exact yY.out)⟩
 ·have hie:((i:Int)==0)=false:=by rw [beq_eq_false_iff_ne];omega
  rw [decide_eq_false hi,Bool.false_and]
  go_in
  go_wp2
  go_ret
  exact ⟨rfl,by first|exact yY.out|(rw [vA.out];exact yY.out)⟩
theorem yfU (kk:Int) (n:Int) (i:Nat) (X:ByteArray) (w:World) (bs:Bool) (hb:X.toList.isEmpty=bs) (hkk:kk=2∨kk=3∨kk=5):Calls Tryz.prog 42 #[.agg #[.int .i64 kk,.int .i64 n,.string X],.int .i64 (i:Int)] w (Rp (.bool (gsB n&&bs)) w):=by
 obtain ⟨W1,vA⟩:∃ W1,Hid (w.alloc (.cells #[.int .i64 kk,.int .i64 n,.string X] 45)=W1):=⟨_,h_ rfl⟩
 rcases hkk with rfl|rfl|rfl
 all_goals
  have yY:Hid (Be w W1):=h_ (by rw [← vA.out];exact bR.alloc nl _)
  unfold gsB
  by_cases h1:1≤n
  case neg =>
   have h1d:decide (1≤n)=false:=decide_eq_false h1
   rw [h1d,Bool.false_and,Bool.false_and]
   clear hb
   go_in
   go_wp2
   go_ret
   exact ⟨rfl,by first|exact yY.out|(rw [vA.out];exact yY.out)⟩
  by_cases h8:n≤8
  case neg =>
   have h8d:decide (n≤8)=false:=decide_eq_false h8
   rw [h8d,Bool.and_false,Bool.false_and]
   clear hb
   go_in
   go_wp2
   go_ret
   exact ⟨rfl,by first|exact yY.out|(rw [vA.out];exact yY.out)⟩
  rw [decide_eq_true h1,decide_eq_true h8,Bool.true_and,Bool.true_and]
  cases bs with
  | true =>
   have g1:X.toList=[]:=List.isEmpty_iff.1 hb
   clear hb
   go_in
   go_wp2
   go_ret
   exact ⟨rfl,by first|exact yY.out|(rw [vA.out];exact yY.out)⟩
  | false =>
   have g2:¬ X.toList=[]:=fun h=>by rw [h] at hb;cases hb
   have g3:(X.toList==[])=false:=by rw [beq_eq_false_iff_ne];exact g2
   go_in
   go_wp2
   go_ret
   exact ⟨rfl,by first|exact yY.out|(rw [vA.out];exact yY.out)⟩
theorem ysh (n:Int) (i:Nat) (X:ByteArray) (w:World) (bs:Bool) (hb:X.toList.isEmpty=bs):Calls Tryz.prog 42 #[.agg #[.int .i64 4,.int .i64 n,.string X],.int .i64 (i:Int)] w (Rp (.bool (decide (n=0)&&bs)) w):=by
 obtain ⟨W1,vA⟩:∃ W1,Hid (w.alloc (.cells #[.int .i64 4,.int .i64 n,.string X] 45)=W1):=⟨_,h_ rfl⟩
 have yY:Hid (Be w W1):=h_ (by rw [← vA.out];exact bR.alloc nl _)
 by_cases hn:n=0
 ·subst hn
  rw [decide_eq_true rfl,Bool.true_and]
  cases bs with
  | true =>
   have g1:X.toList=[]:=List.isEmpty_iff.1 hb
   clear hb
   go_in
   go_wp2
   go_ret
   exact ⟨rfl,by first|exact yY.out|(rw [vA.out];exact yY.out)⟩
  | false =>
   have g2:¬ X.toList=[]:=fun h=>by rw [h] at hb;cases hb
   have g3:(X.toList==[])=false:=by rw [beq_eq_false_iff_ne];exact g2
   go_in
   go_wp2
   go_ret
   exact ⟨rfl,by first|exact yY.out|(rw [vA.out];exact yY.out)⟩
 ·have hne:(n==0)=false:=by rw [beq_eq_false_iff_ne];exact hn
  rw [decide_eq_false hn,Bool.false_and]
  clear hb
  go_in
  go_wp2
  go_ret
  exact ⟨rfl,by first|exact yY.out|(rw [vA.out];exact yY.out)⟩
theorem ysi (k n:Int) (i:Nat) (X:ByteArray) (w:World) (h:k≠1∧k≠2∧k≠3∧k≠4∧k≠5):Calls Tryz.prog 42 #[.agg #[.int .i64 k,.int .i64 n,.string X],.int .i64 (i:Int)] w (Rp (.bool (false)) w):=by
 obtain ⟨W1,vA⟩:∃ W1,Hid (w.alloc (.cells #[.int .i64 k,.int .i64 n,.string X] 45)=W1):=⟨_,h_ rfl⟩
 have yY:Hid (Be w W1):=h_ (by rw [← vA.out];exact bR.alloc nl _)
 obtain ⟨h1,h2,h3,h4,h5⟩:=h
 have e1:(k==1)=false:=by rw [beq_eq_false_iff_ne];exact h1
 have e2:(k==2)=false:=by rw [beq_eq_false_iff_ne];exact h2
 have e3:(k==3)=false:=by rw [beq_eq_false_iff_ne];exact h3
 have e4:(k==4)=false:=by rw [beq_eq_false_iff_ne];exact h4
 have e5:(k==5)=false:=by rw [beq_eq_false_iff_ne];exact h5
 go_in
 go_wp2
 go_ret
 exact ⟨rfl,by first|exact yY.out|(rw [vA.out];exact yY.out)⟩
theorem ym2 (k n:Int) (i:Nat) (s:Lb) (w:World):Calls Tryz.prog 42 #[.agg #[.int .i64 k,.int .i64 n,.string ⟨s.toArray⟩],.int .i64 (i:Int)] w (Rp (.bool (yd5 (k,n,s)&&(decide (i=0) || !decide (k=1)))) w):=by
 have hs:(⟨s.toArray⟩:ByteArray).toList.isEmpty=decide (s=[]):=by
  cases s with
  | nil=>simp
  | cons a r=>simp
 have E1:∀ j:Int,j≠1→¬ (j,n,s).1=1:=fun _ h=>h
 have E2:∀ b c:Bool,(b&&(c || true))=b:=by decide
 unfold yd5
 by_cases h1:k=1
 ·subst h1
  rw [if_pos rfl,decide_eq_true (rfl:(1:Int)=1),Bool.not_true,Bool.or_false,Bool.and_comm]
  exact ysg n i _ w (ygw s) (fun W hW=>yg7 ⟨s.toArray⟩ W)
 rw [decide_eq_false h1,Bool.not_false,E2]
 by_cases h2:k=2
 ·subst h2;rw [if_neg (E1 2 (by decide)),if_pos (by show (2:Int)=2∨(2:Int)=3∨(2:Int)=5;decide)];exact yfU 2 n i _ w _ hs (.inl rfl)
 by_cases h3:k=3
 ·subst h3;rw [if_neg (E1 3 (by decide)),if_pos (by show (3:Int)=2∨(3:Int)=3∨(3:Int)=5;decide)];exact yfU 3 n i _ w _ hs (.inr (.inl rfl))
 by_cases h5:k=5
 ·subst h5;rw [if_neg (E1 5 (by decide)),if_pos (by show (5:Int)=2∨(5:Int)=3∨(5:Int)=5;decide)];exact yfU 5 n i _ w _ hs (.inr (.inr rfl))
 by_cases h4:k=4
 ·subst h4;rw [if_neg (E1 4 (by decide)),if_neg (by show ¬ ((4:Int)=2∨(4:Int)=3∨(4:Int)=5);decide),if_pos (by show (4:Int)=4;rfl)];exact ysh n i _ w _ hs
 rw [if_neg h1,if_neg (by show ¬ (k=2∨k=3∨k=5);omega),if_neg h4]
 exact ysi k n i _ w ⟨h1,h2,h3,h4,h5⟩
theorem ybG (k:Int) (p:Oa) (c n:Nat) (l:List Sg) (w:World) (hx:Hid (l.length=n)) (hs:RdG w p l) :
  Calls Tryz.prog 16 #[.int .i64 k,.slice p n c] w (Rp (.bool (uC k l)) w):=by
 have HS:=h_ hs
 obtain ⟨v,HV⟩:=ez (uC k l)
 have HT:=h_ (fun W=>ybB k W)
 obtain ⟨bt,HBT⟩:=ez (isT k)
 rw [HBT.out] at HT
 rw [HV.out]
 have HB0:=h_ (Below.refl w.heap.size w)
 clear hs
 cases bt with
 | false =>
  obtain rfl:v=false:=by rw [← HV.out];unfold uC;rw [HBT.out];rfl
  go_in
  go_wp2_with fail
  refine (HT.out _).mono ?_
  rintro e w' ⟨rfl,rfl⟩
  go_wp2
  go_ret
  exact ⟨rfl,HB0.out⟩
 | true =>
 by_cases h4:4<n
 ·have h4i:(4:Int)<(n:Int):=by omega
  obtain rfl:v=false:=by
   rw [← HV.out];unfold uC;rw [decide_eq_false (by rw [hx.out];omega),Bool.and_false];rfl
  go_in
  go_wp2_with fail
  refine (HT.out _).mono ?_
  rintro e w' ⟨rfl,rfl⟩
  go_wp2
  go_ret
  exact ⟨rfl,HB0.out⟩
 have h4i:¬ (4:Int)<(n:Int):=by omega
 have hni:(n:Int)≤4:=by omega
 have HNO:Hid (∀ i,i<n→ybo l i=false→v=false):=h_ (fun i hi h=>by rw [← HV.out];exact yqv (by rw [hx.out];exact hi) h)
 have ygB:Hid ((∀ i,i<n→ybo l i=true)→v=true):=h_ (fun h=>by rw [← HV.out];exact ynJ HBT.out (by rw [hx.out];omega) (fun i hi=>h i (by rw [← hx.out];exact hi)))
 go_in
 go_wp2_with fail
 refine (HT.out _).mono ?_
 rintro e w' ⟨rfl,rfl⟩
 go_wp2
 go_loopw [5] (fun iv wr=>∃ i:Nat,i≤n∧iv=.int .i64 i∧Hid (∀ j,j<i→ybo l j=true)∧Hid (Be w wr)) (fun iv _=>n-(intOf iv).toNat)
 case atStart=>exact ⟨0,Nat.zero_le _,rfl,h_ (fun j hj=>by omega),HB0⟩
 case round =>
  obtain ⟨i,hi,rfl,HA,HB⟩:=hrel
  have ii:(i:Int)≤(n:Int):=by omega
  by_cases hlt:i<n
  ·have ilt:(i:Int)<(n:Int):=by omega
   obtain ⟨b1,o1,x,y,z,e1,hb1,hc1,hc2,hc3,hx1⟩:=(HS.out.below HB.out).at (k:=i) (by rw [hx.out];exact hlt)
   subst e1
   obtain ⟨Z,HZ⟩:∃ Z:ByteArray,Hid (⟨z.toArray⟩=Z):=⟨_,rfl⟩
   rw [HZ.out] at hc3
   obtain ⟨u,HU⟩:=ez (ybo l i)
   have HVS:Hid (Calls Tryz.prog 42 #[.agg #[.int .i64 x,.int .i64 y,.string Z],.int .i64 (i:Int)] wr (Rp (.bool u) wr)):=h_ (by
    have h:=ym2 x y i z wr
    unfold ybo at HU
    rw [hx1.out] at HU
    rwa [HZ.out,HU.out] at h)
   cases u with
   | false =>
    obtain rfl:v=false:=HNO.out i hlt HU.out
    go_wp2_with fail
    refine (HVS.out).mono ?_
    rintro e w3 ⟨rfl,hb3⟩
    have HB3:Hid (Be w w3):=th HB hb3
    clear hb3
    go_wp2
    go_ret
    exact ⟨rfl,HB3.out⟩
   | true =>
    have hst:Hid (∀ j,j<i+1→ybo l j=true):=h_ (fun j hj=>by
     by_cases e:j=i
     ·rw [e];exact HU.out
     ·exact HA.out j (by omega))
    go_wp2_with fail
    refine (HVS.out).mono ?_
    rintro e w3 ⟨rfl,hb3⟩
    have HB3:Hid (Be w w3):=th HB hb3
    clear hb3
    go_wp2
    go_roundw
    case rel=>exact ⟨i+1,by omega,by go_num,hst,HB3⟩
    case measure=>simp [intOf];omega
  ·obtain rfl:i=n:=by omega
   have ilt:¬ (i:Int)<(i:Int):=by omega
   obtain rfl:v=true:=ygB.out HA.out
   go_wp2
   go_ret
   exact ⟨rfl,HB.out⟩
end
end Go.Proofs.YtgepehlpjpccaaaGreatDoor
