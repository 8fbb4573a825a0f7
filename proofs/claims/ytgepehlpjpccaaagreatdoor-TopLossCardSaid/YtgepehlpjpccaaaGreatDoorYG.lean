/- Contracts. -/
import Derived.Test.YtgepehlpjpccaaaGreatDoorWDA
import Derived.RangeFuncFrom
namespace Go.Proofs.YtgepehlpjpccaaaGreatDoor
open Go.RowKit
open Go.Lib
set_option maxHeartbeats 2000000
set_option maxRecDepth 100000
def ych (s:List UInt8):Bool:=(yes s [48]).2&&decide ((0:Int)<(yes s [48]).1)
def gsB (n:Int):Bool:=decide (1≤n)&&decide (n≤8)
def ydr (x:Sg):Bool:=if x.1=1 then decide (x.2.1=0)&&ych x.2.2 else if x.1=2∨x.1=3∨x.1=5 then gsB x.2.1&&decide (x.2.2=[]) else if x.1=4 then decide (x.2.1=0)&&decide (x.2.2=[]) else false
theorem yvd (n:Int) (w:World):Calls Tryz.prog 84 #[.int .i64 n] w fun e w'=>e=.returned (.bool (gsB n))∧w=w':=by
 unfold gsB
 by_cases h:n<1∨8<n
 ·have e:(decide (1≤n)&&decide (n≤8))=false:=by
   rw [Bool.and_eq_false_iff,decide_eq_false_iff_not,decide_eq_false_iff_not];omega
  rw [e];exact ysP n w h
 ·have e:(decide (1≤n)&&decide (n≤8))=true:=by
   rw [Bool.and_eq_true,decide_eq_true_eq,decide_eq_true_eq];omega
  obtain ⟨m,rfl⟩:∃ m:Nat,n=m:=⟨n.toNat,by omega⟩
  rw [e];exact yo3 m w (by omega) (by omega)
theorem yeX (x:ByteArray) (w:World) (htab:Tab w):Calls Tryz.prog 43 #[.string x] w fun e w'=>e=.returned (.bool (ych x.data.toList))∧Below w.heap.size w w':=by
 have HC:=Lib.hid (ypZ x ⟨#[48]⟩ w htab)
 obtain ⟨v,HV⟩:∃ v,Hid (ych x.data.toList=v):=⟨_,rfl⟩
 obtain ⟨⟨z,b⟩,HZ⟩:∃ t:Int × Bool,Hid (yes x.data.toList [48]=t):=⟨_,rfl⟩
 have HC2:Hid (Calls Tryz.prog 85 #[.string x,.string ⟨#[48]⟩] w (yas (z,b) w)):=Lib.hid (by rw [← HZ.out];exact HC.out)
 have HVZ:Hid ((b&&decide ((0:Int)<z))=v):=Lib.hid (by rw [← HV.out];unfold ych;rw [HZ.out])
 rw [HV.out]
 clear htab HC
 cases b with
 | false =>
  obtain rfl:v=false:=by rw [← HVZ.out];rfl
  go_enter Tryz.func43,Tryz.ntmps43
  go_wp2_with fail
  refine (HC2.out).mono ?_
  rintro e w1 ⟨rfl,hb1⟩
  have HB:=Lib.hid hb1
  clear hb1
  go_wp2_with fail
  go_ret
  exact ⟨rfl,HB.out⟩
 | true =>
  by_cases hz:(0:Int)<z
  ·obtain rfl:v=true:=by rw [← HVZ.out,decide_eq_true hz];rfl
   go_enter Tryz.func43,Tryz.ntmps43
   go_wp2_with fail
   refine (HC2.out).mono ?_
   rintro e w1 ⟨rfl,hb1⟩
   have HB:=Lib.hid hb1
   clear hb1
   go_wp2_with fail
   go_ret
   exact ⟨rfl,HB.out⟩
  ·obtain rfl:v=false:=by rw [← HVZ.out,decide_eq_false hz];rfl
   have hzd:decide ((0:Int)<z)=false:=decide_eq_false hz
   clear hz
   go_enter Tryz.func43,Tryz.ntmps43
   go_wp2_with fail
   refine (HC2.out).mono ?_
   rintro e w1 ⟨rfl,hb1⟩
   have HB:=Lib.hid hb1
   clear hb1
   go_wp2_with fail
   go_ret
   exact ⟨rfl,HB.out⟩
theorem ytj (n:Int) (X:ByteArray) (w:World) (bp:Bool) (hp:∀ W,Below w.heap.size w W→Calls Tryz.prog 43 #[.string X] W fun e w2=>e=.returned (.bool bp)∧Below W.heap.size W w2):Calls Tryz.prog 40 #[.agg #[.int .i64 1,.int .i64 n,.string X]] w fun e w'=>e=.returned (.bool (decide (n=0)&&bp))∧Below w.heap.size w w':=by
 obtain ⟨W1,vK⟩:∃ W1,Hid (w.alloc (.cells #[.int .i64 1,.int .i64 n,.string X] 45)=W1):=⟨_,Lib.hid rfl⟩
 have zG:Hid (Below w.heap.size w W1):=Lib.hid (by rw [← vK.out];exact (Below.refl _ _).alloc (Nat.le_refl _) _)
 have HPS:=Lib.hid (hp W1 zG.out)
 clear hp
 by_cases hn:n=0
 ·subst hn
  go_enter Tryz.func40,Tryz.ntmps40
  go_wp2_with fail
  try rw [vK.out]
  refine (HPS.out).mono ?_
  rintro e w1 ⟨rfl,hb1⟩
  have HB:=Lib.hid (zG.out.trans (hb1.mono zG.out.size))
  clear hb1
  go_wp2_with fail
  go_ret
  exact ⟨by simp,HB.out⟩
 ·have hne:(n==0)=false:=by rw [beq_eq_false_iff_ne];exact hn
  rw [decide_eq_false hn,Bool.false_and]
  go_enter Tryz.func40,Tryz.ntmps40
  go_wp2_with fail
  go_ret
  exact ⟨rfl,by first|exact zG.out|(rw [vK.out];exact zG.out)⟩
theorem ygH (kk:Int) (n:Int) (X:ByteArray) (w:World) (bs:Bool) (hb:X.toList.isEmpty=bs) (hkk:kk=2∨kk=3∨kk=5):Calls Tryz.prog 40 #[.agg #[.int .i64 kk,.int .i64 n,.string X]] w fun e w'=>e=.returned (.bool (gsB n&&bs))∧Below w.heap.size w w':=by
 obtain ⟨W1,vK⟩:∃ W1,Hid (w.alloc (.cells #[.int .i64 kk,.int .i64 n,.string X] 45)=W1):=⟨_,Lib.hid rfl⟩
 rcases hkk with rfl|rfl|rfl
 all_goals
  have zG:Hid (Below w.heap.size w W1):=Lib.hid (by rw [← vK.out];exact (Below.refl _ _).alloc (Nat.le_refl _) _)
  have HGS:=Lib.hid (fun W=>yvd n W)
  obtain ⟨bg,HBG⟩:∃ b,Hid (gsB n=b):=⟨_,rfl⟩
  rw [HBG.out] at HGS ⊢
  cases bg with
  | false =>
   clear hb
   go_enter Tryz.func40,Tryz.ntmps40
   go_wp2_with fail
   refine (HGS.out _).mono ?_
   rintro e w' ⟨rfl,rfl⟩
   go_wp2_with fail
   go_ret
   exact ⟨rfl,by first|exact zG.out|(rw [vK.out];exact zG.out)⟩
  | true =>
   cases bs with
   | true =>
    have g1:X.toList=[]:=List.isEmpty_iff.1 hb
    clear hb
    go_enter Tryz.func40,Tryz.ntmps40
    go_wp2_with fail
    refine (HGS.out _).mono ?_
    rintro e w' ⟨rfl,rfl⟩
    go_wp2_with fail
    go_ret
    exact ⟨rfl,by first|exact zG.out|(rw [vK.out];exact zG.out)⟩
   | false =>
    have g2:¬ X.toList=[]:=fun h=>by rw [h] at hb;cases hb
    have g3:(X.toList==[])=false:=by rw [beq_eq_false_iff_ne];exact g2
    go_enter Tryz.func40,Tryz.ntmps40
    go_wp2_with fail
    refine (HGS.out _).mono ?_
    rintro e w' ⟨rfl,rfl⟩
    go_wp2_with fail
    go_ret
    exact ⟨rfl,by first|exact zG.out|(rw [vK.out];exact zG.out)⟩
theorem ytk (n:Int) (X:ByteArray) (w:World) (bs:Bool) (hb:X.toList.isEmpty=bs):Calls Tryz.prog 40 #[.agg #[.int .i64 4,.int .i64 n,.string X]] w fun e w'=>e=.returned (.bool (decide (n=0)&&bs))∧Below w.heap.size w w':=by
 obtain ⟨W1,vK⟩:∃ W1,Hid (w.alloc (.cells #[.int .i64 4,.int .i64 n,.string X] 45)=W1):=⟨_,Lib.hid rfl⟩
 have zG:Hid (Below w.heap.size w W1):=Lib.hid (by rw [← vK.out];exact (Below.refl _ _).alloc (Nat.le_refl _) _)
 by_cases hn:n=0
 ·subst hn
  rw [decide_eq_true rfl,Bool.true_and]
  cases bs with
  | true =>
   have g1:X.toList=[]:=List.isEmpty_iff.1 hb
   clear hb
   go_enter Tryz.func40,Tryz.ntmps40
   go_wp2_with fail
   go_ret
   exact ⟨rfl,by first|exact zG.out|(rw [vK.out];exact zG.out)⟩
  | false =>
   have g2:¬ X.toList=[]:=fun h=>by rw [h] at hb;cases hb
   have g3:(X.toList==[])=false:=by rw [beq_eq_false_iff_ne];exact g2
   go_enter Tryz.func40,Tryz.ntmps40
   go_wp2_with fail
   go_ret
   exact ⟨rfl,by first|exact zG.out|(rw [vK.out];exact zG.out)⟩
 ·have hne:(n==0)=false:=by rw [beq_eq_false_iff_ne];exact hn
  rw [decide_eq_false hn,Bool.false_and]
  clear hb
  go_enter Tryz.func40,Tryz.ntmps40
  go_wp2_with fail
  go_ret
  exact ⟨rfl,by first|exact zG.out|(rw [vK.out];exact zG.out)⟩
theorem ytl (k n:Int) (X:ByteArray) (w:World) (h:k≠1∧k≠2∧k≠3∧k≠4∧k≠5):Calls Tryz.prog 40 #[.agg #[.int .i64 k,.int .i64 n,.string X]] w fun e w'=>e=.returned (.bool (false))∧Below w.heap.size w w':=by
 obtain ⟨W1,vK⟩:∃ W1,Hid (w.alloc (.cells #[.int .i64 k,.int .i64 n,.string X] 45)=W1):=⟨_,Lib.hid rfl⟩
 have zG:Hid (Below w.heap.size w W1):=Lib.hid (by rw [← vK.out];exact (Below.refl _ _).alloc (Nat.le_refl _) _)
 obtain ⟨h1,h2,h3,h4,h5⟩:=h
 have e1:(k==1)=false:=by rw [beq_eq_false_iff_ne];exact h1
 have e2:(k==2)=false:=by rw [beq_eq_false_iff_ne];exact h2
 have e3:(k==3)=false:=by rw [beq_eq_false_iff_ne];exact h3
 have e4:(k==4)=false:=by rw [beq_eq_false_iff_ne];exact h4
 have e5:(k==5)=false:=by rw [beq_eq_false_iff_ne];exact h5
 go_enter Tryz.func40,Tryz.ntmps40
 go_wp2_with fail
 go_ret
 exact ⟨rfl,by first|exact zG.out|(rw [vK.out];exact zG.out)⟩
theorem yor (k n:Int) (s:List UInt8) (w:World) (htab:Tab w):Calls Tryz.prog 40 #[.agg #[.int .i64 k,.int .i64 n,.string ⟨s.toArray⟩]] w fun e w'=>e=.returned (.bool (ydr (k,n,s)))∧Below w.heap.size w w':=by
 have hs:(⟨s.toArray⟩:ByteArray).toList.isEmpty=decide (s=[]):=by
  cases s with
  | nil=>simp
  | cons a r=>simp
 have E1:∀ j:Int,j≠1→¬ (j,n,s).1=1:=fun _ h=>h
 unfold ydr
 by_cases h1:k=1
 ·subst h1
  rw [if_pos rfl]
  exact ytj n _ w (ych s) (fun W hW=>yeX ⟨s.toArray⟩ W (htab.below hW))
 by_cases h2:k=2
 ·subst h2;rw [if_neg (E1 2 (by decide)),if_pos (by show (2:Int)=2∨(2:Int)=3∨(2:Int)=5;decide)];exact ygH 2 n _ w _ hs (.inl rfl)
 by_cases h3:k=3
 ·subst h3;rw [if_neg (E1 3 (by decide)),if_pos (by show (3:Int)=2∨(3:Int)=3∨(3:Int)=5;decide)];exact ygH 3 n _ w _ hs (.inr (.inl rfl))
 by_cases h5:k=5
 ·subst h5;rw [if_neg (E1 5 (by decide)),if_pos (by show (5:Int)=2∨(5:Int)=3∨(5:Int)=5;decide)];exact ygH 5 n _ w _ hs (.inr (.inr rfl))
 by_cases h4:k=4
 ·subst h4;rw [if_neg (E1 4 (by decide)),if_neg (by show ¬ ((4:Int)=2∨(4:Int)=3∨(4:Int)=5);decide),if_pos (by show (4:Int)=4;rfl)];exact ytk n _ w _ hs
 rw [if_neg h1,if_neg (by show ¬ (k=2∨k=3∨k=5);omega),if_neg h4]
 exact ytl k n _ w ⟨h1,h2,h3,h4,h5⟩
def ya2 (l:List Sg) (i:Nat):Bool:=ydr (l.getD i (0,0,[]))&&(decide (i=0) || !decide ((l.getD i (0,0,[])).1=1))
def vG (k:Int) (l:List Sg):Bool:=isT k&&decide (l.length≤4)&&(List.range l.length).all (ya2 l)
theorem yrO {k:Int} {l:List Sg} {i:Nat} (hi:i<l.length) (h:ya2 l i=false):vG k l=false:=by
 unfold vG
 have:(List.range l.length).all (ya2 l)=false:=by
  rw [List.all_eq_false]
  exact ⟨i,List.mem_range.2 hi,by rw [h];simp⟩
 rw [this,Bool.and_false]
theorem yjm {k:Int} {l:List Sg} (hk:isT k=true) (hl:l.length≤4) (h:∀ i,i<l.length→ya2 l i=true):vG k l=true:=by
 unfold vG
 rw [hk,decide_eq_true hl,Bool.true_and,Bool.true_and,List.all_eq_true]
 exact fun i hi=>h i (List.mem_range.1 hi)
theorem vM {k:Int} {l:List Sg} (h:vG k l=true):isT k=true∧l.length≤4∧∀ i,i<l.length→ya2 l i=true:=by
 unfold vG at h
 rw [Bool.and_eq_true,Bool.and_eq_true,decide_eq_true_eq,List.all_eq_true] at h
 exact ⟨h.1.1,h.1.2,fun i hi=>h.2 i (List.mem_range.2 hi)⟩
theorem yaa (k:Int) (p:Option Addr) (c n:Nat) (l:List Sg) (w:World) (htab:Tab w) (hx:Hid (l.length=n)) (hs:RdG w p l) :
  Calls Tryz.prog 15 #[.int .i64 k,.slice p n c] w fun e w'=>e=.returned (.bool (vG k l))∧Below w.heap.size w w':=by
 have HS:=Lib.hid hs
 have yiS:=Lib.hid htab
 obtain ⟨v,HV⟩:∃ v,Hid (vG k l=v):=⟨_,rfl⟩
 have HT:=Lib.hid (fun W=>ydW k W)
 obtain ⟨bt,HBT⟩:∃ bt,Hid (isT k=bt):=⟨_,rfl⟩
 rw [HBT.out] at HT
 rw [HV.out]
 have HB0:=Lib.hid (Below.refl w.heap.size w)
 clear hs htab
 cases bt with
 | false =>
  obtain rfl:v=false:=by rw [← HV.out];unfold vG;rw [HBT.out];rfl
  go_enter Tryz.func15,Tryz.ntmps15
  go_wp2_with fail
  refine (HT.out _).mono ?_
  rintro e w' ⟨rfl,rfl⟩
  go_wp2_with fail
  go_ret
  exact ⟨rfl,HB0.out⟩
 | true =>
 by_cases h4:4<n
 ·have h4i:(4:Int)<(n:Int):=by omega
  obtain rfl:v=false:=by
   rw [← HV.out];unfold vG;rw [decide_eq_false (by rw [hx.out];omega),Bool.and_false];rfl
  go_enter Tryz.func15,Tryz.ntmps15
  go_wp2_with fail
  refine (HT.out _).mono ?_
  rintro e w' ⟨rfl,rfl⟩
  go_wp2_with fail
  go_ret
  exact ⟨rfl,HB0.out⟩
 have h4i:¬ (4:Int)<(n:Int):=by omega
 have hni:(n:Int)≤4:=by omega
 have HNO:Hid (∀ i,i<n→ya2 l i=false→v=false):=Lib.hid (fun i hi h=>by rw [← HV.out];exact yrO (by rw [hx.out];exact hi) h)
 have yqt:Hid ((∀ i,i<n→ya2 l i=true)→v=true):=Lib.hid (fun h=>by rw [← HV.out];exact yjm HBT.out (by rw [hx.out];omega) (fun i hi=>h i (by rw [← hx.out];exact hi)))
 go_enter Tryz.func15,Tryz.ntmps15
 go_wp2_with fail
 refine (HT.out _).mono ?_
 rintro e w' ⟨rfl,rfl⟩
 go_wp2_with fail
 go_loopw [17] (fun iv wr=>∃ i:Nat,i≤n∧iv=.int .i64 i∧Hid (∀ j,j<i→ya2 l j=true)∧Hid (Below w.heap.size w wr)) (fun iv _=>n-(intOf iv).toNat)
 case atStart=>exact ⟨0,Nat.zero_le _,rfl,Lib.hid (fun j hj=>by omega),HB0⟩
 case round =>
  obtain ⟨i,hi,rfl,HA,HB⟩:=hrel
  have ii:(i:Int)≤(n:Int):=by omega
  by_cases hlt:i<n
  ·have ilt:(i:Int)<(n:Int):=by omega
   obtain ⟨b1,o1,x,y,z,e1,hb1,hc1,hc2,hc3,hx1⟩:=(HS.out.below HB.out).at (k:=i) (by rw [hx.out];exact hlt)
   subst e1
   obtain ⟨Z,HZ⟩:∃ Z:ByteArray,Hid (⟨z.toArray⟩=Z):=⟨_,rfl⟩
   rw [HZ.out] at hc3
   obtain ⟨W1,vK⟩:∃ W1,Hid (wr.alloc (.cells #[.int .i64 x,.int .i64 y,.string Z] 45)=W1):=⟨_,Lib.hid rfl⟩
   have zG:Hid (Below wr.heap.size wr W1):=Lib.hid (by rw [← vK.out];exact (Below.refl _ _).alloc (Nat.le_refl _) _)
   have yho:Hid (Below w.heap.size w W1):=Lib.hid (HB.out.trans (zG.out.mono HB.out.size))
   obtain ⟨u,HU⟩:∃ u,Hid (ydr (x,y,z)=u):=⟨_,rfl⟩
   have HVS:Hid (Calls Tryz.prog 40 #[.agg #[.int .i64 x,.int .i64 y,.string Z]] W1 fun e w'=>e=.returned (.bool u)∧Below W1.heap.size W1 w'):=Lib.hid (by
    have h:=yor x y z W1 (yiS.out.below yho.out)
    rwa [HZ.out,HU.out] at h)
   have uZ:Hid (W1.heap[wr.heap.size]?=some (.cells #[.int .i64 x,.int .i64 y,.string Z] 45 (0,0))):=Lib.hid (by rw [← vK.out];exact World.alloc_heap_new wr _)
   have hq0:W1.cell? ⟨wr.heap.size,0,none⟩=some (.int .i64 x):=by simp [World.cell?,uZ.out]
   have hq1:W1.cell? ⟨wr.heap.size,1,none⟩=some (.int .i64 y):=by simp [World.cell?,uZ.out]
   have hq2:W1.cell? ⟨wr.heap.size,2,none⟩=some (.string Z):=by simp [World.cell?,uZ.out]
   have HPL:Hid (ya2 l i=(u&&(decide (i=0) || !decide (x=1)))):=Lib.hid (by unfold ya2;rw [hx1.out,HU.out])
   cases u with
   | false =>
    obtain rfl:v=false:=HNO.out i hlt (by rw [HPL.out];rfl)
    go_wp2_with fail
    rw [vK.out]
    go_wp2_with fail
    refine (HVS.out).mono ?_
    rintro e w3 ⟨rfl,hb3⟩
    have HB3:Hid (Below w.heap.size w w3):=Lib.hid (yho.out.trans (hb3.mono yho.out.size))
    clear hb3
    go_wp2_with fail
    go_ret
    exact ⟨rfl,HB3.out⟩
   | true =>
    by_cases h1:x=1
    ·by_cases h0:i=0
     ·have hst:Hid (∀ j,j<i+1→ya2 l j=true):=Lib.hid (fun j hj=>by
       by_cases e:j=i
       ·rw [e,HPL.out,decide_eq_true h0];rfl
       ·exact HA.out j (by omega))
      subst h1
      have hi0:¬ (0:Int)<(i:Int):=by omega
      have hi0d:decide ((0:Int)<(i:Int))=false:=decide_eq_false hi0
      clear h0
      go_wp2_with fail
      rw [vK.out]
      go_wp2_with fail
      refine (HVS.out).mono ?_
      rintro e w3 ⟨rfl,hb3⟩
      have hg0:=(hb3.cell (p:=⟨wr.heap.size,0,none⟩) (by have:=Array.getElem?_eq_some_iff.1 uZ.out;exact this.1)).trans hq0
      have HB3:Hid (Below w.heap.size w w3):=Lib.hid (yho.out.trans (hb3.mono yho.out.size))
      clear hb3
      go_wp2_with fail
      go_roundw
      case rel=>exact ⟨i+1,by omega,by go_num,hst,HB3⟩
      case measure=>simp [intOf];omega
     ·obtain rfl:v=false:=HNO.out i hlt (by rw [HPL.out,decide_eq_false h0,decide_eq_true h1];rfl)
      subst h1
      have hi0:(0:Int)<(i:Int):=by omega
      go_wp2_with fail
      rw [vK.out]
      go_wp2_with fail
      refine (HVS.out).mono ?_
      rintro e w3 ⟨rfl,hb3⟩
      have hg0:=(hb3.cell (p:=⟨wr.heap.size,0,none⟩) (by have:=Array.getElem?_eq_some_iff.1 uZ.out;exact this.1)).trans hq0
      have HB3:Hid (Below w.heap.size w w3):=Lib.hid (yho.out.trans (hb3.mono yho.out.size))
      clear hb3
      go_wp2_with fail
      go_ret
      exact ⟨rfl,HB3.out⟩
    ·have hst:Hid (∀ j,j<i+1→ya2 l j=true):=Lib.hid (fun j hj=>by
      by_cases e:j=i
      ·rw [e,HPL.out,decide_eq_false h1];simp
      ·exact HA.out j (by omega))
     have hx1b:(x==1)=false:=by rw [beq_eq_false_iff_ne];exact h1
     clear h1
     go_wp2_with fail
     rw [vK.out]
     go_wp2_with fail
     refine (HVS.out).mono ?_
     rintro e w3 ⟨rfl,hb3⟩
     have hg0:=(hb3.cell (p:=⟨wr.heap.size,0,none⟩) (by have:=Array.getElem?_eq_some_iff.1 uZ.out;exact this.1)).trans hq0
     have HB3:Hid (Below w.heap.size w w3):=Lib.hid (yho.out.trans (hb3.mono yho.out.size))
     clear hb3
     go_wp2_with fail
     go_roundw
     case rel=>exact ⟨i+1,by omega,by go_num,hst,HB3⟩
     case measure=>simp [intOf];omega
  ·obtain rfl:i=n:=by omega
   have ilt:¬ (i:Int)<(i:Int):=by omega
   obtain rfl:v=true:=yqt.out HA.out
   go_wp2_with fail
   go_ret
   exact ⟨rfl,HB.out⟩
set_option maxHeartbeats 8000000
def yiL (xs:List (List UInt8)) (s:List UInt8):List (List UInt8):=xs.map fun x=>yaV x s
def vF (k:Int) (s x:List UInt8):Bool:=(!decide (x=[])&&decide (yaV x s=[])) || !uB k (yaV x s)
theorem ypi {xs:List (List UInt8)} {s:List UInt8} {i:Nat} (h:i<xs.length):(yiL xs s).getD i []=yaV (xs.getD i []) s:=by
 unfold yiL
 rw [List.getD_eq_getElem?_getD,List.getElem?_map,List.getD_eq_getElem?_getD,List.getElem?_eq_getElem h];rfl
theorem ygI (xs:List (List UInt8)) (s:List UInt8):(yiL xs s).length=xs.length:=List.length_map _
structure RnI (w:World) (V n i:Nat) (ys:List (List UInt8)) (W:World):Prop where
 below:Below w.heap.size w W
 hV:w.heap.size≤V
 vals:ybz W V n i ys
theorem RnI.lt {w W:World} {V n i:Nat} {ys:List (List UInt8)} (h:RnI w V n i ys W):V<W.heap.size:=by
 obtain ⟨cs,h1,-⟩:=h.vals
 exact (Array.getElem?_eq_some_iff.1 h1).1
theorem RnI.call {w W W':World} {V n i:Nat} {ys:List (List UInt8)} (h:RnI w V n i ys W) (hb:Below W.heap.size W W'):RnI w V n i ys W' :=
 ⟨h.below.trans (hb.mono h.below.size),h.hV,h.vals.keep (hb.block V h.lt)⟩
theorem RnI.put {w W:World} {V n i:Nat} {ys:List (List UInt8)} (h:RnI w V n i ys W) (hi:i<n):RnI w V n (i+1) ys (W.setCell ⟨V,i,none⟩ (.string ⟨(ys.getD i []).toArray⟩)) :=
 ⟨h.below.setCell (p:=⟨V,i,none⟩) h.hV _,h.hV,h.vals.put hi⟩
theorem RnI.cell {w W:World} {V n i j:Nat} {ys:List (List UInt8)} (h:RnI w V n i ys W) (hj:j<i) (hi:i≤n):W.cell? ⟨V,j,none⟩=some (.string ⟨(ys.getD j []).toArray⟩):=by
 obtain ⟨cs,h1,h2,h3⟩:=h.vals
 have h4:=h3 j (by omega)
 rw [if_pos hj] at h4
 simp [World.cell?,h1,h4]
theorem ymh (k:Int) (p:Option Addr) (c n:Nat) (xs:List (List UInt8)) (s:ByteArray) (w:World) (hx:Hid (xs.length=n)) (hn:n≤4096) (hs:Ss w p xs) (he:Env w) (z:Int) (hz:z≠0) (HZ:Hid ((if ych s.data.toList=false then 2 else uA k xs)=z)) :
  Calls Tryz.prog 18 #[.int .i64 k,.slice p n c,.string s] w fun e w'=>e=.returned (.tuple #[.slice none 0 0,.int .i64 z])∧Below w.heap.size w w':=by
 have HS:=Lib.hid hs
 have HE:=Lib.hid he
 have HP:=Lib.hid (yeX s w he.tab)
 obtain ⟨bp,HBP⟩:∃ b,Hid (ych s.data.toList=b):=⟨_,rfl⟩
 rw [HBP.out] at HP HZ
 clear hs he
 cases bp with
 | false =>
  have e:=HZ.out
  rw [if_pos rfl] at e
  subst e
  go_enter Tryz.func18,Tryz.ntmps18
  go_wp2_with fail
  refine (HP.out).mono ?_
  rintro e w1 ⟨rfl,hb1⟩
  have HB:=Lib.hid hb1
  clear hb1
  go_wp2_with fail
  go_ret2
  exact ⟨rfl,HB.out⟩
 | true =>
  have e:=HZ.out
  rw [if_neg (by decide)] at e
  have HC:Hid (∀ W,Below w.heap.size w W→Calls Tryz.prog 44 #[.int .i64 k,.slice p n c] W fun e w'=>e=.returned (.int .i64 z)∧Below W.heap.size W w'):=Lib.hid (fun W hW=>by
   have h:=ycv k p c n xs W hx hn (HS.out.below hW) (HE.out.below hW)
   rwa [e] at h)
  have gz:(z != 0)=true:=by rw [bne_iff_ne];exact hz
  clear e hz
  go_enter Tryz.func18,Tryz.ntmps18
  go_wp2_with fail
  refine (HP.out).mono ?_
  rintro e w1 ⟨rfl,hb1⟩
  have HB:=Lib.hid hb1
  clear hb1
  go_wp2_with fail
  refine (HC.out _ HB.out).mono ?_
  rintro e w2 ⟨rfl,hb2⟩
  have uV:=Lib.hid (HB.out.trans (hb2.mono HB.out.size))
  clear hb2
  go_wp2_with fail
  go_ret2
  exact ⟨rfl,uV.out⟩
def yec (k:Int) (xs:List (List UInt8)) (s:List UInt8) (n:Nat) (w:World) (e:Ending) (w':World):Prop :=
 Below w.heap.size w w'∧((xs.any (vF k s)=true∧e=.returned (.tuple #[.slice none 0 0,.int .i64 41]))∨(xs.any (vF k s)=false∧∃ q,e=.returned (.tuple #[.slice q n n,.int .i64 0])∧Ss w' q (yiL xs s)))
theorem ygZ (k:Int) (p:Option Addr) (c n:Nat) (xs:List (List UInt8)) (s:ByteArray) (w:World) (hx:Hid (xs.length=n)) (hn:n≤4096) (hs:Ss w p xs) (he:Env w) (HPO:Hid (ych s.data.toList=true)) (HCK:Hid (uA k xs=0)) :
  Calls Tryz.prog 18 #[.int .i64 k,.slice p n c,.string s] w (yec k xs s.data.toList n w):=by
 have HS:=Lib.hid hs
 have HE:=Lib.hid he
 have HP:=Lib.hid (yeX s w he.tab)
 rw [HPO.out] at HP
 have HC:Hid (∀ W,Below w.heap.size w W→Calls Tryz.prog 44 #[.int .i64 k,.slice p n c] W fun e w'=>e=.returned (.int .i64 0)∧Below W.heap.size W w'):=Lib.hid (fun W hW=>by
  have h:=ycv k p c n xs W hx hn (HS.out.below hW) (HE.out.below hW)
  rwa [HCK.out] at h)
 obtain ⟨st,HST⟩:∃ st,Hid (s.data.toList=st):=⟨_,rfl⟩
 rw [HST.out]
 obtain ⟨ys,HYS⟩:∃ ys,Hid (yiL xs st=ys):=⟨_,rfl⟩
 have HYL:Hid (ys.length=n):=Lib.hid (by rw [← HYS.out,ygI,hx.out])
 obtain ⟨Z,HZ,HMK⟩:=yip n (by omega)
 have HZ2:=Lib.hid HZ
 have HMK2:=Lib.hid HMK
 have hni:(n:Int)≤4096:=by omega
 clear hs he HZ HMK
 go_enter Tryz.func18,Tryz.ntmps18
 go_wp2_with fail
 refine (HP.out).mono ?_
 rintro e w1 ⟨rfl,hb1⟩
 have HB:=Lib.hid hb1
 clear hb1
 go_wp2_with fail
 refine (HC.out _ HB.out).mono ?_
 rintro e w2 ⟨rfl,hb2⟩
 have uV:=Lib.hid (HB.out.trans (hb2.mono HB.out.size))
 have hmk:=HMK2.out w2
 clear hb2
 go_wp2_with fail
 obtain ⟨V,HV⟩:∃ V,Hid (w2.heap.size=V):=⟨_,rfl⟩
 obtain ⟨W3,HW3⟩:∃ W3,Hid (w2.alloc (.cells Z 9)=W3):=⟨_,Lib.hid rfl⟩
 rw [HW3.out,HV.out]
 have HI0:Hid (RnI w V n 0 ys W3):=Lib.hid (by
  refine ⟨?_,by rw [← HV.out];exact uV.out.size,Z,by rw [← HW3.out,← HV.out];exact World.alloc_heap_new w2 _,HZ2.out.1,fun j hj=>by rw [if_neg (by omega)];exact HZ2.out.2 j hj⟩
  rw [← HW3.out]
  exact uV.out.alloc uV.out.size _)
 clear hmk
 go_loopw [26] (fun iv wr=>∃ i:Nat,i≤n∧iv=.int .i64 i∧Hid (RnI w V n i ys wr)∧Hid (∀ j,j<i→vF k st (xs.getD j [])=false)) (fun iv _=>n-(intOf iv).toNat)
 case atStart=>exact ⟨0,Nat.zero_le _,rfl,HI0,Lib.hid (fun j hj=>by omega)⟩
 case round =>
  obtain ⟨i,hi,rfl,HI,HA⟩:=hrel
  have ii:(i:Int)≤(n:Int):=by omega
  by_cases hlt:i<n
  ·have ilt:(i:Int)<(n:Int):=by omega
   have hil:i<xs.length:=by rw [hx.out];exact hlt
   obtain ⟨b1,o1,x,e1,hb1,hc1,hxx⟩:=(HS.out.below HI.out.below).at (k:=i) hil
   subst e1
   obtain ⟨u,HU⟩:∃ u,Hid (yaV x st=u):=⟨_,rfl⟩
   have HYI:Hid (ys.getD i []=u):=Lib.hid (by rw [← HYS.out,ypi hil,hxx.out,HU.out])
   obtain ⟨X,HX⟩:∃ X:ByteArray,Hid (⟨x.toArray⟩=X):=⟨_,rfl⟩
   obtain ⟨U,HUU⟩:∃ U:ByteArray,Hid (⟨u.toArray⟩=U):=⟨_,rfl⟩
   rw [HX.out] at hc1
   have HRD:Hid (Calls Tryz.prog 45 #[.string X,.string s] wr fun e w'=>e=.returned (.string U)∧Below wr.heap.size wr w'):=Lib.hid (by
    have h:=yn6 X s wr (HE.out.below HI.out.below).tab
    unfold yaz at h
    have e:yaV X.data.toList s.data.toList=u:=by rw [← HX.out,HST.out];exact HU.out
    rwa [e,HUU.out] at h)
   obtain ⟨f,HF⟩:∃ f,Hid (uB k u=f):=⟨_,rfl⟩
   have HFT:Hid (∀ W,Below w.heap.size w W→Calls Tryz.prog 46 #[.int .i64 k,.string U] W fun e w'=>e=.returned (.bool f)∧Below W.heap.size W w'):=Lib.hid (fun W hW=>by
    have h:=ygM k u W (HE.out.below hW)
    rwa [HUU.out,HF.out] at h)
   have hXe:x=[]→X.toList=[]:=fun h=>by rw [← HX.out,h];simp
   have hUe:u=[]→U.toList=[]:=fun h=>by rw [← HUU.out,h];simp
   have hXn:x≠[]→¬ X.toList=[]:=fun h e=>h (by rw [← HX.out] at e;simpa using e)
   have hUn:u≠[]→¬ U.toList=[]:=fun h e=>h (by rw [← HUU.out] at e;simpa using e)
   have HXE:=Lib.hid hXe
   have HUE:=Lib.hid hUe
   have HXN:=Lib.hid hXn
   have HUN:=Lib.hid hUn
   have HBD:Hid (vF k st (xs.getD i [])=((!decide (x=[])&&decide (u=[])) || !f)):=Lib.hid (by unfold vF;rw [hxx.out,HU.out,HF.out])
   have ywg:Hid (vF k st (xs.getD i [])=true→xs.any (vF k st)=true):=Lib.hid (fun h=>List.any_eq_true.2 ⟨_,by rw [List.getD_eq_getElem?_getD,List.getElem?_eq_getElem hil];exact List.getElem_mem hil,h⟩)
   have hclos:∀ w5,Below wr.heap.size wr w5→(w5.cell? ⟨V,i,none⟩=some (.string ⟨#[]⟩)∧w5.frozen? ⟨V,i,none⟩=false)∧RnI w V n (i+1) ys (w5.setCell ⟨V,i,none⟩ (.string U)):=fun w5 hb5=>by
    have h5:=HI.out.call hb5
    have h6:=h5.put hlt
    rw [HYI.out,HUU.out] at h6
    exact ⟨h5.vals.old hlt,h6⟩
   have HCL:=Lib.hid hclos
   have hUI:∀ W,RnI w V n (i+1) ys W→W.cell? ⟨V,i,none⟩=some (.string U):=fun W hW=>by
    have h:=hW.cell (Nat.lt_succ_self i) hlt
    rwa [HYI.out,HUU.out] at h
   have HUI:=Lib.hid hUI
   clear hb1 hXe hUe hXn hUn hclos hUI hil
   by_cases hxe:x=[]
   ·have g1:=HXE.out hxe
    cases f with
    | true =>
     have HA2:Hid (∀ j,j<i+1→vF k st (xs.getD j [])=false):=Lib.hid (fun j hj=>by
      by_cases e:j=i
      ·rw [e,HBD.out,decide_eq_true hxe];rfl
      ·exact HA.out j (by omega))
     clear hxe
     go_wp2_with fail
     refine (HRD.out).mono ?_
     rintro e w5 ⟨rfl,hb5⟩
     obtain ⟨⟨gc,gf⟩,hn6⟩:=HCL.out w5 hb5
     obtain ⟨W6,HW6⟩:∃ W6,Hid (w5.setCell ⟨V,i,none⟩ (.string U)=W6):=⟨_,rfl⟩
     rw [HW6.out] at hn6
     have HN6:=Lib.hid hn6
     have hu6:=HUI.out _ hn6
     clear hb5 hn6
     go_wp2_with fail
     rw [HW6.out]
     go_wp2_with fail
     refine (HFT.out _ HN6.out.below).mono ?_
     rintro e w7 ⟨rfl,hb7⟩
     have HN7:=Lib.hid (HN6.out.call hb7)
     clear hb7 hu6 gc gf
     go_wp2_with fail
     go_roundw
     case rel=>exact ⟨i+1,by omega,by go_num,HN7,HA2⟩
     case measure=>simp [intOf];omega
    | false =>
     have yq1:Hid (xs.any (vF k st)=true):=Lib.hid (ywg.out (by rw [HBD.out];simp))
     clear hxe
     go_wp2_with fail
     refine (HRD.out).mono ?_
     rintro e w5 ⟨rfl,hb5⟩
     obtain ⟨⟨gc,gf⟩,hn6⟩:=HCL.out w5 hb5
     obtain ⟨W6,HW6⟩:∃ W6,Hid (w5.setCell ⟨V,i,none⟩ (.string U)=W6):=⟨_,rfl⟩
     rw [HW6.out] at hn6
     have HN6:=Lib.hid hn6
     have hu6:=HUI.out _ hn6
     clear hb5 hn6
     go_wp2_with fail
     rw [HW6.out]
     go_wp2_with fail
     refine (HFT.out _ HN6.out.below).mono ?_
     rintro e w7 ⟨rfl,hb7⟩
     have HN7:=Lib.hid (HN6.out.call hb7)
     have uW:Hid (yec k xs st n w (.returned (.tuple #[.slice none 0 0,.int .i64 41])) w7):=Lib.hid ⟨HN7.out.below,.inl ⟨yq1.out,rfl⟩⟩
     clear hb7 hu6 gc gf
     go_wp2_with fail
     go_ret2
     exact uW.out
   ·have g1:=HXN.out hxe
    have g1b:(X.toList==[])=false:=by rw [beq_eq_false_iff_ne];exact g1
    have g1c:X.toList.isEmpty=false:=by
     cases h:X.toList with
     | nil=>exact absurd h g1
     | cons=>rfl
    by_cases hue:u=[]
    ·have g2:=HUE.out hue
     have yq1:Hid (xs.any (vF k st)=true):=Lib.hid (ywg.out (by rw [HBD.out,decide_eq_false hxe,decide_eq_true hue];rfl))
     clear hxe hue
     go_wp2_with fail
     refine (HRD.out).mono ?_
     rintro e w5 ⟨rfl,hb5⟩
     obtain ⟨⟨gc,gf⟩,hn6⟩:=HCL.out w5 hb5
     obtain ⟨W6,HW6⟩:∃ W6,Hid (w5.setCell ⟨V,i,none⟩ (.string U)=W6):=⟨_,rfl⟩
     rw [HW6.out] at hn6
     have HN6:=Lib.hid hn6
     have hu6:=HUI.out _ hn6
     have uW:Hid (yec k xs st n w (.returned (.tuple #[.slice none 0 0,.int .i64 41])) W6):=Lib.hid ⟨HN6.out.below,.inl ⟨yq1.out,rfl⟩⟩
     clear hb5 hn6
     go_wp2_with fail
     rw [HW6.out]
     go_wp2_with fail
     go_ret2
     exact uW.out
    ·have g2:=HUN.out hue
     have g2b:(U.toList==[])=false:=by rw [beq_eq_false_iff_ne];exact g2
     have g2c:U.toList.isEmpty=false:=by
      cases h:U.toList with
      | nil=>exact absurd h g2
      | cons=>rfl
     cases f with
     | true =>
      have HA2:Hid (∀ j,j<i+1→vF k st (xs.getD j [])=false):=Lib.hid (fun j hj=>by
       by_cases e:j=i
       ·rw [e,HBD.out,decide_eq_false hue];simp
       ·exact HA.out j (by omega))
      clear hxe hue
      go_wp2_with fail
      refine (HRD.out).mono ?_
      rintro e w5 ⟨rfl,hb5⟩
      obtain ⟨⟨gc,gf⟩,hn6⟩:=HCL.out w5 hb5
      obtain ⟨W6,HW6⟩:∃ W6,Hid (w5.setCell ⟨V,i,none⟩ (.string U)=W6):=⟨_,rfl⟩
      rw [HW6.out] at hn6
      have HN6:=Lib.hid hn6
      have hu6:=HUI.out _ hn6
      clear hb5 hn6
      go_wp2_with fail
      rw [HW6.out]
      go_wp2_with fail
      refine (HFT.out _ HN6.out.below).mono ?_
      rintro e w7 ⟨rfl,hb7⟩
      have HN7:=Lib.hid (HN6.out.call hb7)
      clear hb7 hu6 gc gf
      go_wp2_with fail
      go_roundw
      case rel=>exact ⟨i+1,by omega,by go_num,HN7,HA2⟩
      case measure=>simp [intOf];omega
     | false =>
      have yq1:Hid (xs.any (vF k st)=true):=Lib.hid (ywg.out (by rw [HBD.out];simp))
      clear hxe hue
      go_wp2_with fail
      refine (HRD.out).mono ?_
      rintro e w5 ⟨rfl,hb5⟩
      obtain ⟨⟨gc,gf⟩,hn6⟩:=HCL.out w5 hb5
      obtain ⟨W6,HW6⟩:∃ W6,Hid (w5.setCell ⟨V,i,none⟩ (.string U)=W6):=⟨_,rfl⟩
      rw [HW6.out] at hn6
      have HN6:=Lib.hid hn6
      have hu6:=HUI.out _ hn6
      clear hb5 hn6
      go_wp2_with fail
      rw [HW6.out]
      go_wp2_with fail
      refine (HFT.out _ HN6.out.below).mono ?_
      rintro e w7 ⟨rfl,hb7⟩
      have HN7:=Lib.hid (HN6.out.call hb7)
      have uW:Hid (yec k xs st n w (.returned (.tuple #[.slice none 0 0,.int .i64 41])) w7):=Lib.hid ⟨HN7.out.below,.inl ⟨yq1.out,rfl⟩⟩
      clear hb7 hu6 gc gf
      go_wp2_with fail
      go_ret2
      exact uW.out
  ·obtain rfl:i=n:=by omega
   have ilt:¬ (i:Int)<(i:Int):=by omega
   have HNONE:Hid (xs.any (vF k st)=false):=Lib.hid (by
    rw [List.any_eq_false]
    intro x hx2
    obtain ⟨j,hj,rfl⟩:=List.getElem_of_mem hx2
    have:=HA.out j (by rw [← hx.out];exact hj)
    rw [List.getD_eq_getElem?_getD,List.getElem?_eq_getElem hj] at this
    simpa using this)
   have uW:Hid (yec k xs st i w (.returned (.tuple #[.slice (some ⟨V,0,none⟩) i i,.int .i64 0])) wr):=Lib.hid ⟨HI.out.below,.inr ⟨HNONE.out,_,rfl,by rw [HYS.out];exact HI.out.vals.reads HYL.out⟩⟩
   go_wp2_with fail
   go_ret2
   exact uW.out
end Go.Proofs.YtgepehlpjpccaaaGreatDoor
