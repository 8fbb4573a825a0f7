/- Contracts. -/
import Derived.Test.YtgepehlpjpccaaaGreatDoorWFG
namespace Go.Proofs.YtgepehlpjpccaaaGreatDoor
theorem ygD:∀ (k:Nat) (l:List UInt8),l.length≤k→(spL l).length=l.length+(l.length+127)/128
 | 0,l,h=>by
  obtain rfl:=List.eq_nil_of_length_eq_zero (Nat.le_zero.1 h)
  rfl
 | k+1,l,h=>by
  by_cases h0:0<l.length
  ·have h1:=ygD k (l.drop (min l.length 128)) (by rw [List.length_drop];omega)
   rw [List.length_drop] at h1
   rw [yep h0,List.length_cons,List.length_append,List.length_take,h1];omega
  ·obtain rfl:=List.eq_nil_of_length_eq_zero (by omega:l.length=0)
   rfl
theorem ygE (l:List UInt8):∀ f fr a,fr≤a→a≤l.length→(dcF l f fr a).length≤(l.length-fr)+(l.length-fr+127)/128
 | f,fr,a,hfa,hal=>by
  have yai:(spL (l.drop fr)).length≤(l.length-fr)+(l.length-fr+127)/128:=by
   rw [ygD _ _ (Nat.le_refl _),List.length_drop];exact Nat.le_refl _
  cases f with
  | zero=>exact yai
  | succ f =>
   by_cases hlt:a<l.length
   ·rw [dcF,if_pos hlt]
    by_cases h4:(vB l a a).1<4
    ·rw [if_pos h4];exact ygE l f fr (a+1) (by omega) (by omega)
    ·rw [if_neg h4]
     have ydw:=ydm l a (by omega) a
     have ih:=ygE l f (a+(vB l a a).1) (a+(vB l a a).1) (Nat.le_refl _) ydw
     rw [List.length_append,List.length_append,ygD _ _ (Nat.le_refl _),List.length_take,List.length_drop,Nat.min_eq_left (by omega)]
     show _+(3+_)≤_
     omega
   ·rw [yjk hlt];exact yai
theorem yle (l:List UInt8):(yet l).length≤l.length+(l.length+127)/128:=ygE l l.length 0 0 (Nat.le_refl _) (Nat.zero_le _)
theorem yeV {l:List UInt8} {a d:Nat}:∀ D,d≤D→(∀ x,d<x→x≤D→rn l a x≤(vB l a d).1)→vB l a D=vB l a d
 | 0,hd,_=>by rw [Nat.le_zero.1 hd]
 | D+1,hd,h=>by
  by_cases e:d=D+1
  ·rw [e]
  ·have h1:=yeV D (by omega) (fun x h1 h2=>h x h1 (by omega))
   have h2:=h (D+1) (by omega) (Nat.le_refl _)
   rw [vB,h1,if_neg (by omega)]
theorem ygF {l:List UInt8} {a m:Nat}:∀ D,(∀ x,0<x→x≤D→rn l a x≤m)→(vB l a D).1≤m
 | 0,_=>Nat.zero_le _
 | D+1,h=>by
  rw [vB]
  split
  ·exact h _ (by omega) (Nat.le_refl _)
  ·exact ygF D (fun x h1 h2=>h x h1 (by omega))
def yeE (l:List UInt8) (a n d:Nat):Prop:=(d=0∧n=3)∨(vB l a d=(n,d)∧4≤n∧1≤d∧d≤a)
structure NextAt (l:List UInt8) (a n d n2 d2:Nat):Prop where
 far:d<d2
 le:d2≤a
 run:rn l a d2=n2
 more:n<n2
 near:∀ x,d<x→x<d2→rn l a x≤n
def yce (l:List UInt8) (a n d:Nat):Prop:=∀ x,d<x→x≤a→rn l a x≤n
theorem yeE.next {l:List UInt8} {a n d n2 d2:Nat} (h:yeE l a n d) (k:NextAt l a n d n2 d2):yeE l a n2 d2:=by
 obtain ⟨k1,k2,k3,k4,k5⟩:=k
 obtain ⟨e,rfl⟩:∃ e,d2=e+1:=⟨d2-1,by omega⟩
 rcases h with ⟨rfl,rfl⟩|⟨h1,h2,h3,h4⟩
 ·have hb:(vB l a e).1≤3:=ygF e (fun x h1 h2=>k5 x h1 (by omega))
  exact .inr ⟨by rw [vB,if_pos (by omega),k3],by omega,by omega,k2⟩
 ·have hb:vB l a e=(n,d):=by
   rw [yeV (d:=d) e (by omega) (fun x h5 h6=>by rw [h1];exact k5 x h5 (by omega)),h1]
  exact .inr ⟨by rw [vB,hb,if_pos (by show n<_;omega),k3],by omega,by omega,k2⟩
theorem yeE.done {l:List UInt8} {a n d:Nat} (h:yeE l a n d) (k:yce l a n d):(d=0∧(vB l a a).1<4)∨(1≤d∧4≤n∧vB l a a=(n,d)):=by
 rcases h with ⟨rfl,rfl⟩|⟨h1,h2,h3,h4⟩
 ·have:=ygF (l:=l) (a:=a) (m:=3) a (fun x h1 h2=>k x h1 h2)
  exact .inl ⟨rfl,by omega⟩
 ·refine .inr ⟨h3,h2,?_⟩
  rw [yeV (d:=d) a h4 (fun x h5 h6=>by rw [h1];exact k x h5 h6),h1]
theorem yl7 {l:List UInt8} {a n d:Nat} (ha:a≤l.length) (h:min 131 (l.length-a)≤n):yce l a n d:=fun x _ _=>by
 have h1:=ymX l a x
 have h2:=yo9 l a x ha
 omega
set_option maxHeartbeats 4000000
set_option maxRecDepth 100000
section
open Go.RowKit
open Go.Lib
theorem ysW (b0 off len c a d yC:Nat) (mo:Option Nat) (l:List UInt8) (w:World) (hl:len≤20000) (h1:1≤d) (h2:d≤a) (h3:a<len) (hm:Hid (yC=min 131 (len-a))) (h:Came w (some ⟨b0,off,none⟩) len c l) :
  Calls Tryz.prog 225 #[.agg #[.slice (some ⟨b0,off,none⟩) len c,.map mo],.int .i64 ((a-d:Nat):Int),.int .i64 (a:Int),.int .i64 (yC:Int)] w fun e w'=>Below w.heap.size w w'∧e=.returned (.int .i64 (rn l a d:Int)):=by
 have H:=Lib.hid h
 obtain ⟨fr,HFR⟩:∃ fr,Hid (fr=a-d):=⟨_,rfl⟩
 rw [← HFR.out]
 have il:(len:Int)≤20000:=by omega
 have ia:(a:Int)<(len:Int):=by omega
 have ifr:(fr:Int)≤20000:=by rw [HFR.out];omega
 have im:(yC:Int)≤131:=by rw [hm.out];omega
 have HBX:Hid (Below w.heap.size w (w.alloc (.cells #[.slice (some ⟨b0,off,none⟩) len c,.map mo] 152))):=Lib.hid ((Below.refl _ w).alloc (Nat.le_refl _) _)
 have uZ:(w.alloc (.cells #[.slice (some ⟨b0,off,none⟩) len c,.map mo] 152)).heap[w.heap.size]?=some (.cells #[.slice (some ⟨b0,off,none⟩) len c,.map mo] 152 (0,0)):=World.alloc_heap_new w _
 have ydA:=Lib.hid uZ
 have jE:Hid (∀ n,n≤yC→(∀ j,j<n→yaN l a d j)→(n=yC∨¬ yaN l a d n)→rn l a d=n):=Lib.hid (fun n hn hs he=>by
  refine (ygf l a d).one ⟨by have:=hm.out;omega,hs,?_⟩
  rcases he with rfl|he
  ·have hmo:=hm.out
   by_cases e:n=131
   ·exact .inl e
   ·exact .inr (fun hg=>by have:=hg.1;rw [H.out.hl] at this;omega)
  ·exact .inr he)
 clear h uZ
 go_enter Tryz.func225,Tryz.ntmps225
 go_wp2_with fail
 obtain ⟨W0,hW0⟩:∃ W0,w.alloc (.cells #[.slice (some ⟨b0,off,none⟩) len c,.map mo] 152)=W0:=⟨_,rfl⟩
 rw [hW0] at HBX ydA
 try rw [hW0]
 have hs1:w.heap.size<W0.heap.size:=by rw [← hW0];simp
 go_loopw [9] (fun nv wr=>∃ n:Nat,n≤yC∧nv=.int .i64 n∧Hid (∀ j,j<n→yaN l a d j)∧Hid (Below W0.heap.size W0 wr)) (fun nv _=>yC-(Go.RowKit.intOf nv).toNat)
 case atStart=>exact ⟨0,Nat.zero_le _,rfl,Lib.hid (fun j hj=>by omega),Lib.hid (Below.refl _ _)⟩
 case round =>
  obtain ⟨n,hn,rfl,HA,HB⟩:=hrel
  have hni:(n:Int)≤(yC:Int):=by omega
  have HBw:=Lib.hid (HBX.out.trans (HB.out.mono (Nat.le_of_lt hs1)))
  have cb:wr.cell? ⟨w.heap.size,0,none⟩=some (.slice (some ⟨b0,off,none⟩) len c):=by
   have h:=(HB.out.block w.heap.size hs1).trans ydA.out
   simp [World.cell?,h]
  by_cases hn1:n<yC
  ·have g9:decide (n<yC)=true:=decide_eq_true hn1
   have g9':(n:Int)<(yC:Int):=by omega
   obtain ⟨an,HAN⟩:∃ an,Hid (an=a+n):=⟨_,rfl⟩
   have han:(a:Int)+(n:Int)=(an:Int):=by rw [HAN.out];omega
   have hlt:an<len:=by have:=hm.out;rw [HAN.out];omega
   have hani:(an:Int)<(len:Int):=by omega
   obtain ⟨bk,HBK⟩:∃ bk,Hid (bk=an-d):=⟨_,rfl⟩
   have hbk:(fr:Int)+(n:Int)=(bk:Int):=by rw [HBK.out,HAN.out,HFR.out];omega
   have hbkl:(bk:Int)<(len:Int):=by rw [HBK.out];omega
   obtain ⟨b1,o1,x,e1,-,hc1,hx,hxi⟩:=(H.out.lies.below HBw.out).at (k:=an) (by rw [H.out.hl];exact hlt)
   cases e1
   obtain ⟨b1,o1,y,e1,-,hc2,hy,hyi⟩:=(H.out.lies.below HBw.out).at (k:=bk) (by rw [H.out.hl,HBK.out];omega)
   cases e1
   have hx':=hx.out
   have hy':=hy.out
   rw [HAN.out] at hx'
   rw [HBK.out,HAN.out] at hy'
   have HX:=Lib.hid hx'
   have HY:=Lib.hid hy'
   clear hx' hy'
   by_cases hxy:y=x
   ·have hag:Hid (yaN l a d n):=Lib.hid ⟨by rw [H.out.hl,← HAN.out];exact hlt,UInt8.toNat_inj.1 (by rw [HX.out,HY.out,hxy])⟩
    subst hxy
    have HA2:Hid (∀ j,j<n+1→yaN l a d j):=Lib.hid (fun j hj=>by
     by_cases e:j=n
     ·rw [e];exact hag.out
     ·exact HA.out j (by omega))
    go_wp2_with fail
    go_quiet (fail)
    go_wp2_with fail
    go_roundw
    case rel=>exact ⟨n+1,by omega,by go_num,HA2,Lib.hid (ygy HB.out _)⟩
    case measure=>simp [Go.RowKit.intOf];omega
   ·have hag:Hid (¬ yaN l a d n):=Lib.hid (fun h=>hxy (by rw [← HX.out,← HY.out,h.2]))
    have hxi2:((y:Int)==(x:Int))=false:=by rw [beq_eq_false_iff_ne];omega
    have hxi3:¬ (y:Int)=(x:Int):=by omega
    have er:=jE.out n hn HA.out (.inr hag.out)
    have yD:Hid (∀ nq,Below w.heap.size w (wr.drewN nq)∧Ending.returned (.int .i64 (n:Int))=.returned (.int .i64 (rn l a d:Int))):=Lib.hid (fun nq=>⟨ygy HBw.out _,by rw [er]⟩)
    clear er
    go_wp2_with fail
    go_quiet (fail)
    go_wp2_with fail
    go_ret
    exact yD.out _
  ·obtain rfl:n=yC:=by omega
   have g9:decide (n<n)=false:=decide_eq_false (by omega)
   have er:=jE.out n hn HA.out (.inl rfl)
   have yD:Hid (∀ nq,Below w.heap.size w (wr.drewN nq)∧Ending.returned (.int .i64 (n:Int))=.returned (.int .i64 (rn l a d:Int))):=Lib.hid (fun nq=>⟨ygy HBw.out _,by rw [er]⟩)
   clear er
   go_wp2_with fail
   go_quiet (fail)
   go_wp2_with fail
   go_ret
   exact yD.out _
def yqp (l:List UInt8) (a:Nat):Value:=.agg #[.int .u8 ((l.getD a 0).toNat:Int),.int .u8 ((l.getD (a+1) 0).toNat:Int),.int .u8 ((l.getD (a+2) 0).toNat:Int),.int .u8 ((l.getD (a+3) 0).toNat:Int)]
theorem ypb (b0 off len c a:Nat) (mo:Option Nat) (l:List UInt8) (w:World) (hl:len≤20000) (h3:a+4≤len) (h:Came w (some ⟨b0,off,none⟩) len c l) :
  Calls Tryz.prog 191 #[.agg #[.slice (some ⟨b0,off,none⟩) len c,.map mo],.int .i64 (a:Int)] w fun e w'=>Below w.heap.size w w'∧e=.returned (yqp l a):=by
 have H:=Lib.hid h
 have hc:=h.hc
 have il:(len:Int)≤20000:=by omega
 have ia:(a:Int)+4≤(len:Int):=by omega
 have ic:(len:Int)≤(c:Int):=by omega
 have ha1:(a:Int)≤(len:Int):=by omega
 have ha2:(a:Int)≤(c:Int):=by omega
 obtain ⟨W3,HW3⟩:∃ W3,Hid (W3=((w.alloc (.cells #[.slice (some ⟨b0,off,none⟩) len c,.map mo] 152)).alloc (.cells #[.int .u8 0,.int .u8 0,.int .u8 0,.int .u8 0] 79)).alloc (.cells #[.int .u8 0,.int .u8 0,.int .u8 0,.int .u8 0] 79)):=⟨_,rfl⟩
 have HB3:Hid (Below w.heap.size w W3):=Lib.hid (by
  rw [HW3.out]
  exact (((Below.refl _ w).alloc (Nat.le_refl _) _).alloc (by simp only [World.alloc,Array.size_push];omega) _).alloc (by simp only [World.alloc,Array.size_push];omega) _)
 have HK:Hid (W3.heap[w.heap.size+1+1]?=some (.cells ([.int .u8 0,.int .u8 0,.int .u8 0,.int .u8 0]:List Value).toArray 79 (0,0))∧W3.heap[w.heap.size+1]?=some (.cells #[.int .u8 0,.int .u8 0,.int .u8 0,.int .u8 0] 79 (0,0))∧W3.heap[w.heap.size]?=some (.cells #[.slice (some ⟨b0,off,none⟩) len c,.map mo] 152 (0,0))):=Lib.hid (by
  rw [HW3.out]
  refine ⟨?_,?_,?_⟩<;>simp only [World.alloc,Array.getElem?_push,Array.size_push]
  ·rw [if_pos trivial]
  ·rw [if_neg (by omega),if_pos trivial]
  ·rw [if_neg (by omega),if_neg (by omega),if_pos trivial])
 have hca:¬ c=a:=by omega
 have hb0:Hid (∀ k,k<len→∃ x:Nat,w.cell? ⟨b0,off+k,none⟩=some (.int .u8 (x:Int))∧(l.getD k 0).toNat=x∧b0<w.heap.size):=Lib.hid (fun k hk=>by
  obtain ⟨b1,o1,x,e1,h0,h1,h2,h3⟩:=H.out.lies.at (k:=k) (by rw [H.out.hl];exact hk)
  cases e1
  exact ⟨x,h1,h2.out,h0⟩)
 clear h
 go_enter Tryz.func191,Tryz.ntmps191
 go_wp2_with fail
 try rw [← HW3.out]
 have uZ:W3.cell? ⟨w.heap.size,0,none⟩=some (.slice (some ⟨b0,off,none⟩) len c):=by simp [World.cell?,HK.out.2.2]
 have HKd:Hid (W3.drew.heap[w.heap.size+1+1]?=some (.cells ([.int .u8 0,.int .u8 0,.int .u8 0,.int .u8 0]:List Value).toArray 79 (0,0))):=Lib.hid HK.out.1
 have HBd:Hid (Below w.heap.size W3 W3.drew):=Lib.hid ⟨rfl,rfl,rfl,Nat.le_refl _,fun _ _=>rfl⟩
 obtain ⟨x0,x1,x2,x3,HX⟩:∃ x0 x1 x2 x3:Nat,Hid (x0=(l.getD a 0).toNat∧x1=(l.getD (a+1) 0).toNat∧x2=(l.getD (a+2) 0).toNat∧x3=(l.getD (a+3) 0).toNat):=⟨_,_,_,_,Lib.hid ⟨rfl,rfl,rfl,rfl⟩⟩
 have HS:Hid (∀ j v,([.int .u8 (x0:Int),.int .u8 (x1:Int),.int .u8 (x2:Int),.int .u8 (x3:Int)]:List Value)[j]?=some v→W3.drew.cell? ((⟨b0,off+a,none⟩:Addr).add j)=some v):=Lib.hid (fun j v hj=>by
  have hw:∀ k x,k<len→(l.getD k 0).toNat=x→W3.drew.cell? ⟨b0,off+k,none⟩=some (.int .u8 (x:Int)):=fun k x hk hx=>by
   obtain ⟨y,h1,h2,h4⟩:=hb0.out k hk
   rw [show x=y by rw [← hx,h2]]
   exact ((HB3.out.trans HBd.out).cell (p:=⟨b0,off+k,none⟩) h4).trans h1
  obtain ⟨e0,e1,e2,e3⟩:=HX.out
  match j,hj with
  | 0,hj=>cases hj;exact hw a x0 (by omega) e0.symm
  | 1,hj=>cases hj;exact hw (a+1) x1 (by omega) e1.symm
  | 2,hj=>cases hj;exact hw (a+2) x2 (by omega) e2.symm
  | 3,hj=>cases hj;exact hw (a+3) x3 (by omega) e3.symm
  | j+4,hj=>simp at hj)
 have HL4:Hid ((4:Nat)=Nat.min (len-a) 4):=Lib.hid (Nat.min_eq_right (by omega)).symm
 have hv:yqp l a=.agg #[.int .u8 (x0:Int),.int .u8 (x1:Int),.int .u8 (x2:Int),.int .u8 (x3:Int)]:=by
  obtain ⟨rfl,rfl,rfl,rfl⟩:=HX.out
  rfl
 have HV:=Lib.hid hv
 clear hv
 go_region_law (refine step_copy_splice rfl (.tmp 6) (.tmp 10) 39 39 rfl 5 rfl rfl _ _ _ _ _ _ rfl rfl (w.heap.size+1+1) 0 _ 79 HKd.out [.int .u8 (x0:Int),.int .u8 (x1:Int),.int .u8 (x2:Int),.int .u8 (x3:Int)] HL4.out (fun _=>⟨rfl,_,rfl,HS.out⟩) (Nat.le_refl _) (by simp [Value.oneCell']) (w.heap.size+1+1) W3.drew (Below.refl _ _) (Nat.le_refl _) ?_;intro w4 hg4 hb4)
 have HK4:Hid (w4.heap[w.heap.size+1+1]?=some (.cells #[.int .u8 (x0:Int),.int .u8 (x1:Int),.int .u8 (x2:Int),.int .u8 (x3:Int)] 79 (0,0))):=Lib.hid hg4.out
 have yhm:Hid (w4.heap[w.heap.size+1]?=some (.cells #[.int .u8 0,.int .u8 0,.int .u8 0,.int .u8 0] 79 (0,0))):=Lib.hid ((hb4.block (w.heap.size+1) (by omega)).trans HK.out.2.1)
 have HB4:Hid (Below w.heap.size w w4):=Lib.hid ((HB3.out.trans HBd.out).trans (hb4.mono (by omega)))
 clear hg4 hb4 uZ
 have f0:w4.cell? ⟨w.heap.size+1+1,0,none⟩=some (.int .u8 (x0:Int)):=by simp only [World.cell?,HK4.out];rfl
 have f1:w4.cell? ⟨w.heap.size+1+1,1,none⟩=some (.int .u8 (x1:Int)):=by simp only [World.cell?,HK4.out];rfl
 have f2:w4.cell? ⟨w.heap.size+1+1,2,none⟩=some (.int .u8 (x2:Int)):=by simp only [World.cell?,HK4.out];rfl
 have f3:w4.cell? ⟨w.heap.size+1+1,3,none⟩=some (.int .u8 (x3:Int)):=by simp only [World.cell?,HK4.out];rfl
 obtain ⟨g1,hg1⟩:∃ g1,w.heap.size+1=g1:=⟨_,rfl⟩
 have e0:w4.cell? ⟨w.heap.size+1,0,none⟩=some (.int .u8 0):=by simp only [World.cell?,yhm.out];rfl
 have e1:w4.cell? ⟨w.heap.size+1,1,none⟩=some (.int .u8 0):=by simp only [World.cell?,yhm.out];rfl
 have e2:w4.cell? ⟨w.heap.size+1,2,none⟩=some (.int .u8 0):=by simp only [World.cell?,yhm.out];rfl
 have e3:w4.cell? ⟨w.heap.size+1,3,none⟩=some (.int .u8 0):=by simp only [World.cell?,yhm.out];rfl
 have z0:w4.frozen? ⟨w.heap.size+1,0,none⟩=false:=by simp only [World.frozen?,yhm.out];rfl
 have z1:w4.frozen? ⟨w.heap.size+1,1,none⟩=false:=by simp only [World.frozen?,yhm.out];rfl
 have z2:w4.frozen? ⟨w.heap.size+1,2,none⟩=false:=by simp only [World.frozen?,yhm.out];rfl
 have z3:w4.frozen? ⟨w.heap.size+1,3,none⟩=false:=by simp only [World.frozen?,yhm.out];rfl
 rw [hg1] at f0 f1 f2 f3 e0 e1 e2 e3 z0 z1 z2 z3
 have hg1':w.heap.size≤g1:=by omega
 have HG:Hid (w4.heap[g1]?=some (.cells #[.int .u8 0,.int .u8 0,.int .u8 0,.int .u8 0] 79 (0,0))):=by rw [← hg1];exact yhm
 simp only [hg1]
 clear hg1
 go_wp2_with fail
 have HB8:=Lib.hid ((((HB4.out.setCell (p:=⟨g1,0,none⟩) hg1' (.int .u8 (x0:Int))).setCell (p:=⟨g1,1,none⟩) hg1' (.int .u8 (x1:Int))).setCell (p:=⟨g1,2,none⟩) hg1' (.int .u8 (x2:Int))).setCell (p:=⟨g1,3,none⟩) hg1' (.int .u8 (x3:Int)))
 have jG:∀ (W:World) (y0 y1 y2 y3:Value),W.heap[g1]?=some (.cells #[y0,y1,y2,y3] 79 (0,0))→((((W.setCell ⟨g1,0,none⟩ (.int .u8 (x0:Int))).setCell ⟨g1,1,none⟩ (.int .u8 (x1:Int))).setCell ⟨g1,2,none⟩ (.int .u8 (x2:Int))).setCell ⟨g1,3,none⟩ (.int .u8 (x3:Int))).heap[g1]?=some (.cells #[.int .u8 (x0:Int),.int .u8 (x1:Int),.int .u8 (x2:Int),.int .u8 (x3:Int)] 79 (0,0)):=fun W y0 y1 y2 y3 h0=>by
  have h1:=setRow_heap W g1 _ (#[y0,y1,y2,y3].setIfInBounds 0 (.int .u8 (x0:Int))) 79 (0,0) h0
  rw [← setCell_eq_setRow W g1 0 _ 79 (0,0) _ h0] at h1
  have h2:=setRow_heap _ g1 _ ((#[y0,y1,y2,y3].setIfInBounds 0 (.int .u8 (x0:Int))).setIfInBounds 1 (.int .u8 (x1:Int))) 79 (0,0) h1
  rw [← setCell_eq_setRow _ g1 1 _ 79 (0,0) _ h1] at h2
  have h3:=setRow_heap _ g1 _ (((#[y0,y1,y2,y3].setIfInBounds 0 (.int .u8 (x0:Int))).setIfInBounds 1 (.int .u8 (x1:Int))).setIfInBounds 2 (.int .u8 (x2:Int))) 79 (0,0) h2
  rw [← setCell_eq_setRow _ g1 2 _ 79 (0,0) _ h2] at h3
  have h4:=setRow_heap _ g1 _ ((((#[y0,y1,y2,y3].setIfInBounds 0 (.int .u8 (x0:Int))).setIfInBounds 1 (.int .u8 (x1:Int))).setIfInBounds 2 (.int .u8 (x2:Int))).setIfInBounds 3 (.int .u8 (x3:Int))) 79 (0,0) h3
  rw [← setCell_eq_setRow _ g1 3 _ 79 (0,0) _ h3] at h4
  exact h4
 try simp only [Exit.inBlock,Exit.then]
 refine bodyPost_ret (results_cell_row rfl _ _ g1 79 #[.int .u8 (x0:Int),.int .u8 (x1:Int),.int .u8 (x2:Int),.int .u8 (x3:Int)] (0,0) _ rfl (jG _ _ _ _ _ HG.out) rfl rfl rfl) rfl ?_
 exact ⟨HB8.out,by rw [HV.out]⟩
end
set_option maxHeartbeats 1000000
section
open Go.RowKit
open Go.Lib
theorem yp6 (x:Int) (w:World):Calls Tryz.prog 216 #[.int .i64 x] w fun e w'=>w'=w∧e=.returned (.bool false):=by
 go_enter Tryz.func216,Tryz.ntmps216
 go_wp2_with fail
 go_ret
 exact ⟨rfl,by simp⟩
theorem yp7 (x:Int) (w:World):Calls Tryz.prog 249 #[.int .i64 x] w fun e w'=>w'=w∧e=.returned (.bool false):=by
 go_enter Tryz.func249,Tryz.ntmps249
 go_wp2_with fail
 go_ret
 exact ⟨rfl,by simp⟩
theorem ysX (x y:Int) (w:World):Calls Tryz.prog 248 #[.int .i64 x,.int .i64 y] w fun e w'=>w'=w∧e=.returned (.bool (decide (x<y))):=by
 go_enter Tryz.func248,Tryz.ntmps248
 go_wp2_with fail
 refine (yp6 x _).mono ?_
 rintro e w' ⟨rfl,rfl⟩
 go_wp2_with fail
 go_ret
 exact ⟨rfl,by simp⟩
end
set_option maxHeartbeats 4000000
section
open Go.RowKit
open Go.Lib
def yke (w:World) (p:Option Addr) (n:Nat) (ps:Nat→Nat):Prop:=∀ j,j<n→∃ g,p=some ⟨g,0,none⟩∧g<w.heap.size∧w.cell? ⟨g,j,none⟩=some (.int .i64 ((ps j:Nat):Int))
theorem yke.below {w w':World} {p:Option Addr} {n:Nat} {ps:Nat→Nat} (h:yke w p n ps) (hb:Below w.heap.size w w'):yke w' p n ps:=fun j hj=>by
 obtain ⟨g,h1,h2,h3⟩:=h j hj
 exact ⟨g,h1,Nat.lt_of_lt_of_le h2 hb.size,(hb.cell (p:=⟨g,j,none⟩) h2).trans h3⟩
def yd7 (n:Nat) (ps:Nat→Nat) (t:Nat) (w:World) (e:Ending) (w':World):Prop:=Below w.heap.size w w'∧∃ (i:Nat) (b:Bool),i≤n∧(∀ j,j<i→ps j<t)∧(∀ j,i≤j→j<n→t≤ps j)∧e=.returned (.tuple #[.int .i64 (i:Int),.bool b])
theorem yoh (p:Option Addr) (n c t:Nat) (ps:Nat→Nat) (w:World) (hn:n≤20000) (ht:t≤20000) (hps:Hid (∀ j,j<n→ps j≤20000)) (hup:Hid (∀ i j,i≤j→j<n→ps i≤ps j)) (hr:Hid (yke w p n ps)) :
  Calls Tryz.prog 223 #[.slice p n c,.int .i64 (t:Int)] w (yd7 n ps t w):=by
 have hni:(n:Int)≤20000:=by omega
 have hti:(t:Int)≤20000:=by omega
 go_enter Tryz.func223,Tryz.ntmps223
 go_wp2_with fail
 go_loopw [7,8] (fun iv jv wr=>∃ i j:Nat,iv=.int .i64 i∧jv=.int .i64 j∧i≤j∧j≤n∧Hid ((∀ k,k<i→ps k<t)∧(∀ k,j≤k→k<n→t≤ps k))∧Hid (Below w.heap.size w wr)) (fun iv jv _=>(Go.RowKit.intOf jv).toNat-(Go.RowKit.intOf iv).toNat)
 case atStart=>exact ⟨0,n,rfl,rfl,Nat.zero_le _,Nat.le_refl _,Lib.hid ⟨fun k hk=>by omega,fun k h1 h2=>by omega⟩,Lib.hid (Below.refl _ _)⟩
 case round =>
  obtain ⟨i,j,rfl,rfl,hij,hjn,HI,HB⟩:=hrel
  have iij:(i:Int)≤(j:Int):=by omega
  have ijn:(j:Int)≤(n:Int):=by omega
  by_cases hlt:i<j
  ·have ilt:(i:Int)<(j:Int):=by omega
   obtain ⟨h,hh⟩:∃ h:Nat,((i:Int)+(j:Int))/2=(h:Int):=⟨(i+j)/2,by omega⟩
   have h1:i≤h:=by omega
   have h2:h<j:=by omega
   have hhn:(h:Int)<(n:Int):=by omega
   obtain ⟨g,rfl,-,vH⟩:=hr.out.below HB.out h (by omega)
   obtain ⟨x,HX⟩:∃ x,Hid (x=ps h):=⟨_,rfl⟩
   rw [← HX.out] at vH
   have hxi:(x:Int)≤20000:=by have:=hps.out h (by omega);rw [HX.out];omega
   have hhi:(h:Int)≤20000:=by omega
   go_wp2_with fail
   refine (ysX (x:Int) (t:Int) _).mono ?_
   rintro e w2 ⟨rfl,rfl⟩
   by_cases hxt:x<t
   ·have hxt':(x:Int)<(t:Int):=by omega
    have HI2:Hid ((∀ k,k<h+1→ps k<t)∧(∀ k,j≤k→k<n→t≤ps k)):=Lib.hid ⟨fun k hk=>by
     have:=hup.out k h (by omega) (by omega)
     have:=HX.out
     omega,HI.out.2⟩
    go_wp2_with fail
    go_roundw
    case rel=>exact ⟨h+1,j,by go_num,rfl,by omega,by omega,HI2,HB⟩
    case measure=>simp [Go.RowKit.intOf];omega
   ·have hxt':¬ (x:Int)<(t:Int):=by omega
    have HI2:Hid ((∀ k,k<i→ps k<t)∧(∀ k,h≤k→k<n→t≤ps k)):=Lib.hid ⟨HI.out.1,fun k h1 h2=>by
     have:=hup.out h k h1 h2
     have:=HX.out
     omega⟩
    go_wp2_with fail
    go_roundw
    case rel=>exact ⟨i,h,rfl,rfl,by omega,by omega,HI2,HB⟩
    case measure=>simp [Go.RowKit.intOf];omega
  ·have ilt:¬ (i:Int)<(j:Int):=by omega
   obtain rfl:i=j:=by omega
   have yD:∀ b,Hid (yd7 n ps t w (.returned (.tuple #[.int .i64 (i:Int),.bool b])) wr):=fun b=>Lib.hid ⟨HB.out,i,b,hjn,HI.out.1,HI.out.2,rfl⟩
   by_cases hin:i<n
   ·have hin':(i:Int)<(n:Int):=by omega
    obtain ⟨g,rfl,-,vH⟩:=hr.out.below HB.out i (by omega)
    obtain ⟨x,HX⟩:∃ x,Hid (x=ps i):=⟨_,rfl⟩
    rw [← HX.out] at vH
    have hxi:(x:Int)≤20000:=by have:=hps.out i (by omega);rw [HX.out];omega
    by_cases hxt:(x:Int)=(t:Int)
    ·have hb1:((x:Int)==(t:Int))=true:=by rw [beq_iff_eq];exact hxt
     go_wp2_with fail
     go_ret2
     exact (yD _).out
    ·have hb1:((x:Int)==(t:Int))=false:=by rw [beq_eq_false_iff_ne];exact hxt
     go_wp2_with fail
     refine (yp7 (x:Int) _).mono ?_
     rintro e w2 ⟨rfl,rfl⟩
     go_wp2_with fail
     go_ret2
     exact (yD _).out
   ·have hin':¬ (i:Int)<(n:Int):=by omega
    go_wp2_with fail
    go_ret2
    exact (yD _).out
end
set_option maxHeartbeats 2000000
section
open Go.RowKit Go.Shelf
open Go.Lib
attribute [local go_sem] Oper.semAt_some
theorem yu1 (m:Nat) (p:Option Addr) (len c:Nat) (w:World) :
  CallsIn Fence.wide m Tryz.prog 224 #[.slice p len c] w fun e w'=>e=.returned (.func (.func 250) #[] #[.pointer (some ⟨w.heap.size,0,none⟩)])∧w'=w.alloc (.cells #[.slice p len c] 194):=by
 refine callsIn_of_wp Tryz.func224 rfl trivial ?_ rfl
 simp only [Tryz.ntmps224,List.size_toArray,List.length_cons,List.length_nil,Nat.reduceAdd,Nat.reduceSub,Array.replicate_succ,Array.replicate_zero,List.push_toArray,List.append_toArray,List.nil_append,List.cons_append]
 gi_wp2
 go_ret
 exact ⟨rfl,rfl⟩
abbrev bkE (ps:Nat→Nat) (n:Nat) (x:Pl n):Array Value:=#[.int .i64 ((n-1-x.1:Nat):Int),.int .i64 ((ps (n-1-x.1):Nat):Int)]
def ym1 (N:Nat) (w:World) (p:Option Addr) (n:Nat) (ps:Nat→Nat):Prop:=∀ j,j<n→∃ g,p=some ⟨g,0,none⟩∧g<N∧w.cell? ⟨g,j,none⟩=some (.int .i64 ((ps j:Nat):Int))
theorem ym1.keep {N:Nat} {w w':World} {p:Option Addr} {n:Nat} {ps:Nat→Nat} (h:ym1 N w p n ps) (hb:Below N w w'):ym1 N w' p n ps:=fun j hj=>by
 obtain ⟨g,h1,h2,h3⟩:=h j hj
 exact ⟨g,h1,h2,(hb.cell (p:=⟨g,j,none⟩) h2).trans h3⟩
theorem yu2 (m:Nat) (hm:1≤m) (lr Bb N0 n c:Nat) (p:Option Addr) (ps:Nat→Nat) (hn:n≤20000) (hps:Hid (∀ j,j<n→ps j≤20000)) (J Jx:List (Pl n)→World→Prop)
  (hY:∀ pre x W,J pre W→pre.length<n→YieldAt Fence.wide (m-1) Tryz.prog lr (bkE ps n x) W fun e W' =>
   (e=.returned (.bool true)∧J (pre++[x]) W'∧jO N0 Bb Bb W W')∨(e=.returned (.bool false)∧Jx (pre++[x]) W'))
  (W:World) (hBb:W.cell? ⟨Bb,0,none⟩=some (.slice p n c)) (hr:ym1 N0 W p n ps) (h0:J [] W) :
  CallsIn Fence.wide m Tryz.prog 250 #[.func (.yield lr) #[] #[],.pointer (some ⟨Bb,0,none⟩)] W fun e W'=>(∃ v,e=.returned v) ∧
   ((∃ ys,ys.map (·.1)=List.range n∧J ys W')∨(∃ pre,pre.map (·.1)=List.range pre.length∧Jx pre W')):=by
 have hni:(n:Int)≤20000:=by omega
 have HR:=Lib.hid hr
 clear hr
 refine callsIn_of_wp Tryz.func250 rfl trivial ?_ rfl
 simp only [Tryz.ntmps250,List.size_toArray,List.length_cons,List.length_nil,Nat.reduceAdd,Nat.reduceSub,Array.replicate_succ,Array.replicate_zero,List.push_toArray,List.append_toArray,List.nil_append,List.cons_append]
 gi_wp2
 have HJ0:=Lib.hid h0
 gi_loopw [3] (fun tv wr=>∃ (t:Int) (i:Nat) (pre:List (Pl n)),i≤n∧tv=.int .i64 t∧t=(n:Int)-1-(i:Int)∧Hid (pre.map (·.1)=List.range i)∧Hid (J pre wr)∧Hid (jO N0 Bb Bb W wr)) (fun tv _=>(intOf tv+1).toNat)
 case atStart=>exact ⟨_,0,[],Nat.zero_le _,rfl,by simp,rfl,HJ0,Lib.hid (jO.refl _ _ _ _)⟩
 case round =>
  obtain ⟨t,i,pre,hin,rfl,ht,HP,HJ,HB⟩:=hrel
  have hcb:=HB.out.c1.trans hBb
  by_cases ycA:i<n
  ·obtain ⟨k,HK⟩:∃ k,Hid (k=n-1-i):=⟨_,rfl⟩
   obtain rfl:t=(k:Int):=by rw [ht,HK.out];omega
   clear ht
   have hkn:(k:Int)<(n:Int):=by rw [HK.out];omega
   have hk0:0≤(k:Int):=by omega
   obtain ⟨g,rfl,-,vH⟩:=HR.out.keep HB.out.1 k (by omega)
   obtain ⟨x,HX⟩:∃ x,Hid (x=ps k):=⟨_,rfl⟩
   rw [← HX.out] at vH
   have hxi:(x:Int)≤20000:=by have:=hps.out k (by omega);rw [HX.out];omega
   have hpl:pre.length=i:=by
    have h:=congrArg List.length HP.out
    rw [List.length_map,List.length_range] at h;omega
   obtain ⟨fn,tmps,assign,body,hy,hRo⟩:=hY pre ⟨i,ycA⟩ wr HJ.out (by omega)
   have hy2:(Instr.yield lr #[.int .i64 (k:Int),.int .i64 (x:Int)]).run Tryz.prog wr=.ok (.round lr fn tmps assign body) wr:=by
    rw [HX.out,HK.out];exact hy
   have HPX:Hid ((pre++[(⟨i,ycA⟩:Pl n)]).map (fun y=>y.1)=List.range (pre++[(⟨i,ycA⟩:Pl n)]).length):=Lib.hid (by rw [List.length_append,hpl,List.map_append,HP.out];exact List.range_succ.symm)
   clear hy hpl
   gi_wp2
   refine hRo.mono ?_
   rintro e W3 (⟨rfl,hJ3,hk3⟩|⟨rfl,yhk⟩)
   ·have HB3:=Lib.hid (HB.out.trans hk3)
    have HJ3:=Lib.hid hJ3
    clear hJ3 hk3 hy2
    gi_wp2
    go_roundw
    case rel=>exact ⟨(k:Int)-1,i+1,pre++[⟨i,ycA⟩],by omega,by go_num,by have:=HK.out;omega,Lib.hid (by rw [List.map_append,HP.out,List.range_succ];rfl),HJ3,HB3⟩
    case measure=>simp [intOf]
   ·gi_wp2
    refine bodyPost_ret (results_none rfl _ _ _) rfl ?_
    exact ⟨⟨_,rfl⟩,.inr ⟨_,HPX.out,yhk⟩⟩
  ·obtain rfl:i=n:=by omega
   obtain rfl:t=-1:=by omega
   gi_wp2
   go_end0
   exact ⟨⟨_,rfl⟩,.inl ⟨pre,HP.out,HJ.out⟩⟩
theorem yoi (m:Nat) (hm:1≤m) (Bb N0 n c:Nat) (p:Option Addr) (ps:Nat→Nat) (hn:n≤20000) (hps:Hid (∀ j,j<n→ps j≤20000)) (w:World) (hN:N0≤w.heap.size) (hB:Bb<w.heap.size)
  (hBb:w.cell? ⟨Bb,0,none⟩=some (.slice p n c)) (hr:ym1 N0 w p n ps) :
  SeqStopsK Fence.wide m Tryz.prog 250 #[.pointer (some ⟨Bb,0,none⟩)] (bkE ps n) (jO N0 Bb Bb) (fun ys=>ys.map (·.1)=List.range n) (fun pre=>pre.map (·.1)=List.range pre.length) n w:=fun lr J Jx W hW _ _ hY h0 =>
 yu2 m hm lr Bb N0 n c p ps hn hps J Jx hY W ((hW.cell (p:=⟨Bb,0,none⟩) hB).trans hBb) (hr.keep (hW.mono hN)) h0
end
end Go.Proofs.YtgepehlpjpccaaaGreatDoor
