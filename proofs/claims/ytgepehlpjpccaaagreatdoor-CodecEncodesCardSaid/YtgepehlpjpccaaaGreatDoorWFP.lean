/- Contracts. -/
import Derived.Test.YtgepehlpjpccaaaGreatDoorWFG
import Derived.Maps.GroupsBeside
import Derived.WideKeyEntry
import Derived.WideKeyArr2
set_option maxHeartbeats 4000000
set_option maxRecDepth 100000
namespace Go.Proofs.YtgepehlpjpccaaaGreatDoor
theorem yhd:∀ (k:Nat) (l:Lb),l.length≤k→(spL l).length=l.length+(l.length+127)/128
 | 0,l,h=>by
  obtain rfl:=List.eq_nil_of_length_eq_zero (Nat.le_zero.1 h)
  rfl
 | k+1,l,h=>by
  by_cases h0:0<l.length
  ·have h1:=yhd k (l.drop (min l.length 128)) (by rw [List.length_drop];omega)
   rw [List.length_drop] at h1
   rw [ydp h0,List.length_cons,List.length_append,List.length_take,h1];omega
  ·obtain rfl:=List.eq_nil_of_length_eq_zero (by omega:l.length=0)
   rfl
theorem yhe (l:Lb):∀ f fr a,fr≤a→a≤l.length→(dcF l f fr a).length≤(l.length-fr)+(l.length-fr+127)/128
 | f,fr,a,hfa,hal=>by
  have yaI:(spL (l.drop fr)).length≤(l.length-fr)+(l.length-fr+127)/128:=by
   rw [yhd _ _ nl,List.length_drop];exact Nat.le_refl _
  cases f with
  | zero=>exact yaI
  | succ f =>
   by_cases hlt:a<l.length
   ·rw [dcF,if_pos hlt]
    by_cases h4:(jH l a a).1<4
    ·rw [if_pos h4];exact yhe l f fr (a+1) (by omega) (by omega)
    ·rw [if_neg h4]
     have ycd:=ycC l a (by omega) a
     have ih:=yhe l f (a+(jH l a a).1) (a+(jH l a a).1) nl ycd
     rw [List.length_append,List.length_append,yhd _ _ nl,List.length_take,List.length_drop,Nat.min_eq_left (by omega)]
     show _+(3+_)≤_
     omega
   ·rw [ygu hlt];exact yaI
theorem ylR (l:Lb):(ybP l).length≤l.length+(l.length+127)/128:=yhe l l.length 0 0 nl (Nat.zero_le _)
theorem yfz {l:Lb} {a d:Nat}:∀ D,d≤D→(∀ x,d<x→x≤D→rn l a x≤(jH l a d).1)→jH l a D=jH l a d
 | 0,hd,_=>by rw [Nat.le_zero.1 hd]
 | D+1,hd,h=>by
  by_cases e:d=D+1
  ·rw [e]
  ·have h1:=yfz D (by omega) (fun x h1 h2=>h x h1 (by omega))
   have h2:=h (D+1) (by omega) nl
   rw [jH,h1,if_neg (by omega)]
theorem yhf {l:Lb} {a m:Nat}:∀ D,(∀ x,0<x→x≤D→rn l a x≤m)→(jH l a D).1≤m
 | 0,_=>Nat.zero_le _
 | D+1,h=>by
  rw [jH]
  split
  ·exact h _ (by omega) nl
  ·exact yhf D (fun x h1 h2=>h x h1 (by omega))
def ye7 (l:Lb) (a n d:Nat):Prop:=(d=0∧n=3)∨(jH l a d=(n,d)∧4≤n∧1≤d∧d≤a)
structure NextAt (l:Lb) (a n d n2 d2:Nat):Prop where
 far:d<d2
 le:d2≤a
 run:rn l a d2=n2
 more:n<n2
 near:∀ x,d<x→x<d2→rn l a x≤n
def ycF (l:Lb) (a n d:Nat):Prop:=∀ x,d<x→x≤a→rn l a x≤n
theorem ye7.next {l:Lb} {a n d n2 d2:Nat} (h:ye7 l a n d) (k:NextAt l a n d n2 d2):ye7 l a n2 d2:=by
 obtain ⟨k1,k2,k3,k4,k5⟩:=k
 obtain ⟨e,rfl⟩:∃ e,d2=e+1:=⟨d2-1,by omega⟩
 rcases h with ⟨rfl,rfl⟩|⟨h1,h2,h3,h4⟩
 ·have hb:(jH l a e).1≤3:=yhf e (fun x h1 h2=>k5 x h1 (by omega))
  exact .inr ⟨by rw [jH,if_pos (by omega),k3],by omega,by omega,k2⟩
 ·have hb:jH l a e=(n,d):=by
   rw [yfz (d:=d) e (by omega) (fun x h5 h6=>by rw [h1];exact k5 x h5 (by omega)),h1]
  exact .inr ⟨by rw [jH,hb,if_pos (by show n<_;omega),k3],by omega,by omega,k2⟩
theorem ye7.done {l:Lb} {a n d:Nat} (h:ye7 l a n d) (k:ycF l a n d):(d=0∧(jH l a a).1<4)∨(1≤d∧4≤n∧jH l a a=(n,d)):=by
 rcases h with ⟨rfl,rfl⟩|⟨h1,h2,h3,h4⟩
 ·have:=yhf (l:=l) (a:=a) (m:=3) a (fun x h1 h2=>k x h1 h2)
  exact .inl ⟨rfl,by omega⟩
 ·refine .inr ⟨h3,h2,?_⟩
  rw [yfz (d:=d) a h4 (fun x h5 h6=>by rw [h1];exact k x h5 h6),h1]
theorem ymQ {l:Lb} {a n d:Nat} (ha:a≤l.length) (h:min 131 (l.length-a)≤n):ycF l a n d:=fun x _ _=>by
 have h1:=ynD l a x
 have h2:=ypZ l a x ha
 omega
section
open Go.RowKit
open Go.Lib
theorem yuz (b0 off len c a d yF:Nat) (mo:Option Nat) (l:Lb) (w:World) (hl:len≤20000) (h1:1≤d) (h2:d≤a) (h3:a<len) (hm:Hid (yF=min 131 (len-a))) (h:Came w (some ⟨b0,off,none⟩) len c l) :
  Calls Tryz.prog 225 #[.agg #[.slice (some ⟨b0,off,none⟩) len c,.map mo],.int .i64 ((a-d:Nat):Int),.int .i64 (a:Int),.int .i64 (yF:Int)] w fun e w'=>Be w w'∧e=.returned (.int .i64 (rn l a d:Int)):=by
 have H:=h_ h
 obtain ⟨fr,HFR⟩:=ey (a-d)
 rw [← HFR.out]
 have il:(len:Int)≤20000:=by omega
 have ia:(a:Int)<(len:Int):=by omega
 have ifr:(fr:Int)≤20000:=by rw [HFR.out];omega
 have im:(yF:Int)≤131:=by rw [hm.out];omega
 have HBX:Hid (Be w (w.alloc (.cells #[.slice (some ⟨b0,off,none⟩) len c,.map mo] 152))):=h_ ((Below.refl _ w).alloc nl _)
 have yaV:(w.alloc (.cells #[.slice (some ⟨b0,off,none⟩) len c,.map mo] 152)).heap[w.heap.size]?=some (.cells #[.slice (some ⟨b0,off,none⟩) len c,.map mo] 152 (0,0)):=World.alloc_heap_new w _
 have ydV:=h_ yaV
 have zX:Hid (∀ n,n≤yF→(∀ j,j<n→yai l a d j)→(n=yF∨¬ yai l a d n)→rn l a d=n):=h_ (fun n hn hs he=>by
  refine (ye6 l a d).one ⟨by have:=hm.out;omega,hs,?_⟩
  rcases he with rfl|he
  ·have hmo:=hm.out
   by_cases e:n=131
   ·exact .inl e
   ·exact .inr (fun hg=>by have:=hg.1;rw [H.out.hl] at this;omega)
  ·exact .inr he)
 clear h yaV
 go_in
 go_wp2_with fail
 obtain ⟨W0,hW0⟩:∃ W0,w.alloc (.cells #[.slice (some ⟨b0,off,none⟩) len c,.map mo] 152)=W0:=⟨_,rfl⟩
 rw [hW0] at HBX ydV
 try rw [hW0]
 have hs1:w.heap.size<W0.heap.size:=by rw [← hW0];simp
 go_loopw [9] (fun nv wr=>∃ n:Nat,n≤yF∧nv=.int .i64 n∧Hid (∀ j,j<n→yai l a d j)∧Hid (Be W0 wr)) (fun nv _=>yF-(Go.RowKit.intOf nv).toNat)
 case atStart=>exact ⟨0,Nat.zero_le _,rfl,h_ (fun j hj=>by omega),h_ bR⟩
 case round =>
  obtain ⟨n,hn,rfl,HA,HB⟩:=hrel
  have hni:(n:Int)≤(yF:Int):=by omega
  have HBw:=h_ (HBX.out.trans (HB.out.mono (Nat.le_of_lt hs1)))
  have cb:wr.cell? ⟨w.heap.size,0,none⟩=some (.slice (some ⟨b0,off,none⟩) len c):=by
   have h:=(HB.out.block w.heap.size hs1).trans ydV.out
   simp [World.cell?,h]
  by_cases hn1:n<yF
  ·have g9:decide (n<yF)=true:=decide_eq_true hn1
   have g9':(n:Int)<(yF:Int):=by omega
   obtain ⟨an,HAN⟩:=ey (a+n)
   have han:(a:Int)+(n:Int)=(an:Int):=by rw [HAN.out];omega
   have hlt:an<len:=by have:=hm.out;rw [HAN.out];omega
   have yxA:(an:Int)<(len:Int):=by omega
   obtain ⟨bk,HBK⟩:=ey (an-d)
   have hbk:(fr:Int)+(n:Int)=(bk:Int):=by rw [HBK.out,HAN.out,HFR.out];omega
   have hbkl:(bk:Int)<(len:Int):=by rw [HBK.out];omega
   obtain ⟨b1,o1,x,e1,-,hc1,hx,hxi⟩:=(H.out.lies.below HBw.out).at (k:=an) (by rw [H.out.hl];exact hlt)
   cases e1
   obtain ⟨b1,o1,y,e1,-,hc2,hy,hyi⟩:=(H.out.lies.below HBw.out).at (k:=bk) (by rw [H.out.hl,HBK.out];omega)
   cases e1
   have hx':=hx.out
   have hy':=hy.out
   rw [HAN.out] at hx'
   rw [HBK.out,HAN.out] at hy'
   have HX:=h_ hx'
   have HY:=h_ hy'
   clear hx' hy'
   by_cases hxy:y=x
   ·have hag:Hid (yai l a d n):=h_ ⟨by rw [H.out.hl,← HAN.out];exact hlt,UInt8.toNat_inj.1 (by rw [HX.out,HY.out,hxy])⟩
    subst hxy
    have HA2:Hid (∀ j,j<n+1→yai l a d j):=h_ (fun j hj=>by
     by_cases e:j=n
     ·rw [e];exact hag.out
     ·exact HA.out j (by omega))
    go_wp2_with fail
    go_quiet (fail)
    go_wp2
    go_roundw
    case rel=>exact ⟨n+1,by omega,by go_num,HA2,h_ (GT HB.out _)⟩
    case measure=>simp [Go.RowKit.intOf];omega
   ·have hag:Hid (¬ yai l a d n):=h_ (fun h=>hxy (by rw [← HX.out,← HY.out,h.2]))
    have hxi2:((y:Int)==(x:Int))=false:=by rw [beq_eq_false_iff_ne];omega
    have hxi3:¬ (y:Int)=(x:Int):=by omega
    have er:=zX.out n hn HA.out (.inr hag.out)
    have yD:Hid (∀ nq,Be w (wr.drewN nq)∧Ending.returned (.int .i64 (n:Int))=.returned (.int .i64 (rn l a d:Int))):=h_ (fun nq=>⟨GT HBw.out _,by rw [er]⟩)
    clear er
    go_wp2_with fail
    go_quiet (fail)
    go_wp2
    go_ret
    exact yD.out _
  ·obtain rfl:n=yF:=by omega
   have g9:decide (n<n)=false:=decide_eq_false (by omega)
   have er:=zX.out n hn HA.out (.inl rfl)
   have yD:Hid (∀ nq,Be w (wr.drewN nq)∧Ending.returned (.int .i64 (n:Int))=.returned (.int .i64 (rn l a d:Int))):=h_ (fun nq=>⟨GT HBw.out _,by rw [er]⟩)
   clear er
   go_wp2_with fail
   go_quiet (fail)
   go_wp2
   go_ret
   exact yD.out _
def yrD (l:Lb) (a:Nat):Value:=.agg #[.int .u8 ((l.getD a 0).toNat:Int),.int .u8 ((l.getD (a+1) 0).toNat:Int),.int .u8 ((l.getD (a+2) 0).toNat:Int),.int .u8 ((l.getD (a+3) 0).toNat:Int)]
theorem yp1 (b0 off len c a:Nat) (mo:Option Nat) (l:Lb) (w:World) (hl:len≤20000) (h3:a+4≤len) (h:Came w (some ⟨b0,off,none⟩) len c l) :
  Calls Tryz.prog 191 #[.agg #[.slice (some ⟨b0,off,none⟩) len c,.map mo],.int .i64 (a:Int)] w fun e w'=>Be w w'∧e=.returned (yrD l a):=by
 have H:=h_ h
 have hc:=h.hc
 have il:(len:Int)≤20000:=by omega
 have ia:(a:Int)+4≤(len:Int):=by omega
 have ic:(len:Int)≤(c:Int):=by omega
 have ha1:(a:Int)≤(len:Int):=by omega
 have ha2:(a:Int)≤(c:Int):=by omega
 obtain ⟨W3,HW3⟩:=ey (((w.alloc (.cells #[.slice (some ⟨b0,off,none⟩) len c,.map mo] 152)).alloc (.cells #[.int .u8 0,.int .u8 0,.int .u8 0,.int .u8 0] 79)).alloc (.cells #[.int .u8 0,.int .u8 0,.int .u8 0,.int .u8 0] 79))
 have HB3:Hid (Be w W3):=h_ (by
  rw [HW3.out]
  exact (((Below.refl _ w).alloc nl _).alloc (by simp only [World.alloc,Array.size_push];omega) _).alloc (by simp only [World.alloc,Array.size_push];omega) _)
 have HK:Hid (W3.heap[w.heap.size+1+1]?=some (.cells ([.int .u8 0,.int .u8 0,.int .u8 0,.int .u8 0]:List Value).toArray 79 (0,0))∧W3.heap[w.heap.size+1]?=some (.cells #[.int .u8 0,.int .u8 0,.int .u8 0,.int .u8 0] 79 (0,0))∧W3.heap[w.heap.size]?=some (.cells #[.slice (some ⟨b0,off,none⟩) len c,.map mo] 152 (0,0))):=h_ (by
  rw [HW3.out]
  refine ⟨?_,?_,?_⟩<;>simp only [World.alloc,Array.getElem?_push,Array.size_push]
  ·rw [if_pos trivial]
  ·rw [if_neg (by omega),if_pos trivial]
  ·rw [if_neg (by omega),if_neg (by omega),if_pos trivial])
 have hca:¬ c=a:=by omega
 have hb0:Hid (∀ k,k<len→∃ x:Nat,w.cell? ⟨b0,off+k,none⟩=some (.int .u8 (x:Int))∧(l.getD k 0).toNat=x∧b0<w.heap.size):=h_ (fun k hk=>by
  obtain ⟨b1,o1,x,e1,h0,h1,h2,h3⟩:=H.out.lies.at (k:=k) (by rw [H.out.hl];exact hk)
  cases e1
  exact ⟨x,h1,h2.out,h0⟩)
 clear h
 go_in
 go_wp2_with fail
 try rw [← HW3.out]
 have yaV:W3.cell? ⟨w.heap.size,0,none⟩=some (.slice (some ⟨b0,off,none⟩) len c):=by simp [World.cell?,HK.out.2.2]
 have HKd:Hid (W3.drew.heap[w.heap.size+1+1]?=some (.cells ([.int .u8 0,.int .u8 0,.int .u8 0,.int .u8 0]:List Value).toArray 79 (0,0))):=h_ HK.out.1
 have HBd:Hid (Below w.heap.size W3 W3.drew):=h_ ⟨rfl,rfl,rfl,Nat.le_refl _,fun _ _=>rfl⟩
 obtain ⟨x0,x1,x2,x3,HX⟩:∃ x0 x1 x2 x3:Nat,Hid (x0=(l.getD a 0).toNat∧x1=(l.getD (a+1) 0).toNat∧x2=(l.getD (a+2) 0).toNat∧x3=(l.getD (a+3) 0).toNat):=⟨_,_,_,_,h_ ⟨rfl,rfl,rfl,rfl⟩⟩
 have HS:Hid (∀ j v,([.int .u8 (x0:Int),.int .u8 (x1:Int),.int .u8 (x2:Int),.int .u8 (x3:Int)]:List Value)[j]?=some v→W3.drew.cell? ((⟨b0,off+a,none⟩:Addr).add j)=some v):=h_ (fun j v hj=>by
  have hw:∀ k x,k<len→(l.getD k 0).toNat=x→W3.drew.cell? ⟨b0,off+k,none⟩=some (.int .u8 (x:Int)):=fun k x hk hx=>by
   obtain ⟨y,h1,h2,h4⟩:=hb0.out k hk
   rw [show x=y by rw [← hx,h2]]
   exact ((HB3.out.trans HBd.out).cell (p:=⟨b0,off+k,none⟩) h4).trans h1
  obtain ⟨e0,e1,e2,e3⟩:=HX.out
  match j,hj with
  | 0,hj=>cases hj;exact hw a x0 (by omega) e0.symm
  | 1,hj=>cases hj;exact hw (a+1) x1 (by omega) e1.symm
  | 2,hj=>cases hj;exact hw (a+2) x2 (by omega) e2.symm
  | 3,hj=>cases hj;exact hw (a+3) x3 (by omega) e3.symm
  | j+4,hj=>simp at hj)
 have HL4:Hid ((4:Nat)=Nat.min (len-a) 4):=h_ (Nat.min_eq_right (by omega)).symm
 have hv:yrD l a=.agg #[.int .u8 (x0:Int),.int .u8 (x1:Int),.int .u8 (x2:Int),.int .u8 (x3:Int)]:=by
  obtain ⟨rfl,rfl,rfl,rfl⟩:=HX.out
  rfl
 have HV:=h_ hv
 clear hv
 go_region_law (refine step_copy_splice rfl (.tmp 6) (.tmp 10) 39 39 rfl 5 rfl rfl _ _ _ _ _ _ rfl rfl (w.heap.size+1+1) 0 _ 79 HKd.out [.int .u8 (x0:Int),.int .u8 (x1:Int),.int .u8 (x2:Int),.int .u8 (x3:Int)] HL4.out (fun _=>⟨rfl,_,rfl,HS.out⟩) nl (by simp [Value.oneCell']) (w.heap.size+1+1) W3.drew bR nl ?_;intro w4 hg4 hb4)
 have HK4:Hid (w4.heap[w.heap.size+1+1]?=some (.cells #[.int .u8 (x0:Int),.int .u8 (x1:Int),.int .u8 (x2:Int),.int .u8 (x3:Int)] 79 (0,0))):=h_ hg4.out
 have yh1:Hid (w4.heap[w.heap.size+1]?=some (.cells #[.int .u8 0,.int .u8 0,.int .u8 0,.int .u8 0] 79 (0,0))):=h_ ((hb4.block (w.heap.size+1) (by omega)).trans HK.out.2.1)
 have HB4:Hid (Be w w4):=h_ ((HB3.out.trans HBd.out).trans (hb4.mono (by omega)))
 clear hg4 hb4 yaV
 have f0:w4.cell? ⟨w.heap.size+1+1,0,none⟩=some (.int .u8 (x0:Int)):=by simp only [World.cell?,HK4.out];rfl
 have f1:w4.cell? ⟨w.heap.size+1+1,1,none⟩=some (.int .u8 (x1:Int)):=by simp only [World.cell?,HK4.out];rfl
 have f2:w4.cell? ⟨w.heap.size+1+1,2,none⟩=some (.int .u8 (x2:Int)):=by simp only [World.cell?,HK4.out];rfl
 have f3:w4.cell? ⟨w.heap.size+1+1,3,none⟩=some (.int .u8 (x3:Int)):=by simp only [World.cell?,HK4.out];rfl
 obtain ⟨g1,hg1⟩:∃ g1,w.heap.size+1=g1:=⟨_,rfl⟩
 have e0:w4.cell? ⟨w.heap.size+1,0,none⟩=some (.int .u8 0):=by simp only [World.cell?,yh1.out];rfl
 have e1:w4.cell? ⟨w.heap.size+1,1,none⟩=some (.int .u8 0):=by simp only [World.cell?,yh1.out];rfl
 have e2:w4.cell? ⟨w.heap.size+1,2,none⟩=some (.int .u8 0):=by simp only [World.cell?,yh1.out];rfl
 have e3:w4.cell? ⟨w.heap.size+1,3,none⟩=some (.int .u8 0):=by simp only [World.cell?,yh1.out];rfl
 have z0:w4.frozen? ⟨w.heap.size+1,0,none⟩=false:=by simp only [World.frozen?,yh1.out];rfl
 have z1:w4.frozen? ⟨w.heap.size+1,1,none⟩=false:=by simp only [World.frozen?,yh1.out];rfl
 have z2:w4.frozen? ⟨w.heap.size+1,2,none⟩=false:=by simp only [World.frozen?,yh1.out];rfl
 have z3:w4.frozen? ⟨w.heap.size+1,3,none⟩=false:=by simp only [World.frozen?,yh1.out];rfl
 rw [hg1] at f0 f1 f2 f3 e0 e1 e2 e3 z0 z1 z2 z3
 have hg1':w.heap.size≤g1:=by omega
 have HG:Hid (w4.heap[g1]?=some (.cells #[.int .u8 0,.int .u8 0,.int .u8 0,.int .u8 0] 79 (0,0))):=by rw [← hg1];exact yh1
 simp only [hg1]
 clear hg1
 go_wp2_with fail
 have HB8:=h_ ((((HB4.out.setCell (p:=⟨g1,0,none⟩) hg1' (.int .u8 (x0:Int))).setCell (p:=⟨g1,1,none⟩) hg1' (.int .u8 (x1:Int))).setCell (p:=⟨g1,2,none⟩) hg1' (.int .u8 (x2:Int))).setCell (p:=⟨g1,3,none⟩) hg1' (.int .u8 (x3:Int)))
 have vB:∀ (W:World) (y0 y1 y2 y3:Value),W.heap[g1]?=some (.cells #[y0,y1,y2,y3] 79 (0,0))→((((W.setCell ⟨g1,0,none⟩ (.int .u8 (x0:Int))).setCell ⟨g1,1,none⟩ (.int .u8 (x1:Int))).setCell ⟨g1,2,none⟩ (.int .u8 (x2:Int))).setCell ⟨g1,3,none⟩ (.int .u8 (x3:Int))).heap[g1]?=some (.cells #[.int .u8 (x0:Int),.int .u8 (x1:Int),.int .u8 (x2:Int),.int .u8 (x3:Int)] 79 (0,0)):=fun W y0 y1 y2 y3 h0=>by
  have h1:=setRow_heap W g1 _ (#[y0,y1,y2,y3].setIfInBounds 0 (.int .u8 (x0:Int))) 79 (0,0) h0
  rw [← setCell_eq_setRow W g1 0 _ 79 (0,0) _ h0] at h1
  have h2:=setRow_heap _ g1 _ ((#[y0,y1,y2,y3].setIfInBounds 0 (.int .u8 (x0:Int))).setIfInBounds 1 (.int .u8 (x1:Int))) 79 (0,0) h1
  rw [← setCell_eq_setRow _ g1 1 _ 79 (0,0) _ h1] at h2
  have h3:=setRow_heap _ g1 _ (((#[y0,y1,y2,y3].setIfInBounds 0 (.int .u8 (x0:Int))).setIfInBounds 1 (.int .u8 (x1:Int))).setIfInBounds 2 (.int .u8 (x2:Int))) 79 (0,0) h2
  rw [← setCell_eq_setRow _ g1 2 _ 79 (0,0) _ h2] at h3
  have h4:=setRow_heap _ g1 _ ((((#[y0,y1,y2,y3].setIfInBounds 0 (.int .u8 (x0:Int))).setIfInBounds 1 (.int .u8 (x1:Int))).setIfInBounds 2 (.int .u8 (x2:Int))).setIfInBounds 3 (.int .u8 (x3:Int))) 79 (0,0) h3
  rw [← setCell_eq_setRow _ g1 3 _ 79 (0,0) _ h3] at h4
  exact h4
 try simp only [Exit.inBlock,Exit.then]
 refine bodyPost_ret (results_cell_row rfl _ _ g1 79 #[.int .u8 (x0:Int),.int .u8 (x1:Int),.int .u8 (x2:Int),.int .u8 (x3:Int)] (0,0) _ rfl (vB _ _ _ _ _ HG.out) rfl rfl rfl) rfl ?_
 exact ⟨HB8.out,by rw [HV.out]⟩
theorem yrj (x:Int) (w:World):Calls Tryz.prog 216 #[.int .i64 x] w fun e w'=>w'=w∧e=.returned (.bool false):=by
 go_in
 go_wp2
 go_ret
 exact ⟨rfl,by simp⟩
theorem yrk (x:Int) (w:World):Calls Tryz.prog 249 #[.int .i64 x] w fun e w'=>w'=w∧e=.returned (.bool false):=by
 go_in
 go_wp2
 go_ret
 exact ⟨rfl,by simp⟩
theorem yuA (x y:Int) (w:World):Calls Tryz.prog 248 #[.int .i64 x,.int .i64 y] w fun e w'=>w'=w∧e=.returned (.bool (decide (x<y))):=by
 go_in
 go_wp2_with fail
 refine (yrj x _).mono ?_
 rintro e w' ⟨rfl,rfl⟩
 go_wp2
 go_ret
 exact ⟨rfl,by simp⟩
def ykK (w:World) (p:Oa) (n:Nat) (ps:Nat→Nat):Prop:=∀ j,j<n→∃ g,p=some ⟨g,0,none⟩∧g<w.heap.size∧w.cell? ⟨g,j,none⟩=some (.int .i64 ((ps j:Nat):Int))
theorem ykK.below {w w':World} {p:Oa} {n:Nat} {ps:Nat→Nat} (h:ykK w p n ps) (hb:Be w w'):ykK w' p n ps:=fun j hj=>by
 obtain ⟨g,h1,h2,h3⟩:=h j hj
 exact ⟨g,h1,Nat.lt_of_lt_of_le h2 hb.size,(hb.cell (p:=⟨g,j,none⟩) h2).trans h3⟩
def yew (n:Nat) (ps:Nat→Nat) (t:Nat) (w:World) (e:Ending) (w':World):Prop:=Be w w'∧∃ (i:Nat) (b:Bool),i≤n∧(∀ j,j<i→ps j<t)∧(∀ j,i≤j→j<n→t≤ps j)∧e=.returned (.tuple #[.int .i64 (i:Int),.bool b])
theorem ypc (p:Oa) (n c t:Nat) (ps:Nat→Nat) (w:World) (hn:n≤20000) (ht:t≤20000) (hps:Hid (∀ j,j<n→ps j≤20000)) (hup:Hid (∀ i j,i≤j→j<n→ps i≤ps j)) (hr:Hid (ykK w p n ps)) :
  Calls Tryz.prog 223 #[.slice p n c,.int .i64 (t:Int)] w (yew n ps t w):=by
 have hni:(n:Int)≤20000:=by omega
 have hti:(t:Int)≤20000:=by omega
 go_in
 go_wp2
 go_loopw [7,8] (fun iv jv wr=>∃ i j:Nat,iv=.int .i64 i∧jv=.int .i64 j∧i≤j∧j≤n∧Hid ((∀ k,k<i→ps k<t)∧(∀ k,j≤k→k<n→t≤ps k))∧Hid (Be w wr)) (fun iv jv _=>(Go.RowKit.intOf jv).toNat-(Go.RowKit.intOf iv).toNat)
 case atStart=>exact ⟨0,n,rfl,rfl,Nat.zero_le _,Nat.le_refl _,h_ ⟨fun k hk=>by omega,fun k h1 h2=>by omega⟩,h_ bR⟩
 case round =>
  obtain ⟨i,j,rfl,rfl,hij,hjn,HI,HB⟩:=hrel
  have iij:(i:Int)≤(j:Int):=by omega
  have ijn:(j:Int)≤(n:Int):=by omega
  by_cases hlt:i<j
  ·have ilt:(i:Int)<(j:Int):=by omega
   obtain ⟨h,hh⟩:∃ h:Nat,((i:Int)+(j:Int))/2=(h:Int):=⟨(i+j)/2,by omega⟩
   have h1:i≤h:=by omega
   have h2:h<j:=by omega
   have hhn:(h:Int)<(n:Int):=by omega
   obtain ⟨g,rfl,-,zU⟩:=hr.out.below HB.out h (by omega)
   obtain ⟨x,HX⟩:=ey (ps h)
   rw [← HX.out] at zU
   have hxi:(x:Int)≤20000:=by have:=hps.out h (by omega);rw [HX.out];omega
   have hhi:(h:Int)≤20000:=by omega
   go_wp2_with fail
   refine (yuA (x:Int) (t:Int) _).mono ?_
   rintro e w2 ⟨rfl,rfl⟩
   by_cases hxt:x<t
   ·have hxt':(x:Int)<(t:Int):=by omega
    have HI2:Hid ((∀ k,k<h+1→ps k<t)∧(∀ k,j≤k→k<n→t≤ps k)):=h_ ⟨fun k hk=>by
     have:=hup.out k h (by omega) (by omega)
     have:=HX.out
     omega,HI.out.2⟩
    go_wp2
    go_roundw
    case rel=>exact ⟨h+1,j,by go_num,rfl,by omega,by omega,HI2,HB⟩
    case measure=>simp [Go.RowKit.intOf];omega
   ·have hxt':¬ (x:Int)<(t:Int):=by omega
    have HI2:Hid ((∀ k,k<i→ps k<t)∧(∀ k,h≤k→k<n→t≤ps k)):=h_ ⟨HI.out.1,fun k h1 h2=>by
     have:=hup.out h k h1 h2
     have:=HX.out
     omega⟩
    go_wp2
    go_roundw
    case rel=>exact ⟨i,h,rfl,rfl,by omega,by omega,HI2,HB⟩
    case measure=>simp [Go.RowKit.intOf];omega
  ·have ilt:¬ (i:Int)<(j:Int):=by omega
   obtain rfl:i=j:=by omega
   have yD:∀ b,Hid (yew n ps t w (.returned (.tuple #[.int .i64 (i:Int),.bool b])) wr):=fun b=>h_ ⟨HB.out,i,b,hjn,HI.out.1,HI.out.2,rfl⟩
   by_cases hin:i<n
   ·have hin':(i:Int)<(n:Int):=by omega
    obtain ⟨g,rfl,-,zU⟩:=hr.out.below HB.out i (by omega)
    obtain ⟨x,HX⟩:=ey (ps i)
    rw [← HX.out] at zU
    have hxi:(x:Int)≤20000:=by have:=hps.out i (by omega);rw [HX.out];omega
    by_cases hxt:(x:Int)=(t:Int)
    ·have hb1:((x:Int)==(t:Int))=true:=by rw [beq_iff_eq];exact hxt
     go_wp2
     go_ret2
     exact (yD _).out
    ·have hb1:((x:Int)==(t:Int))=false:=by rw [beq_eq_false_iff_ne];exact hxt
     go_wp2_with fail
     refine (yrk (x:Int) _).mono ?_
     rintro e w2 ⟨rfl,rfl⟩
     go_wp2
     go_ret2
     exact (yD _).out
   ·have hin':¬ (i:Int)<(n:Int):=by omega
    go_wp2
    go_ret2
    exact (yD _).out
end
section
open Go.RowKit Go.Shelf
open Go.Lib
attribute [local go_sem] Oper.semAt_some
theorem ywQ (m:Nat) (p:Oa) (len c:Nat) (w:World) :
  CallsIn Fence.wide m Tryz.prog 224 #[.slice p len c] w fun e w'=>e=.returned (.func (.func 250) #[] #[.pointer (some ⟨w.heap.size,0,none⟩)])∧w'=w.alloc (.cells #[.slice p len c] 194):=by
 refine callsIn_of_wp Tryz.func224 rfl trivial ?_ rfl
 simp only [Tryz.ntmps224,List.size_toArray,List.length_cons,List.length_nil,Nat.reduceAdd,Nat.reduceSub,Array.replicate_succ,Array.replicate_zero,List.push_toArray,List.append_toArray,List.nil_append,List.cons_append]
 gi_wp2
 go_ret
 exact ⟨rfl,rfl⟩
abbrev bkE (ps:Nat→Nat) (n:Nat) (x:Pl n):Array Value:=#[.int .i64 ((n-1-x.1:Nat):Int),.int .i64 ((ps (n-1-x.1):Nat):Int)]
def ynF (N:Nat) (w:World) (p:Oa) (n:Nat) (ps:Nat→Nat):Prop:=∀ j,j<n→∃ g,p=some ⟨g,0,none⟩∧g<N∧w.cell? ⟨g,j,none⟩=some (.int .i64 ((ps j:Nat):Int))
theorem ynF.keep {N:Nat} {w w':World} {p:Oa} {n:Nat} {ps:Nat→Nat} (h:ynF N w p n ps) (hb:Below N w w'):ynF N w' p n ps:=fun j hj=>by
 obtain ⟨g,h1,h2,h3⟩:=h j hj
 exact ⟨g,h1,h2,(hb.cell (p:=⟨g,j,none⟩) h2).trans h3⟩
theorem ywR (m:Nat) (hm:1≤m) (lr Bb N0 n c:Nat) (p:Oa) (ps:Nat→Nat) (hn:n≤20000) (hps:Hid (∀ j,j<n→ps j≤20000)) (J Jx:List (Pl n)→World→Prop)
  (hY:∀ pre x W,J pre W→pre.length<n→YieldAt Fence.wide (m-1) Tryz.prog lr (bkE ps n x) W fun e W' =>
   (e=.returned (.bool true)∧J (pre++[x]) W'∧vF N0 Bb Bb W W')∨(e=.returned (.bool false)∧Jx (pre++[x]) W'))
  (W:World) (hBb:W.cell? ⟨Bb,0,none⟩=some (.slice p n c)) (hr:ynF N0 W p n ps) (h0:J [] W) :
  CallsIn Fence.wide m Tryz.prog 250 #[.func (.yield lr) #[] #[],.pointer (some ⟨Bb,0,none⟩)] W fun e W'=>(∃ v,e=.returned v) ∧
   ((∃ ys,ys.map (·.1)=List.range n∧J ys W')∨(∃ pre,pre.map (·.1)=List.range pre.length∧Jx pre W')):=by
 have hni:(n:Int)≤20000:=by omega
 have HR:=h_ hr
 clear hr
 refine callsIn_of_wp Tryz.func250 rfl trivial ?_ rfl
 simp only [Tryz.ntmps250,List.size_toArray,List.length_cons,List.length_nil,Nat.reduceAdd,Nat.reduceSub,Array.replicate_succ,Array.replicate_zero,List.push_toArray,List.append_toArray,List.nil_append,List.cons_append]
 gi_wp2
 have HJ0:=h_ h0
 gi_loopw [3] (fun tv wr=>∃ (t:Int) (i:Nat) (pre:List (Pl n)),i≤n∧tv=.int .i64 t∧t=(n:Int)-1-(i:Int)∧Hid (pre.map (·.1)=List.range i)∧Hid (J pre wr)∧Hid (vF N0 Bb Bb W wr)) (fun tv _=>(intOf tv+1).toNat)
 case atStart=>exact ⟨_,0,[],Nat.zero_le _,rfl,by simp,rfl,HJ0,h_ (vF.refl _ _ _ _)⟩
 case round =>
  obtain ⟨t,i,pre,hin,rfl,ht,HP,HJ,HB⟩:=hrel
  have hcb:=HB.out.c1.trans hBb
  by_cases GP:i<n
  ·obtain ⟨k,HK⟩:=ey (n-1-i)
   obtain rfl:t=(k:Int):=by rw [ht,HK.out];omega
   clear ht
   have hkn:(k:Int)<(n:Int):=by rw [HK.out];omega
   have hk0:0≤(k:Int):=by omega
   obtain ⟨g,rfl,-,zU⟩:=HR.out.keep HB.out.1 k (by omega)
   obtain ⟨x,HX⟩:=ey (ps k)
   rw [← HX.out] at zU
   have hxi:(x:Int)≤20000:=by have:=hps.out k (by omega);rw [HX.out];omega
   have hpl:pre.length=i:=by
    have h:=congrArg List.length HP.out
    rw [List.length_map,List.length_range] at h;omega
   obtain ⟨fn,tmps,assign,body,hy,hRo⟩:=hY pre ⟨i,GP⟩ wr HJ.out (by omega)
   have hy2:(Instr.yield lr #[.int .i64 (k:Int),.int .i64 (x:Int)]).run Tryz.prog wr=.ok (.round lr fn tmps assign body) wr:=by
    rw [HX.out,HK.out];exact hy
   have HPX:Hid ((pre++[(⟨i,GP⟩:Pl n)]).map (fun y=>y.1)=List.range (pre++[(⟨i,GP⟩:Pl n)]).length):=h_ (by rw [List.length_append,hpl,List.map_append,HP.out];exact List.range_succ.symm)
   clear hy hpl
   gi_wp2
   refine hRo.mono ?_
   rintro e W3 (⟨rfl,hJ3,hk3⟩|⟨rfl,yh0⟩)
   ·have HB3:=h_ (HB.out.trans hk3)
    have HJ3:=h_ hJ3
    clear hJ3 hk3 hy2
    gi_wp2
    go_roundw
    case rel=>exact ⟨(k:Int)-1,i+1,pre++[⟨i,GP⟩],by omega,by go_num,by have:=HK.out;omega,h_ (by rw [List.map_append,HP.out,List.range_succ];rfl),HJ3,HB3⟩
    case measure=>simp [intOf]
   ·gi_wp2
    refine bodyPost_ret (results_none rfl _ _ _) rfl ?_
    exact ⟨⟨_,rfl⟩,.inr ⟨_,HPX.out,yh0⟩⟩
  ·obtain rfl:i=n:=by omega
   obtain rfl:t=-1:=by omega
   gi_wp2
   go_end0
   exact ⟨⟨_,rfl⟩,.inl ⟨pre,HP.out,HJ.out⟩⟩
theorem ypd (m:Nat) (hm:1≤m) (Bb N0 n c:Nat) (p:Oa) (ps:Nat→Nat) (hn:n≤20000) (hps:Hid (∀ j,j<n→ps j≤20000)) (w:World) (hN:N0≤w.heap.size) (hB:Bb<w.heap.size)
  (hBb:w.cell? ⟨Bb,0,none⟩=some (.slice p n c)) (hr:ynF N0 w p n ps) :
  SeqStopsK Fence.wide m Tryz.prog 250 #[.pointer (some ⟨Bb,0,none⟩)] (bkE ps n) (vF N0 Bb Bb) (fun ys=>ys.map (·.1)=List.range n) (fun pre=>pre.map (·.1)=List.range pre.length) n w:=fun lr J Jx W hW _ _ hY h0 =>
 ywR m hm lr Bb N0 n c p ps hn hps J Jx hY W ((hW.cell (p:=⟨Bb,0,none⟩) hB).trans hBb) (hr.keep (hW.mono hN)) h0
end
section
open Go.RowKit Go.Maps Go.ChangeShapes Go.MapKept
open Go.WideElems (Fit rd rg pl rd_key rd_val rg_of rd_mk rd_stay)
open Go.ChangeMaps (setBlock heap_setBlock_same heap_setBlock_other putKey notKey)
section
variable {H : Type} {P : Program} {k : TypeId} {w : World} {base : Nat} {e : TypeId} {q : IntKind} {b n : Nat} {D : DataW H}
def yfA (P:Program) (t k:TypeId) (base:Nat) (e:TypeId) (q:IntKind) (b n:Nat) (D:DataW H) (kl:Lit) (v:Value) (st:Nat) (w w1:World):Prop :=
 ∀ (w2:World) (v':Value) (zs':List Int),w1.grownBy w2 v.ownBlock→w2.ownsInts base e q v' zs'→zs'.length≤n+1→(v'.ownBlock=v.ownBlock∨∃ g,v'.ownBlock=some g∧w.heap.size≤g) →
  ∃ w3,(Instr.entryStore t (.map (some b)) (goInt st) v').run P w2=.ok () w3∧w3.ownsGroups P k base e q b (n+1) (D.put kl (rowDatum q v' zs'))∧w2.grownBy w3 (some b)
theorem ykt {t E:TypeId} {key:Value} {kl:Lit} (h:w.ownsGroups P k base e q b n D) (KL:WideMaps.KeyLaw P k) (ht:P.underlying t=some (.map k E)) (hz:∀ u:World,(zeroValue E).run P u=.ok (.slice none 0 0) u) (hn:n<maxLen) (yeY:keyOf P k key=some kl) :
  ∃ (v:Value) (zs:List Int) (st:Nat) (w1:World),(Instr.mapEntry t (.map (some b)) key).run P w=.ok (.tuple #[v,goInt st]) w1∧w.grownBy w1 (some b)∧D.atKey kl .nil=rowDatum q v zs∧w1.ownsInts base e q v zs∧zs.length≤n∧w1.heap.size=w.heap.size∧yfA P t k base e q b n D kl v st w w1:=by
 have K:=Keyed.of_law KL
 have hO:=h
 obtain ⟨es,clock,hb,F,hs,rfl,hbb,hlen,hap⟩:=h
 obtain ⟨v0,st,es1,clock1,jY,hv0,hst⟩:=Go.WideElems.entry_then_store KL ht hz hb F yeY
 have hblt:b<w.heap.size:=(Array.getElem?_eq_some_iff.1 hb).1
 have hg1:w.grownBy (setBlock w b (.map es1 clock1)) (some b):=⟨rfl,rfl,rfl,by simp [setBlock],fun i _ hi=>heap_setBlock_other hb _ (fun e1=>hi (by rw [e1]))⟩
 have hb1:(setBlock w b (.map es1 clock1)).heap[b]?=some (.map es1 clock1):=heap_setBlock_same hb _
 have owned:∀ x ∈ es.toList,∃ zs,w.ownsInts base e q x.val zs:=fun x hx=>by
  obtain ⟨y,hy⟩:=F.reads x hx
  obtain ⟨z,hz1,_⟩:=rd_val hy
  obtain ⟨zs,ho,_⟩:=rowElem_inv hz1
  exact ⟨zs,ho⟩
 have ybX:∀ {W:World} {u:Value} {ys:List Int},W.ownsInts base e q u ys→u.ownBlock=none∨u.ownBlock≠some b:=fun {W u ys} ho=>by
  cases hu:u.ownBlock with
  | none=>exact Or.inl rfl
  | some g =>
   refine Or.inr (fun e1=>?_)
   have:=(ho.1.lt g hu).1
   cases e1
   omega
 -- what the entry holds
 obtain ⟨zs,ho,hat,hzl,hap0⟩:∃ zs,w.ownsInts base e q v0 zs∧(DataW.map ((es.toList.map (rg P k (rowElem (H:=H) w base e q))).foldr DataW.insert [])).atKey kl .nil=rowDatum q v0 zs∧zs.length≤n∧(∀ x ∈ es.toList,x.key≠key→x.val.ownBlock=none∨x.val.ownBlock≠v0.ownBlock):=by
  rcases Maps.fit_look false K ht (hz w) hb F yeY with ⟨vV,hno,hat⟩|⟨e0,y,hm0,h3,vV,hR,hat,_⟩
  ·rcases hv0 with ⟨e0,hm,hk0,_⟩|⟨_,rfl⟩
   ·exact absurd hk0 (hno e0 hm)
   ·exact ⟨[],World.ownsInts_nil _ _ _ _,hat _,Nat.zero_le _,fun x _ _=>by cases x.val.ownBlock<;>simp [Value.ownBlock]⟩
  ·rcases hv0 with ⟨e1,hm1,hk1,rfl⟩|⟨hno,_⟩
   ·have huniq:∀ x ∈ es.toList,x.key=key→x.val=e0.val:=fun x hx hxk=>by
     rcases K.find w yeY es.toList F.keys with ⟨_,h2⟩|⟨j,ej,h1,h2,h3'⟩
     ·exact absurd h3 (h2 e0 hm0)
     ·have hpw:es.toList.Pairwise (fun a b=>a.key≠b.key):=List.pairwise_map.1 F.stamped.2.2
      obtain ⟨i,hi,hxe⟩:=List.getElem_of_mem hx
      obtain ⟨i0,hi0,yk5⟩:=List.getElem_of_mem hm0
      by_cases e:i=i0
      ·subst e;rw [← hxe,← yk5]
      ·exfalso
       rcases Nat.lt_or_gt_of_ne e with hlt|hlt
       ·exact (List.pairwise_iff_getElem.1 hpw i i0 hi hi0 hlt) (by rw [hxe,yk5,hxk,h3])
       ·exact (List.pairwise_iff_getElem.1 hpw i0 i hi0 hi hlt) (by rw [hxe,yk5,hxk,h3])
    obtain ⟨zs,ho,rfl⟩:=rowElem_inv hR
    have e10:=huniq e1 hm1 hk1
    rw [e10]
    exact ⟨zs,ho,hat _,hlen e0 hm0 zs ho,fun x hx hne=>hap x hx e0 hm0 (by rw [h3];exact hne)⟩
   ·exact absurd h3 (hno e0 hm0)
 refine ⟨v0,zs,st,_,jY,hg1,hat,ho.kept hg1 (ybX ho),hzl,by simp [setBlock],?_⟩
 intro w2 v' zs' hg hown' hl' ynZ
 have hw2:w2.heap[b]?=some (.map es1 clock1):=(hg.block b (by rw [show (setBlock w b (.map es1 clock1)).heap.size=w.heap.size by simp [setBlock]];exact hblt) (fun e1=>(ybX ho).elim (fun h=>by rw [h] at e1;cases e1) (fun h=>h e1.symm))).trans hb1
 obtain ⟨es',clock',vV,hup⟩:=hst w2 v' hw2
 have hg3:w2.grownBy (setBlock w2 b (.map es' clock')) (some b):=⟨rfl,rfl,rfl,by simp [setBlock],fun i _ hi=>heap_setBlock_other hw2 _ (fun e1=>hi (by rw [e1]))⟩
 have keepx:∀ x ∈ es.toList,x.key≠key→∀ zs,w.ownsInts base e q x.val zs→(setBlock w2 b (.map es' clock')).ownsInts base e q x.val zs:=fun x hx hne zs hx0 =>
  (((hx0.kept hg1 (ybX hx0)).kept hg (hap0 x hx hne)).kept hg3 (ybX hx0))
 have hown3:(setBlock w2 b (.map es' clock')).ownsInts base e q v' zs':=hown'.kept hg3 (ybX hown')
 have hs1:∀ x ∈ es.toList,x.key≠key→∀ z,rowElem (H:=H) w base e q x.val=some z→rowElem (setBlock w2 b (.map es' clock')) base e q x.val=some z:=by
  intro x hx hne z hz1
  obtain ⟨ys,hys,rfl⟩:=rowElem_inv hz1
  exact rowElem_mk (keepx x hx hne ys hys)
 obtain ⟨es'',clock'',hrun3,F',zM,_,_,yx0⟩:=Maps.fit_store (R':=rowElem (setBlock w2 b (.map es' clock')) base e q) K ht hb F (Nat.lt_of_le_of_lt hs hn) hs1 yeY (rowElem_mk hown3)
 have hsame:es''=es'∧clock''=clock':=by
  have h:=hup.symm.trans hrun3
  have h2:setBlock w b (.map es' clock')=setBlock w b (.map es'' clock''):=by simpa using h
  have h3:(setBlock w b (.map es' clock')).heap[b]?=(setBlock w b (.map es'' clock'')).heap[b]?:=by rw [h2]
  rw [heap_setBlock_same hb,heap_setBlock_same hb] at h3
  simp only [Option.some.injEq,Obj.map.injEq] at h3
  exact ⟨h3.1.symm,h3.2.symm⟩
 obtain ⟨rfl,rfl⟩:=hsame
 have old_new:∀ x ∈ es.toList,x.key≠key→x.val.ownBlock=none∨x.val.ownBlock≠v'.ownBlock:=by
  intro x hx hne
  rcases ynZ with h1|⟨g,h1,h2⟩
  ·rw [h1]
   exact hap0 x hx hne
  ·cases hx':x.val.ownBlock with
   | none=>exact Or.inl rfl
   | some gx =>
    obtain ⟨ys,hys⟩:=owned x hx
    have:=(hys.1.lt gx hx').2
    refine Or.inr (fun e1=>?_)
    rw [h1] at e1
    cases e1
    omega
 refine ⟨_,vV,⟨es'',clock'',heap_setBlock_same hw2 _,F',?_,?_,hbb,?_,?_⟩,hg3⟩
 ·have e1:es''.size=((es''.toList.map (rg P k (rowElem (H:=H) (setBlock w2 b (.map es'' clock'')) base e q))).foldr DataW.insert []).length:=by rw [length_sorted];simp
  rw [e1,zM]
  unfold putKey
  rw [length_insert]
  have e2:=List.length_filter_le (notKey kl) ((es.toList.map (rg P k (rowElem (H:=H) w base e q))).foldr DataW.insert [])
  rw [length_sorted] at e2
  simp at e2
  omega
 ·rw [DataW.put_eq,zM]
 ·intro x hx ys hys
  rcases yx0 x hx with ⟨hx0,hne⟩|⟨_,zQ⟩
  ·obtain ⟨ys0,ho0⟩:=owned x hx0
   have:=hlen x hx0 ys0 ho0
   rw [hys.unique (keepx x hx0 hne ys0 ho0)]
   omega
  ·rw [zQ] at hys
   rw [hys.unique hown3]
   exact hl'
 ·intro x hx y hy hne
  rcases yx0 x hx with ⟨hx0,hxk⟩|⟨hxk,hxv⟩<;>rcases yx0 y hy with ⟨hy0,hyk⟩|⟨hyk,hyv⟩
  ·exact hap x hx0 y hy0 hne
  ·rw [hyv]
   exact old_new x hx0 hxk
  ·rw [hxv]
   cases hv':v'.ownBlock with
   | none=>exact Or.inl rfl
   | some g =>
    refine Or.inr (fun e1=>?_)
    rcases old_new y hy0 hyk with h|h
    ·rw [h] at e1
     cases e1
    ·exact h (by rw [hv',e1])
  ·exact absurd (hxk.trans hyk.symm) hne
end
theorem yku {H:Type} {P:Program} (w:World) {ops:Array Oper} {rest:List Oper} {o:Oper} {a:Act} {Q:Exit→Act→World→Prop}
  (hg:o.guard=none) (m x:Operand) (t:TypeId) (hop:o.op=Op.mapEntry t m x)
  (k E e:TypeId) (q:IntKind) (KL:WideMaps.KeyLaw P k) (ht:P.underlying t=some (.map k E)) (hz:∀ u:World,(zeroValue E).run P u=.ok (.slice none 0 0) u) (base b n:Nat) (D:DataW H)
  (hm:a.eval m=.map (some b)) (yR:w.ownsGroups P k base e q b n D) (hn:n<maxLen) (key:Value) (kl:Lit) (hx:a.eval x=key) (yeY:keyOf P k key=some kl)
  (hK:∀ (v:Value) (zs:List Int) (st:Nat) (w1:World),w.grownBy w1 (some b)→D.atKey kl .nil=rowDatum q v zs→w1.ownsInts base e q v zs→zs.length≤n→w1.heap.size=w.heap.size→yfA P t k base e q b n D kl v st w w1→wpList P ops Q rest (a.put o.dst (.tuple #[v,goInt st])) w1) :
  wpList P ops Q (o::rest) a w:=by
 refine wpList_plain hg fun K' hK'=>?_
 obtain ⟨v,zs,st,w1,jY,h1,h2,h3,h4,h5,h6⟩:=ykt yR KL ht hz hn yeY
 unfold Oper.wp
 simp [execOp,hop,hm,hx,jY,Result.andThen]
 exact hK' _ _ (hK v zs st w1 h1 h2 h3 h4 h5 h6)
theorem yfn {H:Type} {P:Program} (w:World) {ops:Array Oper} {rest:List Oper} {o:Oper} {a:Act} {Q:Exit→Act→World→Prop}
  (hg:o.guard=none) (m s x:Operand) (t:TypeId) (hop:o.op=Op.entryStore t m s x)
  {w0 w1:World} {k:TypeId} {base:Nat} {e:TypeId} {q:IntKind} {b n:Nat} {D:DataW H} {kl:Lit} {u v':Value} {st:Nat} {zs':List Int}
  (yd6:yfA P t k base e q b n D kl u st w0 w1) (hm:a.eval m=.map (some b)) (hs:a.eval s=goInt st) (hx:a.eval x=v')
  (hgr:w1.grownBy w u.ownBlock) (hown':w.ownsInts base e q v' zs') (hl':zs'.length≤n+1) (ynZ:v'.ownBlock=u.ownBlock∨∃ g,v'.ownBlock=some g∧w0.heap.size≤g)
  (hK:∀ w2,w2.ownsGroups P k base e q b (n+1) (D.put kl (rowDatum q v' zs'))→w.grownBy w2 (some b)→wpList P ops Q rest (a.put o.dst undef) w2) :
  wpList P ops Q (o::rest) a w:=by
 refine wpList_plain hg fun K' hK'=>?_
 obtain ⟨w2,jY,r1,r2⟩:=yd6 w v' zs' hgr hown' hl' ynZ
 unfold Oper.wp
 simp [execOp,hop,hm,hs,hx,jY,Result.andThen]
 exact hK' _ _ (hK w2 r1 r2)
end
section
def k4 (l:Lb) (i:Nat):Lb:=[l.getD i 0,l.getD (i+1) 0,l.getD (i+2) 0,l.getD (i+3) 0]
def pls (l:Lb) (m:Nat) (x:Lb):List Nat:=(List.range m).filter (fun i=>k4 l i==x)
theorem ylS (l:Lb) (m:Nat) (x:Lb):pls l (m+1) x=if k4 l m=x then pls l m x++[m] else pls l m x:=by
 rw [pls,List.range_succ,List.filter_append]
 by_cases e:k4 l m=x
 ·rw [if_pos e];simp [pls,e]
 ·rw [if_neg e];simp [pls,e]
theorem yp2 {l:Lb} {m:Nat} {x:Lb} {i:Nat}:i ∈ pls l m x↔i<m∧k4 l i=x:=by
 simp [pls,List.mem_filter]
theorem yyu (l:Lb) (m:Nat) (x:Lb):(pls l m x).Pairwise (·<·):=List.Pairwise.filter _ List.pairwise_lt_range
theorem ywS (l:Lb) (m:Nat) (x:Lb):(pls l m x).length≤m:=by
 have:=List.length_filter_le (fun i=>k4 l i==x) (List.range m)
 rwa [List.length_range] at this
theorem ywT {l:Lb} {a n x:Nat} (hn:3≤n) (hx:x≤a) (h:n<rn l a x):a+(n-3)-x ∈ pls l (l.length-3) (k4 l (a+(n-3))):=by
 have hr:=(ye6 l a x).same
 have h0:=hr (n-3) (by omega)
 have h1:=hr (n-2) (by omega)
 have h2:=hr (n-1) (by omega)
 have h3:=hr n h
 rw [yp2]
 refine ⟨by have:=h3.1;omega,?_⟩
 have e0:a+(n-3)-x=a+(n-3)-x:=rfl
 unfold k4
 have a1:a+(n-3)+1=a+(n-2):=by omega
 have a2:a+(n-3)+2=a+(n-1):=by omega
 have a3:a+(n-3)+3=a+n:=by omega
 have b1:a+(n-3)-x+1=a+(n-2)-x:=by omega
 have b2:a+(n-3)-x+2=a+(n-1)-x:=by omega
 have b3:a+(n-3)-x+3=a+n-x:=by omega
 rw [a1,a2,a3,b1,b2,b3,h0.2,h1.2,h2.2,h3.2]
structure Srch (l:Lb) (a n d N i:Nat) (ps:Nat→Nat):Prop where
 n3:3≤n
 da:d≤a
 all:∀ y,y ∈ pls l (l.length-3) (k4 l (a+(n-3)))→∃ j,j<N∧ps j=y
 up:∀ j k,j≤k→k<N→ps j≤ps k
 iN:i≤N
 lo:∀ j,j<i→ps j<a+(n-3)-d
 hi:∀ j,i≤j→j<N→a+(n-3)-d≤ps j
def ydd (l:Lb) (a n i:Nat) (ps:Nat→Nat) (r:Nat):Prop:=∀ j,i≤j+r→j<i→rn l a (a+(n-3)-ps j)≤n
theorem ydd.start (l:Lb) (a n i:Nat) (ps:Nat→Nat):ydd l a n i ps 0:=fun j h1 h2=>by omega
variable {l : Lb} {a n d N i : Nat} {ps : Nat → Nat} {r : Nat}
theorem ydd.step (h:ydd l a n i ps r) (hr:r<i) (k:rn l a (a+(n-3)-ps (i-1-r))≤n):ydd l a n i ps (r+1):=fun j h1 h2=>by
 by_cases e:j=i-1-r
 ·rw [e];exact k
 ·exact h j (by omega) h2
theorem Srch.place (s:Srch l a n d N i ps) {x:Nat} (h1:d<x) (h2:x≤a) (h3:n<rn l a x):∃ j,j<i∧ps j=a+(n-3)-x:=by
 obtain ⟨j,hj,e⟩:=s.all _ (ywT s.n3 h2 h3)
 refine ⟨j,?_,e⟩
 rcases Nat.lt_or_ge j i with h|h
 ·exact h
 ·have:=s.hi j h hj;omega
theorem ydd.done (s:Srch l a n d N i ps) (h:ydd l a n i ps i):ycF l a n d:=fun x h1 h2=>by
 rcases Nat.lt_or_ge n (rn l a x) with h3|h3
 ·obtain ⟨j,hj,e⟩:=s.place h1 h2 h3
  have:=h j (by omega) hj
  rwa [e,show a+(n-3)-(a+(n-3)-x)=x by omega] at this
 ·exact h3
theorem ydd.cut (s:Srch l a n d N i ps) (h:ydd l a n i ps r) (hr:r<i) (k:ps (i-1-r)<n-3):ycF l a n d:=fun x h1 h2=>by
 rcases Nat.lt_or_ge n (rn l a x) with h3|h3
 ·obtain ⟨j,hj,e⟩:=s.place h1 h2 h3
  have hjr:i≤j+r:=by
   rcases Nat.lt_or_ge (j+r) i with h4|h4
   ·have:=s.up j (i-1-r) (by omega) (by have:=s.iN;omega);omega
   ·exact h4
  have:=h j hjr hj
  rwa [e,show a+(n-3)-(a+(n-3)-x)=x by omega] at this
 ·exact h3
theorem ydd.found (s:Srch l a n d N i ps) (h:ydd l a n i ps r) (hr:r<i) (hk:n-3≤ps (i-1-r)) (k:n<rn l a (a+(n-3)-ps (i-1-r))):NextAt l a n d (rn l a (a+(n-3)-ps (i-1-r))) (a+(n-3)-ps (i-1-r)):=by
 have hlo:=s.lo (i-1-r) (by omega)
 have hda:=s.da
 refine ⟨by omega,by omega,rfl,k,fun x h1 h2=>?_⟩
 rcases Nat.lt_or_ge n (rn l a x) with h3|h3
 ·obtain ⟨j,hj,e⟩:=s.place h1 (by omega) h3
  have hjr:i≤j+r:=by
   rcases Nat.lt_or_ge (j+r) i with h4|h4
   ·have:=s.up j (i-1-r) (by omega) (by have:=s.iN;omega);omega
   ·exact h4
  have:=h j hjr hj
  rwa [e,show a+(n-3)-(a+(n-3)-x)=x by omega] at this
 ·exact h3
end
section
open Go.RowKit Go.Maps Go.ChangeShapes Go.WideMaps
theorem yxe:ArrKey Tryz.prog 79 5 4:=⟨Tryz.underlying79,by kernel_rfl,by kernel_rfl,by kernel_rfl⟩
theorem yxf:KeyLaw Tryz.prog 79:=yxe.law
theorem yji (w:World):(zeroValue 194).run Tryz.prog w=.ok (.slice none 0 0) w:=by kernel_rfl
theorem yhx:∃ m,Tryz.prog.types.size=m+1:=⟨Tryz.prog.types.size-1,by
 have:0<Tryz.prog.types.size:=of_decide_eq_true (by kernel_rfl)
 omega⟩
theorem ynE (x:UInt8):(Lit.int .u8 (x.toNat:Int)).wf=true:=by
 have:=x.toNat_lt
 have h1:IntKind.u8.min=0:=by decide
 have h2:IntKind.u8.max=255:=by decide
 simp only [Lit.wf,h1,h2]
 simp
 omega
theorem yyv (x:UInt8):Lit.keyBytes (.int .u8 (x.toNat:Int))=[x]:=by
 have:=x.toNat_lt
 have e:(((x.toNat:Nat):Int)%2^8).toNat=x.toNat:=by omega
 show bytesBE 1 (((x.toNat:Nat):Int)%2^8).toNat=[x]
 rw [e]
 simp only [bytesBE,bytesLE,List.reverse_cons,List.reverse_nil,List.nil_append]
 rw [Nat.mod_eq_of_lt this,UInt8.ofNat_toNat]
theorem ype (x0 x1 x2 x3:UInt8):keyOf Tryz.prog 79 (.agg #[.int .u8 (x0.toNat:Int),.int .u8 (x1.toNat:Int),.int .u8 (x2.toNat:Int),.int .u8 (x3.toNat:Int)])=some (.string [x0,x1,x2,x3]):=by
 have A:=yxe
 have hkt:=A.keyType yhx
 obtain ⟨m,hm⟩:=yhx
 have w0:=ynE x0
 have w1:=ynE x1
 have w2:=ynE x2
 have w3:=ynE x3
 have hk:keyBytes [.int .u8 (x0.toNat:Int),.int .u8 (x1.toNat:Int),.int .u8 (x2.toNat:Int),.int .u8 (x3.toNat:Int)]=[x0,x1,x2,x3]:=by
  simp only [keyBytes,List.flatMap_cons,List.flatMap_nil,yyv,List.append_nil,List.cons_append,List.nil_append]
 rw [← hk]
 unfold keyOf
 simp only [A.hu]
 rw [if_pos (by simp [hkt,Value.formed,A.hu,A.size]),hm]
 unfold Program.keyLits
 simp only [A.hu,Value.cells]
 rw [if_pos (by rw [A.size];rfl),show List.range 4=[0,1,2,3] from rfl,List.mapM_cons,List.mapM_cons,List.mapM_cons,List.mapM_cons,List.mapM_nil]
 simp [A.one,Program.keyLits,Tryz.underlying5,w0,w1,w2,w3]
theorem ylT (l:Lb) (i:Nat):keyOf Tryz.prog 79 (yrD l i)=some (.string (k4 l i)):=ype _ _ _ _
def plI (l:Lb) (m:Nat) (x:Lb):List Int:=(pls l m x).map Int.ofNat
def itm {H:Type}:DataW H→List (DataW H)
 | .slice xs _=>xs
 | _=>[]
theorem yp3 {H:Type} {w:World} {base:Nat} {e:TypeId} {v:Value} {zs:List Int} (h:w.ownsInts base e .i64 v zs):itm (rowDatum (H:=H) .i64 v zs)=lits .i64 zs:=by
 rcases h.datum (H:=H) with ⟨h1,rfl⟩|h1<;>rw [h1]<;>rfl
theorem yuB {H:Type} {a b:List Int} (h:(lits (H:=H) .i64 a)=lits .i64 b):a=b:=by
 unfold lits at h
 refine (List.map_inj_right fun x y hxy=>?_).1 h
 simpa using hxy
structure Gm (l:Lb) (m:Nat) (D:DataW Unit):Prop where
 map:IsMap D
 items:∀ x:Lb,itm (D.atKey (.string x) .nil)=lits .i64 (plI l m x)
theorem Gm.start (l:Lb):Gm l 0 (.map []):=⟨isMap_empty,fun _=>rfl⟩
theorem Gm.group {l:Lb} {m:Nat} {D:DataW Unit} (h:Gm l m D) {w:World} {base:Nat} {e:TypeId} {v:Value} {zs:List Int} {x:Lb} (ho:w.ownsInts base e .i64 v zs) (hat:D.atKey (.string x) .nil=rowDatum .i64 v zs):zs=plI l m x:=by
 have e:=h.items x
 rw [hat,yp3 ho] at e
 exact yuB e
theorem Gm.put {l:Lb} {m:Nat} {D:DataW Unit} (h:Gm l m D) {w:World} {base:Nat} {e:TypeId} {v:Value} {zs:List Int} (hz:zs=plI l m (k4 l m)) (ho:w.ownsInts base e .i64 v (zs++[(m:Int)])):Gm l (m+1) (D.put (.string (k4 l m)) (rowDatum .i64 v (zs++[(m:Int)]))):=by
 subst hz
 have hk:WideAt.IsKeyLit (.string (k4 l m)):=by trivial
 refine ⟨h.map.put _ _,fun x=>?_⟩
 by_cases e:x=k4 l m
 ·subst e
  rw [atKey_put_same h.map hk,yp3 ho,plI,plI,ylS,if_pos rfl,List.map_append];rfl
 ·rw [atKey_put_other (by simpa using e),h.items x,plI,plI,ylS,if_neg (fun h1=>e h1.symm)]
end
end Go.Proofs.YtgepehlpjpccaaaGreatDoor
