/- The document's Minus, Cmp, Whole. -/
import Derived.Test.YtlcpcpmlfegejaaGreatDoorGB
import Derived.Test.YtlcpcpmlfegejaaGreatDoorZ05
import Derived.Test.YtlcpcpmlfegejaaGreatDoorZRM
import Derived.Test.YtlcpcpmlfegejaaGreatDoorZRC
import Derived.OwnWalk
import Derived.Test.YtlcpcpmlfegejaaGreatDoorZVF
set_option maxHeartbeats 3200000
set_option maxRecDepth 100000
namespace Go.Proofs.YtlcpcpmlfegejaaGreatDoor
open Go.RowKit Big
theorem plus_any (x y:Value) (a b:Rat) (K L:Nat) (w:World) (hK:K+L+1≤900000) (hab:QLt K a) (hbb:QLt L b) (hx:QAt w x a) (hy:QAt w y b):Calls Tryz.prog 87 #[x,y] w (QPost (a+b) w):=by
 by_cases h:decide (a.num<0)=decide (b.num<0)
 ·exact plus_same x y a b K L w hK hab hbb hx hy h
 ·by_cases h2:b.num.natAbs*a.den≤a.num.natAbs*b.den
  ·exact plus_ge9 x y a b K L w hK hab hbb hx hy h h2
  ·exact plus_lt9 x y a b K L w hK hab hbb hx hy h (by omega)
theorem QAt.dr {w:World} {v:Value} {x:Rat} (h:QAt w v x):QAt w.drew v x:=h.below (Below.refl _ _).drew
theorem minus_any (x y:Value) (a b:Rat) (K L:Nat) (w:World) (hK:K+L+1≤900000) (hab:QLt K a) (hbb:QLt L b) (hx:QAt w x a) (hy:QAt w y b):Calls Tryz.prog 153 #[x,y] w (QPost (a-b) w):=by
 obtain ⟨sb,hsb⟩:∃ sb,Hid (sb=decide ((a-b).num<0)):=⟨_,hiD rfl⟩
 obtain ⟨tb,htb⟩:∃ tb,Hid (tb=decide ((-b).num<0)):=⟨_,hiD rfl⟩
 have hop:Hid (∀ W,Below w.heap.size w W→Calls Tryz.prog 183 #[y] W (QPostB (-b) tb W)):=hiD fun W hW=>(opp_any y b W (hy.below hW)).mono fun e w' h=>h.b htb.out
 have hpl:Hid (∀ W z,Below w.heap.size w W→QAt W z (-b)→Calls Tryz.prog 87 #[x,z] W (QPostB (a-b) sb W)):=hiD fun W z hW hz=>by
  have h:=plus_any x z a (-b) K L W hK hab hbb.neg (hx.below hW) hz
  rw [← Rat.sub_eq_add_neg] at h
  exact h.mono fun e w' h=>h.b hsb.out
 obtain ⟨u1,v1,rfl,hu1,hv1⟩:=hx
 obtain ⟨u2,v2,rfl,hu2,hv2⟩:=hy
 obtain ⟨s,hs⟩:∃ s,Hid (s=decide (a.num<0)):=⟨_,hiD rfl⟩
 obtain ⟨t,ht⟩:∃ t,Hid (t=decide (b.num<0)):=⟨_,hiD rfl⟩
 rw [← hs.out] at hpl ⊢
 rw [← ht.out] at hop ⊢
 have htwo:=Twa.start w s u1 v1 t u2 v2
 have Htwo:=hiD htwo
 obtain ⟨-,c0,c1,c2,c3,c4,c5⟩:=htwo.all
 clear htwo hv1 hv2 hab hbb hu1 hu2
 go_enter Tryz.func153,Tryz.ntmps153
 go_wp2_with fail
 go_region_held3 (fun w'=>Twa w.heap.size s u1 v1 t u2 v2 w w'∧w'.cell? ⟨w.heap.size,0,none⟩=some (.bool s)∧w'.cell? ⟨w.heap.size,1,none⟩=some u1∧w'.cell? ⟨w.heap.size,2,none⟩=some v1∧w'.cell? ⟨w.heap.size+1,0,none⟩=some (.bool t)∧w'.cell? ⟨w.heap.size+1,1,none⟩=some u2∧w'.cell? ⟨w.heap.size+1,2,none⟩=some v2)
  (first|exact Twa.all (Twa.drew Htwo.out)|exact Twa.all Htwo.out|(go_split_ands;exact Twa.all (Twa.next (by assumption) hb1))|(go_split_ands;exact Twa.all (Twa.next (by assumption) hb2))|(go_split_ands;exact Twa.all (Twa.put3 (by assumption) (Nat.le_refl _) _ _ _ _ _ _ _))|go_keep)
  (first|(go_at_call 183;go_split_ands;refine (hop.out _ (Twa.below (by assumption))).mono ?_;rintro e w1 ⟨p1,n1,c1,p2,n2,c2,rfl,ho1,ho2,hb1⟩)|(go_at_call 87;go_split_ands;refine (hpl.out _ _ (Twa.below (by assumption)) ⟨_,_,by rw [htb.out],ho1,ho2⟩).mono ?_;rintro e w2 ⟨pr,nr,cr,pq,nq,cq,rfl,hr1,hr2,hb2⟩;have htw:=Twa.next (by assumption) hb2;obtain ⟨z0,z1,z2,k0,k1,k2,f0,f1,f2⟩:=Twa.slots htw))
 go_wp2_with fail
 have hfin:=hiD (htw.fin (Nat.le_refl _) hsb.out hr1 hr2)
 refine bodyPost_ret (v:=.agg #[.bool sb,.slice pr nr cr,.slice pq nq cq]) (by simp [results,Tryz.results153,go_sem,k0,k1,k2]) rfl ?_
 exact hfin.out
theorem cmp_any (x y:Value) (a b:Rat) (K L:Nat) (w:World) (hK:K+L+1≤900000) (hab:QLt K a) (hbb:QLt L b) (hx:QAt w x a) (hy:QAt w y b):Calls Tryz.prog 119 #[x,y] w fun e w'=>e=.returned (.int .i64 (sgnQ (a-b)))∧Below w.heap.size w w':=by
 have hmi:Hid (∀ W,Below w.heap.size w W→Calls Tryz.prog 153 #[x,y] W (QPost (a-b) W)):=hiD fun W hW=>minus_any x y a b K L W hK hab hbb (hx.below hW) (hy.below hW)
 have hsg:Hid (∀ W z,QAt W z (a-b)→Calls Tryz.prog 152 #[z] W fun e w'=>e=.returned (.int .i64 (sgnQ (a-b)))∧Below W.heap.size W w'):=hiD fun W z hz=>sgn_any z _ W hz
 have hW:∀ o1 o2,Hid (Below w.heap.size w ((w.alloc o1).alloc o2)):=fun o1 o2=>hiD ((below_alloc9 w o1).trans ((below_alloc9 _ o2).mono (below_alloc9 w o1).size))
 obtain ⟨p,n,c,p2,n2,c2,rfl,-,-⟩:=hx.slices
 obtain ⟨q,m,d,q2,m2,d2,rfl,-,-⟩:=hy.slices
 clear hx hy hab hbb
 obtain ⟨s,hs⟩:∃ s,Hid (s=decide (a.num<0)):=⟨_,hiD rfl⟩
 obtain ⟨t,ht⟩:∃ t,Hid (t=decide (b.num<0)):=⟨_,hiD rfl⟩
 rw [← hs.out,← ht.out] at hmi ⊢
 go_enter Tryz.func119,Tryz.ntmps119
 go_wp2_with fail
 refine (hmi.out _ (hW _ _).out).mono ?_
 rintro e w1 ⟨z,rfl,hz,hb1⟩
 have hs1:=hiD (hsg.out w1 z hz)
 obtain ⟨p3,n3,c3,p4,n4,c4,rfl,-,-⟩:=hz.slices
 have Hb1:=hiD ((hW _ _).out.trans (hb1.mono (hW _ _).out.size))
 clear hz hb1
 obtain ⟨sz,hsz⟩:∃ sz,Hid (sz=decide ((a-b).num<0)):=⟨_,hiD rfl⟩
 rw [← hsz.out] at hs1 ⊢
 go_wp2_with fail
 refine hs1.out.mono ?_
 rintro e w2 ⟨rfl,hb2⟩
 have Hb2:=hiD (Hb1.out.trans (hb2.mono Hb1.out.size))
 clear hb2
 go_wp2_with fail
 go_ret
 exact ⟨rfl,Hb2.out⟩
end Go.Proofs.YtlcpcpmlfegejaaGreatDoor
set_option maxHeartbeats 8000000
set_option maxRecDepth 100000
namespace Go.Proofs.YtlcpcpmlfegejaaGreatDoor
open Go.RowKit Big
open Go.Lib Go.Shelf
structure SumB (B:Nat) (w0 W:World) (q:Rat):Prop where
 box:Resa B w0 W
 num:∃ s p n c r m d,W.heap[B]?=some (.cells #[.bool s,.slice p n c,.slice r m d] 100 (0,0))∧QAt W (.agg #[.bool s,.slice p n c,.slice r m d]) q
theorem SumB.next {B:Nat} {w0 W W':World} {q:Rat} (h:SumB B w0 W q) (hb:Below W.heap.size W W'):SumB B w0 W' q:=by
 obtain ⟨s,p,n,c,r,m,d,h1,h2⟩:=h.num
 exact ⟨h.box.next hb,s,p,n,c,r,m,d,(hb.block _ (by have:=h.box.size;omega)).trans h1,h2.below hb⟩
theorem SumB.put {B:Nat} {w0 W:World} {q q':Rat} (h:SumB B w0 W q) (hB:w0.heap.size≤B) {s:Bool} {p r:Option Addr} {n c m d:Nat} (hq:QAt W (.agg #[.bool s,.slice p n c,.slice r m d]) q'):SumB B w0 (((W.setCell ⟨B,0,none⟩ (.bool s)).setCell ⟨B,1,none⟩ (.slice p n c)).setCell ⟨B,2,none⟩ (.slice r m d)) q':=by
 refine ⟨h.box.put3 hB _ _ _ _ _ _ _,s,p,n,c,r,m,d,?_,?_⟩
 ·obtain ⟨s',p',n',c',r',m',d',h1,-⟩:=h.num
  have e1:=heap_set B 0 _ 100 (.bool s) h1
  have e2:=heap_set B 1 _ 100 (.slice p n c) e1
  have e3:=heap_set B 2 _ 100 (.slice r m d) e2
  rw [e3];rfl
 ·obtain ⟨u,v,e,hu,hv⟩:=hq
  exact ⟨u,v,e,h.box.nat3 hB hu _ _ _ _ _ _ _,hv.imp (fun hv=>h.box.nat3 hB hv _ _ _ _ _ _ _) fun hv=>⟨h.box.nat3 hB hv.1 _ _ _ _ _ _ _,hv.2⟩⟩
theorem SumB.start (w:World):SumB w.heap.size w (w.alloc (.cells #[.bool false,.slice none 0 0,.slice none 0 0] 100)) 0 :=
 ⟨Resa.start w,false,none,0,0,none,0,0,heap_new _ _,.slice none 0 0,.slice none 0 0,rfl,Nat9.zero _,.inr ⟨Nat9.zero _,rfl⟩⟩
theorem sumQ_snoc (l:List Rat) (q:Rat):sumQ (l++[q])=sumQ l+q:=by
 rw [sumQ_append];simp [sumQ,Rat.add_zero]
theorem rtotal_walk (p:Option Addr) (n c:Nat) (ss:List (List UInt8)) (w:World) (hl:ss.length=n) (hn:n≤1000) (h:RdSQ w p ss)
  (HG:Hid (∀ (s:ByteArray) (W:World),Calls Tryz.prog 112 #[.string s] W fun e w'=>∃ b p n c r m d,e=.returned (.tuple #[.agg #[.bool b,.slice p n c,.slice r m d],.bool (num s.data.toList).isSome])∧Below W.heap.size W w'∧∀ q,num s.data.toList=some q→QAt w' (.agg #[.bool b,.slice p n c,.slice r m d]) q))
  (HLT:Hid (∀ i,QLt 7000 (sumQ (numsL (ss.take i))))) (HNL:Hid (∀ l q,num l=some q→QLt 5 q)) :
  Calls Tryz.prog 71 #[.slice p n c] w fun e w'=>∃ s p n c r m d,e=.returned (.tuple #[.agg #[.bool s,.slice p n c,.slice r m d],.int .i64 ((numsL ss).length:Nat)])∧QAt w' (.agg #[.bool s,.slice p n c,.slice r m d]) (sumQ (numsL ss))∧Below w.heap.size w w':=by
 have HR:=hiD h
 have HL:=hiD hl
 have hn1:(n:Int)≤1000:=by omega
 obtain ⟨W1,HW1⟩:∃ W1,Hid (w.alloc (.cells #[.bool false,.slice none 0 0,.slice none 0 0] 100)=W1):=⟨_,hiD rfl⟩
 have HRES:Hid (Resa w.heap.size w W1):=hiD (by rw [← HW1.out];exact Resa.start w)
 obtain ⟨G,HGE⟩:∃ G,Hid (w.heap.size+1=G):=⟨_,hiD rfl⟩
 have HG1:Hid (W1.heap.size=G):=hiD (by rw [← HW1.out,← HGE.out];simp)
 obtain ⟨W2,HW2⟩:∃ W2,Hid (W1.alloc (.cells #[.bool false,.slice none 0 0,.slice none 0 0] 100)=W2):=⟨_,hiD rfl⟩
 have HS:Hid (SumB G W1 W2 (sumQ (numsL (ss.take 0)))):=hiD (by rw [← HW2.out,← HG1.out];exact SumB.start W1)
 clear h hl
 go_enter Tryz.func71,Tryz.ntmps71
 go_wp2_with fail
 rw [HW1.out,HW2.out,HGE.out]
 go_loopw [5,12] (fun kv iv wr=>∃ (i k:Nat),i≤n∧(k≤i∧Hid (k=(numsL (ss.take i)).length))∧kv=.int .i64 (k:Int)∧iv=.int .i64 (i:Int)∧Hid (SumB G W1 wr (sumQ (numsL (ss.take i))))) (fun _ iv _=>n-(intOf iv).toNat)
 case atStart=>exact ⟨0,0,Nat.zero_le _,⟨Nat.le_refl _,hiD rfl⟩,rfl,rfl,HS⟩
 case round =>
  obtain ⟨i,k,hin,⟨hki,HK⟩,rfl,rfl,hs⟩:=hrel
  have HB:=hiD hs.out
  clear hs HS
  have HB1:Hid (Below w.heap.size w wr):=hiD ((HRES.out.below).trans (HB.out.box.below.mono (HRES.out.below.size)))
  obtain ⟨s0,p0,n0,c0,r0,m0,d0,hblk,hq0⟩:=HB.out.num
  by_cases hlt:i<n
  ·obtain ⟨b,off,rfl,hbl,hcell⟩:∃ b off,p=some ⟨b,off,none⟩∧b<w.heap.size∧∀ j,j<ss.length→w.cell? ⟨b,off+j,none⟩=some (.string ⟨(ss.getD j []).toArray⟩):=by
    rcases HR.out with h|h
    ·have:=HL.out;rw [h] at this;simp at this;omega
    ·exact h
   obtain ⟨s,HS⟩:∃ s:ByteArray,Hid ((⟨(ss.getD i []).toArray⟩:ByteArray)=s):=⟨_,hiD rfl⟩
   have s1:wr.cell? ⟨b,off+i,none⟩=some (.string s):=by
    rw [← HS.out]
    exact (HB1.out.cell (p:=⟨b,off+i,none⟩) hbl).trans (hcell i (by have:=HL.out;omega))
   have HSD:Hid (s.data.toList=ss.getD i []):=hiD (by rw [← HS.out])
   clear hcell hblk hq0
   have hi0:(0:Int)≤(i:Int):=by omega
   have hi1:(i:Int)<(n:Int):=by omega
   have HRD:=hiD (HG.out s wr)
   rw [HSD.out] at HRD
   have HTK:=hiD (numsL_take (ss:=ss) (i:=i) (by have:=HL.out;omega))
   go_wp2_with fail
   refine HRD.out.mono ?_
   rintro e w2 ⟨xb,xp,xn,xc,xr,xm,xd,rfl,hb2,hq⟩
   have HB2:=hiD hb2
   have HQ:=hiD hq
   clear hb2 hq
   obtain ⟨W4,HW4⟩:∃ W4,Hid (w2.alloc (.cells #[.bool xb,.slice xp xn xc,.slice xr xm xd] 100)=W4):=⟨_,hiD rfl⟩
   have HB4:Hid (Below w2.heap.size w2 W4):=hiD (by rw [← HW4.out];exact bea _ _)
   have HX4:Hid (W4.heap[w2.heap.size]?=some (.cells #[.bool xb,.slice xp xn xc,.slice xr xm xd] 100 (0,0))):=hiD (by rw [← HW4.out];exact heap_new _ _)
   have HSB4:=hiD ((HB.out.next HB2.out).next HB4.out)
   cases hnq:num (ss.getD i []) with
   | none =>
    rw [hnq] at HTK HQ
    go_wp2_with fail
    rw [HW4.out]
    have HEND:Hid (SumB G W1 W4 (sumQ (numsL (ss.take (i+1))))):=hiD (by
     rw [HTK.out]
     simp only [Option.toList_none,List.append_nil]
     exact HSB4.out)
    go_roundw
    case rel=>exact ⟨i+1,k,by omega,⟨by omega,hiD (by rw [HTK.out,List.length_append,← HK.out];rfl)⟩,rfl,by go_num,HEND⟩
    case measure=>simp [intOf];omega
   | some q =>
    rw [hnq] at HTK HQ
    have HQ2:=hiD ((HQ.out q rfl).below HB4.out)
    obtain ⟨s0,p0,n0,c0,r0,m0,d0,hblk,hq0⟩:=HSB4.out.num
    have f0:=ceh hblk 0
    have f1:=ceh hblk 1
    have f2:=ceh hblk 2
    have g0:=ceh HX4.out 0
    have g1:=ceh HX4.out 1
    have g2:=ceh HX4.out 2
    simp only [List.getElem?_toArray,List.getElem?_cons_succ,List.getElem?_cons_zero] at f0 f1 f2 g0 g1 g2
    have HP:=hiD (plus_any _ _ _ _ 7000 5 W4 (by omega) (HLT.out i) (HNL.out _ _ hnq) hq0 HQ2.out)
    clear hblk hq0
    go_upto_region 7 with fail
    rw [HW4.out]
    go_wp2_with fail
    refine HP.out.mono ?_
    rintro e w5 ⟨z,rfl,hz,hb5⟩
    obtain ⟨y1,y2,y3,y4,y5,y6,rfl,-,-⟩:=hz.slices
    have HSB5:=hiD (HSB4.out.next hb5)
    have HZ:=hiD hz
    obtain ⟨z0,z1,z2,l0,l1,l2,e0,e1,e2⟩:=HSB5.out.box.slots
    have HEND:Hid (∀ W9,W9=(((w5.setCell ⟨G,0,none⟩ (.bool (decide ((sumQ (numsL (ss.take i))+q).num<0)))).setCell ⟨G,1,none⟩ (.slice y1 y2 y3)).setCell ⟨G,2,none⟩ (.slice y4 y5 y6))→SumB G W1 W9 (sumQ (numsL (ss.take (i+1))))):=hiD (by
     rintro W9 rfl
     rw [HTK.out]
     simp only [Option.toList_some]
     rw [sumQ_snoc]
     exact HSB5.out.put (by rw [HG1.out];exact Nat.le_refl _) HZ.out)
    clear hz hb5
    generalize hdec:decide ((sumQ (numsL (ss.take i))+q).num<0)=dz at HEND ⊢
    clear hdec
    go_wp2_with fail
    go_roundw
    case rel=>exact ⟨i+1,k+1,by omega,⟨by omega,hiD (by rw [HTK.out,List.length_append,← HK.out];rfl)⟩,by go_num,by go_num,hiD (HEND.out _ rfl)⟩
    case measure=>simp [intOf];omega
  ·obtain rfl:i=n:=by omega
   have HTE:Hid (numsL (ss.take i)=numsL ss):=hiD (by rw [List.take_of_length_le (by have:=HL.out;omega)])
   have f0:=ceh hblk 0
   have f1:=ceh hblk 1
   have f2:=ceh hblk 2
   simp only [List.getElem?_toArray,List.getElem?_cons_succ,List.getElem?_cons_zero] at f0 f1 f2
   have HRA:=hiD (HRES.out.next HB.out.box.below)
   have HQ0:=hiD hq0
   clear hblk hq0
   obtain ⟨z0,z1,z2,l0,l1,l2,e0,e1,e2⟩:=HRA.out.slots
   have HEN:Hid (∀ W9,W9=(((wr.setCell ⟨w.heap.size,0,none⟩ (.bool s0)).setCell ⟨w.heap.size,1,none⟩ (.slice p0 n0 c0)).setCell ⟨w.heap.size,2,none⟩ (.slice r0 m0 d0))→QAt W9 (.agg #[.bool s0,.slice p0 n0 c0,.slice r0 m0 d0]) (sumQ (numsL ss))∧Below w.heap.size w W9):=hiD (by
    rintro W9 rfl
    rw [← HTE.out]
    obtain ⟨u,v,e,hu,hv⟩:=HQ0.out
    exact ⟨⟨u,v,e,HRA.out.nat3 (Nat.le_refl _) hu _ _ _ _ _ _ _,hv.imp (fun hv=>HRA.out.nat3 (Nat.le_refl _) hv _ _ _ _ _ _ _) fun hv=>⟨HRA.out.nat3 (Nat.le_refl _) hv.1 _ _ _ _ _ _ _,hv.2⟩⟩,(HRA.out.put3 (Nat.le_refl _) _ _ _ _ _ _ _).below⟩)
   go_wp2_with fail
   refine bodyPost_ret (v:=.tuple #[.agg #[.bool s0,.slice p0 n0 c0,.slice r0 m0 d0],.int .i64 k]) (by simp [results,Tryz.results71,go_sem,l0,l1,l2]) rfl ?_
   obtain ⟨h1,h2⟩:=HEN.out _ rfl
   have hk:(numsL ss).length=k:=by rw [HK.out,HTE.out]
   exact ⟨s0,p0,n0,c0,r0,m0,d0,by rw [hk],h1,h2⟩
end Go.Proofs.YtlcpcpmlfegejaaGreatDoor
namespace Go.Proofs.YtlcpcpmlfegejaaGreatDoor
open Go.RowKit Big
open Go.Lib Go.Shelf
theorem RdSQ.take {W:World} {p:Option Addr} {ss:List (List UInt8)} (h:RdSQ W p ss) (k:Nat):RdSQ W p (ss.take k):=by
 rcases h with h|⟨b,off,h1,h2,h3⟩
 ·left;rw [h];simp
 ·refine .inr ⟨b,off,h1,h2,fun j hj=>?_⟩
  rw [List.length_take] at hj
  rw [h3 j (by omega),List.getD_eq_getElem?_getD,List.getD_eq_getElem?_getD,List.getElem?_take_of_lt (by omega)]
theorem RdSQ.drop {W:World} {b off:Nat} {ss:List (List UInt8)} (h:RdSQ W (some ⟨b,off,none⟩) ss) (k:Nat) {p:Option Addr} (hp:k<ss.length→p=some ⟨b,off+k,none⟩):RdSQ W p (ss.drop k):=by
 by_cases hk:k<ss.length
 ·rw [hp hk]
  rcases h with h|⟨b',off',h1,h2,h3⟩
  ·rw [h] at hk;simp at hk
  ·cases h1
   refine .inr ⟨b,off+k,rfl,h2,fun j hj=>?_⟩
   rw [List.length_drop] at hj
   rw [Nat.add_assoc,h3 (k+j) (by omega),List.getD_eq_getElem?_getD,List.getD_eq_getElem?_getD,List.getElem?_drop]
 ·left
  rw [List.drop_eq_nil_of_le (by omega)]
theorem numsL_append (a b:List (List UInt8)):numsL (a++b)=numsL a++numsL b:=List.filterMap_append ..
end Go.Proofs.YtlcpcpmlfegejaaGreatDoor
namespace Go.Proofs.YtlcpcpmlfegejaaGreatDoor
open Go.RowKit Big
open Go.Lib Go.Shelf
theorem NRow.ne {W:World} {base:Nat} {e:TypeId} {size:Nat} {v:Value} {n:Nat} {xs:List Value} (h:NRow W base e size v n xs) (h0:0<n):v≠.slice none 0 0:=by
 obtain ⟨⟨-,h⟩,-⟩:=h
 rcases h with h|⟨g,cap,cur,rfl,-⟩
 ·omega
 ·simp
theorem NRow.own {W:World} {base:Nat} {e:TypeId} {size:Nat} {v:Value} {n:Nat} {xs:List Value} (h:NRow W base e size v n xs) {k:Nat} (hk:v.ownBlock=some k):base≤k:=by
 obtain ⟨⟨-,h⟩,-⟩:=h
 rcases h with ⟨rfl,-⟩|⟨g,cap,cur,rfl,hb,-⟩
 ·cases hk
 ·simp only [Value.ownBlock,Option.some.injEq] at hk
  omega
end Go.Proofs.YtlcpcpmlfegejaaGreatDoor
set_option maxHeartbeats 3200000
set_option maxRecDepth 100000
namespace Go.Proofs.YtlcpcpmlfegejaaGreatDoor
open Go.RowKit Big
open Go.Lib
theorem put_any (x:Value) (q:Rat) (K:Nat) (w:World) (hK:K≤900000) (hq:QLt K q) (hx:QAt w x q):Calls Tryz.prog 72 #[x] w fun e w'=>e=.returned (.string ⟨(txt q).toArray⟩)∧Below w.heap.size w w':=by
 have htx:=hiD (fun W (hW:Below w.heap.size w W)=>text_q x q K W hK hq (hx.below hW))
 obtain ⟨p,n,c,p2,n2,c2,rfl,-,-⟩:=hx.slices
 obtain ⟨s,hs⟩:∃ s,Hid (s=decide (q.num<0)):=⟨_,hiD rfl⟩
 rw [← hs.out] at htx ⊢
 obtain ⟨y,hy⟩:∃ y:ByteArray,Hid (y=⟨(txt q).toArray⟩):=⟨_,hiD rfl⟩
 obtain ⟨f,hf⟩:∃ f,Hid (f=!(txt q).isEmpty):=⟨_,hiD rfl⟩
 unfold TextPost9 at htx
 rw [← hy.out,← hf.out] at htx
 rw [← hy.out]
 clear hx hq
 go_enter Tryz.func72,Tryz.ntmps72
 go_wp2_with fail
 refine (htx.out _ (below_alloc9 _ _)).mono ?_
 rintro e w1 ⟨rfl,hb1⟩
 have Hb1:=hiD ((below_alloc9 w _).trans (hb1.mono (below_alloc9 w _).size))
 clear hb1
 go_wp2_with fail
 go_ret
 exact ⟨rfl,Hb1.out⟩
end Go.Proofs.YtlcpcpmlfegejaaGreatDoor
