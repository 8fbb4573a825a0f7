/- The document's Get. -/
import Derived.Test.YtlcpcpmlfegejaaGreatDoorRg
import Derived.Outline
import Derived.Test.YtlcpcpmlfegejaaGreatDoorGB
import Derived.WalkKit
import Derived.WalkSpells
import Derived.WalkLawsBesides
import Derived.Lib.Hide
import Derived.Laws.Externs
import Derived.Shelf.Spec.BitsCarry
import Derived.Laws.CopyOwn
import Derived.Deep.QuietTactic
import Derived.BigQuiet
import Derived.Laws.BitsAllLaws
import Derived.Deep.LoopGhost
import Derived.Deep.RegionHeld3
import Derived.Deep.RegionWith
set_option maxHeartbeats 3200000
set_option maxRecDepth 100000
namespace Go.Proofs.YtlcpcpmlfegejaaGreatDoor
open Go.RowKit Big
open Go.Lib
theorem get_long (s:ByteArray) (w:World) (h82:(82:Int)<s.size):Calls Tryz.prog 112 #[.string s] w (FlagPost 0 false w):=by
 have hres:=hiD (Resa.start w)
 go_enter Tryz.func112,Tryz.ntmps112
 go_wp2_with fail
 refine bodyPost_ret (v:=.tuple #[.agg #[.bool false,.slice none 0 0,.slice none 0 0],.bool false]) ?h1 rfl ?h2
 case h1=>simp [results,Tryz.results112,go_sem]
 exact ⟨_,_,_,_,_,_,_,rfl,hres.out.below,fun h=>by cases h⟩
theorem get_none (s:ByteArray) (q:Rat) (w:World) (h82:(s.size:Int)≤82) (hpl:∀ W,Hid (Calls Tryz.prog 147 #[.string s] W (PlainPost none W))):Calls Tryz.prog 112 #[.string s] w (FlagPost q false w):=by
 have hres:=hiD (Resa.start w)
 go_enter Tryz.func112,Tryz.ntmps112
 go_wp2_with fail
 refine (hpl _).out.mono ?_
 rintro e w1 ⟨q1,b,p,n,c,p2,n2,c2,rfl,hb1,-⟩
 have hr2:=hiD ((hres.out.next hb1).next (below_alloc9 w1 (.cells #[.bool b,.slice p n c,.slice p2 n2 c2] 100)))
 obtain ⟨z0,z1,z2,l0,l1,l2,f0,f1,f2⟩:=hr2.out.slots
 have q3:=hiD (hr2.out.put3 (Nat.le_refl _) false none none 0 0 0 0).below
 clear hb1
 go_wp2_with fail
 refine bodyPost_ret (v:=.tuple #[.agg #[.bool false,.slice none 0 0,.slice none 0 0],.bool false]) ?h1 rfl ?h2
 case h1=>simp [results,Tryz.results112,go_sem,l0,l1,l2]
 exact ⟨_,_,_,_,_,_,_,rfl,q3.out,fun h=>by cases h⟩
theorem get_eq (s y:ByteArray) (q:Rat) (w:World) (h82:(s.size:Int)≤82) (hpl:∀ W,Hid (Calls Tryz.prog 147 #[.string s] W (FlagPost q true W))) (htx:∀ W x,QAt W x q→Hid (Calls Tryz.prog 113 #[x] W fun e w'=>e=.returned (.tuple #[.string y,.bool true])∧Below W.heap.size W w')) (he:(y.toList==s.toList)=true):Calls Tryz.prog 112 #[.string s] w (FlagPost q true w):=by
 have hres:=hiD (Resa.start w)
 go_enter Tryz.func112,Tryz.ntmps112
 go_wp2_with fail
 refine (hpl _).out.mono ?_
 rintro e w1 ⟨b,p,n,c,p2,n2,c2,rfl,hb1,hq⟩
 have hr1:=hres.out.next hb1
 have hq1:=hq rfl
 have hr2:=hiD (hr1.next (below_alloc9 w1 (.cells #[.bool b,.slice p n c,.slice p2 n2 c2] 100)))
 have hq2:=hiD (hq1.below (below_alloc9 w1 (.cells #[.bool b,.slice p n c,.slice p2 n2 c2] 100)))
 have hbx:Hid ((w1.alloc (.cells #[.bool b,.slice p n c,.slice p2 n2 c2] 100)).heap[w1.heap.size]?=some (.cells #[.bool b,.slice p n c,.slice p2 n2 c2] 100 (0,0))):=hiD (heap_new _ _)
 have ht:=htx _ _ hq2.out
 clear hb1 hq hr1 hq1
 go_wp2_with fail
 refine ht.out.mono ?_
 rintro e w3 ⟨rfl,hb3⟩
 have hr3:=hiD (hr2.out.next hb3)
 have hq3:=hq2.out.below hb3
 have hbx3:w3.heap[w1.heap.size]?=some (.cells #[.bool b,.slice p n c,.slice p2 n2 c2] 100 (0,0)):=(hb3.block _ (by simp)).trans hbx.out
 have c0:=ceh hbx3 0
 have c1:=ceh hbx3 1
 have c2':=ceh hbx3 2
 obtain ⟨z0,z1,z2,l0,l1,l2,f0,f1,f2⟩:=hr3.out.slots
 obtain ⟨u,v,he,hu,hv⟩:=hq3
 cases he
 have hfin:=hiD (hr3.out.fin (Nat.le_refl _) rfl hu hv)
 obtain ⟨sb,hsb⟩:∃ sb,Hid (sb=decide (q.num<0)):=⟨_,hiD rfl⟩
 rw [← hsb.out] at hfin c0 hbx3
 rw [← hsb.out]
 clear hbx3 hb3 hu hv ht
 go_wp2_with fail
 refine bodyPost_ret (v:=.tuple #[.agg #[.bool sb,.slice p n c,.slice p2 n2 c2],.bool true]) ?h1 rfl ?h2
 case h1=>simp [results,Tryz.results112,go_sem,l0,l1,l2]
 obtain ⟨x,hx,hq,hb⟩:=hfin.out
 cases hx
 exact ⟨_,_,_,_,_,_,_,rfl,hb,fun _=>hq⟩
theorem get_ne (s y:ByteArray) (q:Rat) (w:World) (h82:(s.size:Int)≤82) (hpl:∀ W,Hid (Calls Tryz.prog 147 #[.string s] W (FlagPost q true W))) (htx:∀ W x,QAt W x q→Hid (Calls Tryz.prog 113 #[x] W fun e w'=>e=.returned (.tuple #[.string y,.bool true])∧Below W.heap.size W w')) (he:(y.toList==s.toList)=false):Calls Tryz.prog 112 #[.string s] w (FlagPost q false w):=by
 have hres:=hiD (Resa.start w)
 go_enter Tryz.func112,Tryz.ntmps112
 go_wp2_with fail
 refine (hpl _).out.mono ?_
 rintro e w1 ⟨b,p,n,c,p2,n2,c2,rfl,hb1,hq⟩
 have hr1:=hres.out.next hb1
 have hq1:=hq rfl
 have hr2:=hiD (hr1.next (below_alloc9 w1 (.cells #[.bool b,.slice p n c,.slice p2 n2 c2] 100)))
 have hq2:=hiD (hq1.below (below_alloc9 w1 (.cells #[.bool b,.slice p n c,.slice p2 n2 c2] 100)))
 have hbx:Hid ((w1.alloc (.cells #[.bool b,.slice p n c,.slice p2 n2 c2] 100)).heap[w1.heap.size]?=some (.cells #[.bool b,.slice p n c,.slice p2 n2 c2] 100 (0,0))):=hiD (heap_new _ _)
 have ht:=htx _ _ hq2.out
 clear hb1 hq hr1 hq1
 go_wp2_with fail
 refine ht.out.mono ?_
 rintro e w3 ⟨rfl,hb3⟩
 have hr3:=hiD (hr2.out.next hb3)
 have hq3:=hq2.out.below hb3
 have hbx3:w3.heap[w1.heap.size]?=some (.cells #[.bool b,.slice p n c,.slice p2 n2 c2] 100 (0,0)):=(hb3.block _ (by simp)).trans hbx.out
 have c0:=ceh hbx3 0
 have c1:=ceh hbx3 1
 have c2':=ceh hbx3 2
 obtain ⟨z0,z1,z2,l0,l1,l2,f0,f1,f2⟩:=hr3.out.slots
 obtain ⟨u,v,he,hu,hv⟩:=hq3
 cases he
 have hfin:=hiD (hr3.out.fin (Nat.le_refl _) rfl hu hv)
 obtain ⟨sb,hsb⟩:∃ sb,Hid (sb=decide (q.num<0)):=⟨_,hiD rfl⟩
 rw [← hsb.out] at hfin c0 hbx3
 rw [← hsb.out]
 clear hbx3 hb3 hu hv ht
 go_wp2_with fail
 refine bodyPost_ret (v:=.tuple #[.agg #[.bool sb,.slice p n c,.slice p2 n2 c2],.bool false]) ?h1 rfl ?h2
 case h1=>simp [results,Tryz.results112,go_sem,l0,l1,l2]
 obtain ⟨x,hx,hq,hb⟩:=hfin.out
 cases hx
 exact ⟨_,_,_,_,_,_,_,rfl,hb,fun _=>hq⟩
theorem get_no (s y:ByteArray) (q:Rat) (w:World) (h82:(s.size:Int)≤82) (hpl:∀ W,Hid (Calls Tryz.prog 147 #[.string s] W (FlagPost q true W))) (htx:∀ W x,QAt W x q→Hid (Calls Tryz.prog 113 #[x] W fun e w'=>e=.returned (.tuple #[.string y,.bool false])∧Below W.heap.size W w')) :Calls Tryz.prog 112 #[.string s] w (FlagPost q false w):=by
 have hres:=hiD (Resa.start w)
 go_enter Tryz.func112,Tryz.ntmps112
 go_wp2_with fail
 refine (hpl _).out.mono ?_
 rintro e w1 ⟨b,p,n,c,p2,n2,c2,rfl,hb1,hq⟩
 have hr1:=hres.out.next hb1
 have hq1:=hq rfl
 have hr2:=hiD (hr1.next (below_alloc9 w1 (.cells #[.bool b,.slice p n c,.slice p2 n2 c2] 100)))
 have hq2:=hiD (hq1.below (below_alloc9 w1 (.cells #[.bool b,.slice p n c,.slice p2 n2 c2] 100)))
 have hbx:Hid ((w1.alloc (.cells #[.bool b,.slice p n c,.slice p2 n2 c2] 100)).heap[w1.heap.size]?=some (.cells #[.bool b,.slice p n c,.slice p2 n2 c2] 100 (0,0))):=hiD (heap_new _ _)
 have ht:=htx _ _ hq2.out
 clear hb1 hq hr1 hq1
 go_wp2_with fail
 refine ht.out.mono ?_
 rintro e w3 ⟨rfl,hb3⟩
 have hr3:=hiD (hr2.out.next hb3)
 have hq3:=hq2.out.below hb3
 have hbx3:w3.heap[w1.heap.size]?=some (.cells #[.bool b,.slice p n c,.slice p2 n2 c2] 100 (0,0)):=(hb3.block _ (by simp)).trans hbx.out
 have c0:=ceh hbx3 0
 have c1:=ceh hbx3 1
 have c2':=ceh hbx3 2
 obtain ⟨z0,z1,z2,l0,l1,l2,f0,f1,f2⟩:=hr3.out.slots
 obtain ⟨u,v,he,hu,hv⟩:=hq3
 cases he
 have hfin:=hiD (hr3.out.fin (Nat.le_refl _) rfl hu hv)
 obtain ⟨sb,hsb⟩:∃ sb,Hid (sb=decide (q.num<0)):=⟨_,hiD rfl⟩
 rw [← hsb.out] at hfin c0 hbx3
 rw [← hsb.out]
 clear hbx3 hb3 hu hv ht
 go_wp2_with fail
 refine bodyPost_ret (v:=.tuple #[.agg #[.bool sb,.slice p n c,.slice p2 n2 c2],.bool false]) ?h1 rfl ?h2
 case h1=>simp [results,Tryz.results112,go_sem,l0,l1,l2]
 obtain ⟨x,hx,hq,hb⟩:=hfin.out
 cases hx
 exact ⟨_,_,_,_,_,_,_,rfl,hb,fun _=>hq⟩
def GetPost (o:Option Rat) (w:World) (e:Ending) (w':World):Prop:=match o with
 | some q=>FlagPost q true w e w'
 | none=>∃ q,FlagPost q false w e w'
theorem readL_le {l:List UInt8} {s:Bool} {n d:Nat} (h:readL l=some (s,n,d)) (hl:l.length≤82):QLt 10 (ratv s n d)∧0<d:=by
 unfold readL at h
 rw [Option.map_eq_some_iff] at h
 obtain ⟨⟨n',d'⟩,h1,h2⟩:=h
 simp only [Prod.mk.injEq] at h2
 rw [h2.2.1,h2.2.2] at h1
 have hd:=readAbs_pos h1
 refine ⟨?_,hd⟩
 have h3:n<B9^10∧d<B9^10:=by
  have e9:B9^10=10^90:=by rw [B9_pow]
  rw [e9]
  have hle:(Lib.trimPrefix l [45]).length≤82:=Nat.le_trans (trim_len l) hl
  generalize Lib.trimPrefix l [45]=m at h1 hle
  have hdv:∀ x:List UInt8,allDig x=true→x.length≤82→dval x<10^90:=fun x hx hxl =>
   Nat.lt_of_lt_of_le (dval_lt x (allDig_all hx)) (Nat.pow_le_pow_right (by omega) (by omega))
  obtain ⟨k1,k2,k3⟩:=cut_len m 46
  obtain ⟨m1,m2,m3⟩:=cut_len m 47
  unfold readAbs at h1
  split at h1
  ·split at h1
   ·rename_i hdd
    rw [Bool.and_eq_true] at hdd
    simp only [Option.some.injEq,Prod.mk.injEq] at h1
    obtain ⟨rfl,rfl⟩:=h1
    refine ⟨hdv _ ?_ (by rw [List.length_append];omega),Nat.pow_lt_pow_right (by omega) (by omega)⟩
    unfold allDig
    rw [List.all_append,allDig_all hdd.1,allDig_all hdd.2]
    have:=hdd.1
    unfold allDig at this
    simp at this ⊢
    intro h;exact absurd h this.2
   ·cases h1
  ·split at h1
   ·split at h1
    ·rename_i hdd
     rw [Bool.and_eq_true,Bool.and_eq_true] at hdd
     simp only [Option.some.injEq,Prod.mk.injEq] at h1
     obtain ⟨rfl,rfl⟩:=h1
     exact ⟨hdv _ hdd.1.1 (by omega),hdv _ hdd.1.2 (by omega)⟩
    ·cases h1
   ·split at h1
    ·rename_i hdd
     simp only [Option.some.injEq,Prod.mk.injEq] at h1
     obtain ⟨rfl,rfl⟩:=h1
     exact ⟨hdv _ hdd hle,Nat.one_lt_pow (by omega) (by omega)⟩
    ·cases h1
 have e:ratv s n d=ratv (s&&!(n==0)) n d:=(ratv_drop s n d).symm
 rw [e]
 exact ratv_lt _ h3.1 h3.2 hd (by intro h;simp at h;omega)
theorem num_none_of {l:List UInt8} (h:readL l=none):num l=none:=by
 unfold num readQ;rw [h];split<;>rfl
theorem num_of {l:List UInt8} {s:Bool} {n d:Nat} (h:readL l=some (s,n,d)) (hl:l.length≤82) (hd:0<d):num l=if txt (ratv s n d)=l then some (ratv s n d) else none:=by
 unfold num readQ
 rw [if_neg (by omega),h]
 have e:=numText_txt' (s:=s) (a:=n) (b:=d) hd
 rw [ratv_drop] at e
 simp only [e]
 split
 ·simp [ratv_drop]
 ·rfl
theorem get_any (s:ByteArray) (w:World):Calls Tryz.prog 112 #[.string s] w (GetPost (num s.data.toList) w):=by
 have hls:s.data.toList.length=s.size:=by simp
 by_cases h82:s.size≤82
 ·cases hr:readL s.data.toList with
  | none =>
   rw [num_none_of hr]
   exact (get_none s 0 w (by omega) (fun W=>hiD (by have h:=plain_any s W (by omega);rw [hr] at h;exact h))).mono fun e w' h=>⟨_,h⟩
  | some t =>
   obtain ⟨sg,n,d⟩:=t
   obtain ⟨hK,hd⟩:=readL_le hr (by omega)
   rw [num_of hr (by omega) hd]
   obtain ⟨y,hy⟩:∃ y:ByteArray,y=⟨(txt (ratv sg n d)).toArray⟩:=⟨_,rfl⟩
   have hyl:y.data.toList=txt (ratv sg n d):=by rw [hy]
   have hyl2:y.toList=txt (ratv sg n d):=by rw [Lib.toList_data];exact hyl
   have hpl:∀ W,Hid (Calls Tryz.prog 147 #[.string s] W (FlagPost (ratv sg n d) true W)):=fun W=>hiD (by have h:=plain_any s W (by omega);rw [hr] at h;exact h)
   have htx:∀ f,f=(!(txt (ratv sg n d)).isEmpty)→∀ W x,QAt W x (ratv sg n d)→Hid (Calls Tryz.prog 113 #[x] W fun e w'=>e=.returned (.tuple #[.string y,.bool f])∧Below W.heap.size W w'):=by
    rintro f rfl W x hx
    rw [hy];exact hiD (text_q x _ 10 W (by omega) hK hx)
   have hne:s.data.toList≠[]:=by intro h;rw [h] at hr;cases hr
   cases hf:(txt (ratv sg n d)).isEmpty with
   | true =>
    have h0:txt (ratv sg n d)=[]:=List.isEmpty_iff.1 hf
    rw [if_neg (by rw [h0];exact fun h=>hne h.symm)]
    exact (get_no s y (ratv sg n d) w (by omega) hpl (htx false (by rw [hf];rfl))).mono fun e w' h=>⟨_,h⟩
   | false =>
    by_cases he:txt (ratv sg n d)=s.data.toList
    ·rw [if_pos he]
     exact get_eq s y (ratv sg n d) w (by omega) hpl (htx true (by rw [hf];rfl)) (by rw [hyl2,he,Lib.toList_data];simp)
    ·rw [if_neg he]
     exact (get_ne s y (ratv sg n d) w (by omega) hpl (htx true (by rw [hf];rfl)) (by rw [hyl2,Lib.toList_data,beq_eq_false_iff_ne];exact he)).mono fun e w' h=>⟨_,h⟩
 ·have hn:num s.data.toList=none:=by unfold num readQ;rw [if_pos (by omega)];rfl
  rw [hn]
  exact (get_long s w (by omega)).mono fun e w' h=>⟨_,h⟩
def QPostC (q:Rat) (w:World) (e:Ending) (w':World):Prop:=∃ sb p n c p2 n2 c2,e=.returned (.agg #[.bool sb,.slice p n c,.slice p2 n2 c2])∧QAt w' (.agg #[.bool sb,.slice p n c,.slice p2 n2 c2]) q∧Below w.heap.size w w'
theorem QPost.c {q:Rat} {w w':World} {e:Ending} (h:QPost q w e w'):QPostC q w e w':=by
 obtain ⟨x,rfl,hx,hb⟩:=h
 obtain ⟨p,n,c,p2,n2,c2,rfl,h1,h2⟩:=hx.slices
 exact ⟨_,p,n,c,p2,n2,c2,rfl,hx,hb⟩
theorem get_flag (s:ByteArray) (o:Option Rat) (h:num s.data.toList=o) (W:World):Calls Tryz.prog 112 #[.string s] W (FlagPost (o.getD 0) o.isSome W):=by
 have g:=get_any s W
 rw [h] at g
 cases o with
 | some q=>exact g
 | none=>exact g.mono fun e w' ⟨q,b,p,n,c,p2,n2,c2,h1,h2,_⟩=>⟨b,p,n,c,p2,n2,c2,h1,h2,fun h=>by cases h⟩
end Go.Proofs.YtlcpcpmlfegejaaGreatDoor
namespace Go.Proofs.YtlcpcpmlfegejaaGreatDoor
open Go.RowKit Big
open Go.Lib
theorem QAt.put3 {B:Nat} {w0 W:World} {x:Value} {r:Rat} (hq:QAt W x r) (h:Resa B w0 W) (hB:w0.heap.size≤B) (a:Bool) (p q:Option Addr) (n c m d:Nat):QAt (((W.setCell ⟨B,0,none⟩ (.bool a)).setCell ⟨B,1,none⟩ (.slice p n c)).setCell ⟨B,2,none⟩ (.slice q m d)) x r:=by
 obtain ⟨u,v,rfl,hu,hv⟩:=hq
 exact ⟨u,v,rfl,h.nat3 hB hu a p q n c m d,hv.imp (fun h2=>h.nat3 hB h2 a p q n c m d) fun h2=>⟨h.nat3 hB h2.1 a p q n c m d,h2.2⟩⟩
end Go.Proofs.YtlcpcpmlfegejaaGreatDoor
namespace Go.Proofs.YtlcpcpmlfegejaaGreatDoor
open Go.RowKit Big
open Go.Lib
theorem lt_of_ratv {K:Nat} {q:Rat} {s:Bool} {a b:Nat} (h:ratv s a b=q) (ha:a<B9^K) (hb:b<B9^K) (hb0:0<b):QLt K q:=by
 rw [← h,← ratv_drop]
 exact ratv_lt _ ha hb hb0 (by intro h;simp at h;omega)
theorem plus_num (a b:Rat):∃ (s:Bool) (n:Nat),ratv s n (a.den*b.den)=a+b∧n≤a.num.natAbs*b.den+b.num.natAbs*a.den:=by
 have e1:ratv (decide (a.num<0)) (a.num.natAbs*b.den) (a.den*b.den)=a:=by rw [ratv_scale a.den_pos b.den_pos,ratv_self]
 have e2:ratv (decide (b.num<0)) (b.num.natAbs*a.den) (a.den*b.den)=b:=by rw [Nat.mul_comm a.den b.den,ratv_scale b.den_pos a.den_pos,ratv_self]
 by_cases h:decide (a.num<0)=decide (b.num<0)
 ·rw [← h] at e2
  exact ⟨_,_,by rw [ratv_plus,e1,e2],Nat.le_refl _⟩
 ·by_cases hle:b.num.natAbs*a.den≤a.num.natAbs*b.den
  ·exact ⟨_,_,by rw [ratv_minus h hle,e1,e2],by omega⟩
  ·exact ⟨_,_,by rw [ratv_minus (fun e=>h e.symm) (Nat.le_of_lt (Nat.lt_of_not_le hle)),e1,e2,Rat.add_comm],by omega⟩
theorem QLt.add {K L:Nat} {a b:Rat} (ha:QLt K a) (hb:QLt L b):QLt (K+L+1) (a+b):=by
 obtain ⟨s,n,h1,h2⟩:=plus_num a b
 have h3:=pow9_mul ha.1 hb.2
 have h4:=pow9_mul hb.1 ha.2
 rw [Nat.add_comm L K] at h4
 have h5:B9^(K+L+1)=B9^(K+L)*1000000000:=by rw [Nat.pow_succ,B9_eq]
 exact lt_of_ratv h1 (by omega) (pow9_mono (pow9_mul ha.2 hb.2) (by omega)) (Nat.mul_pos a.den_pos b.den_pos)
end Go.Proofs.YtlcpcpmlfegejaaGreatDoor
set_option maxHeartbeats 3200000
set_option maxRecDepth 100000
namespace Go.Proofs.YtlcpcpmlfegejaaGreatDoor
open Go.RowKit Big
open Go.Lib
theorem rvalid_any (s:ByteArray) (w:World):Calls Tryz.prog 70 #[.string s] w fun e w'=>e=.returned (.bool (num s.data.toList).isSome)∧Below w.heap.size w w':=by
 have hg:=fun W=>hiD (get_flag s _ rfl W)
 generalize (num s.data.toList).isSome=f at hg ⊢
 go_enter Tryz.func70,Tryz.ntmps70
 go_wp2_with fail
 refine (hg _).out.mono ?_
 rintro e w1 ⟨b1,p,n,c,p2,n2,c2,rfl,hb1,-⟩
 have HB:Hid (∀ o1,Below w.heap.size w (w1.alloc o1)):=hiD fun o1=>hb1.alloc hb1.size o1
 clear hb1
 go_wp2_with fail
 go_ret
 exact ⟨rfl,HB.out _⟩
end Go.Proofs.YtlcpcpmlfegejaaGreatDoor
set_option maxHeartbeats 3200000
set_option maxRecDepth 100000
namespace Go.Proofs.YtlcpcpmlfegejaaGreatDoor
open Go.RowKit Big List
open Go.Lib
theorem risv_nil (w:World):Calls Tryz.prog 27 #[.string ⟨#[]⟩] w fun e w'=>e=.returned (.bool true)∧Below w.heap.size w w':=by
 go_enter Tryz.func27,Tryz.ntmps27
 go_wp2_with fail
 go_ret
 exact ⟨rfl,Below.refl _ _⟩
theorem risv_some (l:List UInt8) (_hl:¬ l=[]) (hl2:l.isEmpty=false) (f:Bool) (w:World) (h20:Hid (∀ W,Below w.heap.size w W→Calls Tryz.prog 70 #[.string ⟨l.toArray⟩] W fun e w'=>e=.returned (.bool f)∧Below W.heap.size W w')):Calls Tryz.prog 27 #[.string ⟨l.toArray⟩] w fun e w'=>e=.returned (.bool f)∧Below w.heap.size w w':=by
 go_enter Tryz.func27,Tryz.ntmps27
 go_wp2_with fail
 refine (h20.out _ (Below.refl _ _)).mono ?_
 rintro e w1 ⟨rfl,hb⟩
 have B1:=hiD (hb)
 clear hb
 go_wp2_with fail
 go_ret
 exact ⟨rfl,B1.out⟩
end Go.Proofs.YtlcpcpmlfegejaaGreatDoor
set_option maxHeartbeats 400000
namespace Go.Proofs.YtlcpcpmlfegejaaGreatDoor
end Go.Proofs.YtlcpcpmlfegejaaGreatDoor
namespace Big
end Big
namespace Go.Proofs.YtlcpcpmlfegejaaGreatDoor
open Go.RowKit
end Go.Proofs.YtlcpcpmlfegejaaGreatDoor
namespace Go.Proofs.YtlcpcpmlfegejaaGreatDoor
open Go.RowKit Big
def subPost (L:List Nat) (g off n:Nat) (t:TypeId) (y:List Nat) (w:World) (e:Ending) (w':World):Prop :=
 ∃ L' c,Put L off n L'∧Dig B64 (seg L' off n)∧c≤1∧val B64 (seg L' off n)+val B64 y=val B64 (seg L off n)+B64^n*c ∧
  e=.returned (.tuple #[])∧Only g w w'∧Row w' g t L'
theorem subtractFrom_any (g off n cap:Nat) (t:TypeId) (L:List Nat) (q:Option Addr) (m c:Nat) (y:List Nat) (w:World) (hn:n≤maxLen) (hL:off+n≤L.length) (hm:m≤n)
  (hz:Row w g t L) (hy:Rd w q m y) (hq:m=0∨∀ b o,q=some ⟨b,o,none⟩→b≠g) (dL:Dig B64 (seg L off n)) (dy:Dig B64 y) :
  Calls Tryz.prog 203 #[.slice (some ⟨g,off,none⟩) n cap,.slice q m c] w (subPost L g off n t y w):=by
 unfold maxLen at hn
 go_enter Tryz.func203,Tryz.ntmps203
 go_wp2
 go_loopw [4,9] (fun cy i wr=>∃ (k:Nat) (L':List Nat) (d:Nat),k≤n∧i=.int .i64 k∧cy=.int .u64 d∧d≤1∧Put L off k L'∧Dig B64 (seg L' off k) ∧
   val B64 (seg L' off k)+val B64 (y.take k)=val B64 (seg L off k)+B64^k*d∧Only g w wr∧Row wr g t L') (fun _ i _=>n-(intOf i).toNat)
 case atStart=>exact ⟨0,L,0,Nat.zero_le _,rfl,rfl,by omega,Put.refl _ _,by rw [seg_zero];exact Dig.nil _,by simp [val],Only.refl _ _,hz⟩
 case round =>
  obtain ⟨k,L',d,hk,rfl,rfl,hd,hput,hdig,hval,ho,hr⟩:=hrel
  have Hval:=hiD hval
  clear hval
  by_cases hlt:k<n
  ·have hc:=hr.cell (off+k) (by rw [hput.length];omega)
   rw [hput.getD _ (by omega)] at hc
   have hf:=hr.free (off+k)
   have dk:L.getD (off+k) 0<B64:=by rw [← seg_getD L off n k hlt];exact dL.getD B64_pos k
   obtain ⟨a,ha⟩:∃ a,Hid (L.getD (off+k) 0=a):=⟨_,rfl⟩
   have hw:∃ b:Nat,Hid (y.getD k 0=b)∧b<B64:=⟨_,rfl,dy.getD B64_pos k⟩
   obtain ⟨b,hb,hb64⟩:=hw
   rw [ha.out] at hc dk
   obtain ⟨s,c',hs,hs1,hs2,hrun⟩:=sub64 a b d hd dk hb64
   have hrelk:∀ wr',Only g w wr'→Row wr' g t (L'.set (off+k) s)→∃ (k':Nat) (L'':List Nat) (d':Nat),k'≤n∧Value.int .i64 ((k:Int)+1)=.int .i64 k'∧Value.int .u64 (c':Int)=.int .u64 d'∧d'≤1∧Put L off k' L''∧Dig B64 (seg L'' off k') ∧
     val B64 (seg L'' off k')+val B64 (y.take k')=val B64 (seg L off k')+B64^k'*d'∧Only g w wr'∧Row wr' g t L'':=by
    intro wr' h1 h2
    refine ⟨k+1,L'.set (off+k) s,c',by omega,by go_num,rfl,hs2,hput.set s,?_,?_,h1,h2⟩
    ·rw [hput.seg_set (by omega)];exact hdig.append (Dig.one hs1)
    ·rw [hput.seg_set (by omega),seg_succ L off k (by omega),val_snoc,val_snoc,val_take_succD,seg_length _ _ _ (by rw [hput.length];omega),seg_length _ _ _ (by omega),ha.out,hb.out,Nat.pow_succ]
     exact sub_step Hval.out hs.out
   have Hrel:=hiD hrelk
   clear hrelk
   by_cases hkm:k<m
   ·obtain ⟨b0,o0,d0,rfl,hb0,hc0,hd0⟩:=hy.at hkm
    have e0:d0=b:=by rw [← hd0.out];exact hb.out
    subst e0
    have hcy:wr.cell? ⟨b0,o0+k,none⟩=some (.int .u64 (d0:Int)):=by
     rw [← hc0]
     exact World.cell?_of_block (w:=w) (ho.block b0 ((hq.resolve_left (by omega)) b0 o0 rfl))
    go_wp2
    go_roundw
    case rel=>exact Hrel.out _ (ho.setCell _ _) (hr.set _ _)
    case measure=>simp [intOf];omega
   ·have e0:b=0:=by
     rw [← hb.out,List.getD_eq_getElem?_getD,List.getElem?_eq_none (by rw [hy.len];omega)];rfl
    subst e0
    rw [show ((0:Nat):Int)=0 from rfl] at hrun
    clear hb64 hb
    go_wp2
    go_roundw
    case rel=>exact Hrel.out _ (ho.setCell _ _) (hr.set _ _)
    case measure=>simp [intOf];omega
  ·obtain rfl:k=n:=by omega
   have hval:=Hval.out
   rw [List.take_of_length_le (by rw [hy.len];exact hm)] at hval
   have Hv:=hiD hval
   clear hval
   go_wp2
   go_end0
   exact ⟨L',d,hput,hdig,hd,Hv.out,rfl,ho,hr⟩
end Go.Proofs.YtlcpcpmlfegejaaGreatDoor
set_option maxHeartbeats 800000
set_option maxRecDepth 100000
namespace Go.Proofs.YtlcpcpmlfegejaaGreatDoor
open Go.RowKit Big
theorem no_borrow {B n s c a b:Nat} (h:s+b=a+B^n*c) (hs:s<B^n) (hle:b≤a):s=a-b:=by
 have h2:c=0:=by
  apply Nat.eq_zero_of_not_pos;intro hc
  have:B^n*1≤B^n*c:=Nat.mul_le_mul_left _ hc
  omega
 subst h2;omega
theorem minus_any0 (p:Option Addr) (n c:Nat) (x:List Nat) (q:Option Addr) (m d:Nat) (y:List Nat) (w:World) (hn0:n≤most) (hmn:m≤n) (hx:Rd w p n x) (hy:Rd w q m y) (dx:Dig B64 x) (dy:Dig B64 y) (hle:val B64 y≤val B64 x) :
  Calls Tryz.prog 162 #[.slice p n c,.slice q m d] w (NatPost (val B64 x-val B64 y) w):=by
 obtain ⟨i0,hi,hz0,hz1,hz2⟩:=info_parts info79
 have hn:(n:Int)≤4294967296:=by unfold most at hn0;omega
 go_enter Tryz.func162,Tryz.ntmps162
 go_wp2_with (at_make;refine wpList_make_full _ rfl _ _ 60 rfl w.heap.size 137 i0 (.int .u64 0) 1 Tryz.underlying60 hi hz0 hz1 _ _ _ _ (n) rfl rfl (by omega) (by omega) ?b2 ?b3 (Nat.le_refl _) ?_)
 case b2=>rw [hz2];unfold most at hn0;omega
 case b3=>unfold maxLen;unfold most at hn0;omega
 intro w1 hown hgrow
 have hr1:Row w1 w.heap.size 137 (List.replicate (n) 0):=row_of_made hown
 have hb1:Below w.heap.size w w1:=(Below.refl _ _).grown hgrow (Nat.le_refl _) (fun k h=>by cases h)
 have hx1:=hx.below hb1
 clear hown hgrow
 go_wp2_with (refine wpList_copy_splice (o:=⟨some 11,_,_,_,_,_⟩) rfl (.tmp 9) (.tmp 10) 60 60 rfl 137 Tryz.underlying60 (by kernel_rfl) _ _ _ _ _ _ rfl rfl w.heap.size 0 (u64s (List.replicate (n) 0)) 137 hr1 (u64s x) ?c1 ?c2 ?c3 (u64s_one x) w.heap.size w hb1 (Nat.le_refl _) ?_)
 case c1=>rw [u64s_length,hx.len];exact (Nat.min_eq_left (by omega)).symm
 case c2=>exact fun h=>hx1.cells h
 case c3=>rw [u64s_length,u64s_length,hx.len,List.length_replicate];omega
 intro w2 hr2 hb2
 have hr:Row w2 w.heap.size 137 (x++List.replicate (n-n) 0):=by
  have:=hr2.out
  rw [u64s_splice _ x _ _ rfl,splice_head x (n) (by rw [hx.len];omega),hx.len] at this
  exact this
 have hlen:(x++List.replicate (n-n) 0).length=n:=by rw [List.length_append,List.length_replicate,hx.len];omega
 have hdig:Dig B64 (x++List.replicate (n-n) 0):=dx.append (Dig.zeros B64_pos _)
 have hval:val B64 (x++List.replicate (n-n) 0)=val B64 x:=by rw [val_append,val_zeros];omega
 obtain ⟨L,hL⟩:∃ L,Hid (L=x++List.replicate (n-n) 0):=⟨_,hiD rfl⟩
 rw [← hL.out] at hr hlen hdig hval
 have Hlen:=hiD hlen
 have Hval:=hiD hval
 have hq:m=0∨∀ b o,q=some ⟨b,o,none⟩→b≠w.heap.size:=by
  rcases hy.cell with h|⟨b,o,h1,h2,_⟩
  ·exact .inl h
  ·refine .inr fun b' o' h=>?_
   rw [h1] at h;cases h;omega
 have hsegL:seg L 0 (n)=L:=seg_all L (n) hlen.symm
 have hsegd:Dig B64 (seg L 0 (n)):=by rw [hsegL];exact hdig
 have HsegL:=hiD hsegL
 clear hr2 hlen hval hsegL
 have hbn:n≤maxLen:=by unfold maxLen;omega
 go_wp2_with fail
 refine (subtractFrom_any w.heap.size 0 (n) (n) 137 L q m d y _ hbn (by rw [Hlen.out];omega) (by omega) hr (hy.below hb2) hq hsegd dy).mono ?_
 rintro e w3 ⟨L',cy,hput,hd',hc1,hv',rfl,ho,hr'⟩
 have hl':L'.length=n:=by rw [hput.length];exact Hlen.out
 rw [HsegL.out,Hval.out,seg_all L' (n) hl'.symm] at hv'
 rw [seg_all L' (n) hl'.symm] at hd'
 have hlx:=val_lt (seg L' 0 n) (by rw [seg_all L' n hl'.symm];exact hd')
 rw [seg_all L' n hl'.symm,hl'] at hlx
 have hs:=no_borrow hv' hlx hle
 have hb3:=Only.below hb2 ho (Nat.le_refl _)
 have ht:=trimmed_nat (some ⟨w.heap.size,0,none⟩) (n) (n) L' w w3 hbn (Nat.le_refl _) (hr'.rd0 (n) hl'.symm) hd' hb3
 rw [hs] at ht
 have Ht:=hiD ht
 clear ht hs hv' hl' hlx
 go_wp2_with fail
 refine Ht.out.mono ?_
 rintro e w4 ⟨v,rfl,hv⟩
 go_wp2_with fail
 go_ret
 exact ⟨v,rfl,hv⟩
theorem minus_nat (u v:Value) (a b K:Nat) (w:World) (hK:K≤most) (ha:a<B64^K) (hle:b≤a) (hu:NatAt w u a) (hv:NatAt w v b):Calls Tryz.prog 162 #[u,v] w (NatPost (a-b) w):=by
 obtain ⟨p,n,c,x,rfl,h1,h2,h3,h4⟩:=hu
 obtain ⟨q,m,d,y,rfl,g1,g2,g3,g4⟩:=hv
 have hn:=pow_most h3 h4 ha h2
 have hm:m≤n:=by
  have:=Canon.length_le g3 h3.1 (by rw [h4,g4];exact hle)
  rw [h2.len,g2.len] at this;exact this
 subst h4 g4
 exact minus_any0 p n c x q m d y w (by omega) hm h2 g2 h3.1 g3.1 hle
end Go.Proofs.YtlcpcpmlfegejaaGreatDoor
namespace Big
end Big
namespace Go.Proofs.YtlcpcpmlfegejaaGreatDoor
open Go.RowKit Big
end Go.Proofs.YtlcpcpmlfegejaaGreatDoor
set_option maxHeartbeats 3200000
set_option maxRecDepth 100000
namespace Go.Proofs.YtlcpcpmlfegejaaGreatDoor
open Go.RowKit Big
structure Two (B:Nat) (s:Bool) (u1 v1:Value) (t:Bool) (u2 v2:Value) (w0 W:World):Prop where
 size:B+3≤W.heap.size
 below:Below w0.heap.size w0 W
 x:W.heap[B]?=some (.cells #[.bool s,u1,v1] 62 (0,0))
 y:W.heap[B+1]?=some (.cells #[.bool t,u2,v2] 62 (0,0))
 z:∃ z0 z1 z2,W.heap[B+1+1]?=some (.cells #[z0,z1,z2] 62 (0,0))∧NoInt z0∧NoInt z1∧NoInt z2
variable {B : Nat} {s : Bool} {u1 v1 : Value} {t : Bool} {u2 v2 : Value} {w0 W W' : World}
theorem Two.next (h:Two B s u1 v1 t u2 v2 w0 W) (hb:Below W.heap.size W W'):Two B s u1 v1 t u2 v2 w0 W':=by
 have hs:=h.size
 exact ⟨Nat.le_trans hs hb.size,h.below.trans (hb.mono h.below.size),(hb.block _ (by omega)).trans h.x,(hb.block _ (by omega)).trans h.y,h.z.elim fun z0 k=>k.elim fun z1 k=>k.elim fun z2 k=>⟨z0,z1,z2,(hb.block _ (by omega)).trans k.1,k.2⟩⟩
theorem Two.drew (h:Two B s u1 v1 t u2 v2 w0 W):Two B s u1 v1 t u2 v2 w0 W.drew:=⟨h.size,h.below.drew,h.x,h.y,h.z⟩
theorem heap_old (W:World) (o:Obj) (b:Nat) (h:b<W.heap.size):(W.alloc o).heap[b]?=W.heap[b]?:=Below.heap_alloc _ _ _ h
theorem Two.start (w:World) (s:Bool) (u1 v1:Value) (t:Bool) (u2 v2:Value) :
  Two w.heap.size s u1 v1 t u2 v2 w (((w.alloc (.cells #[.bool s,u1,v1] 62)).alloc (.cells #[.bool t,u2,v2] 62)).alloc (.cells #[.bool false,.slice none 0 0,.slice none 0 0] 62)):=by
 have hb:∀ (W:World) (o:Obj),Below W.heap.size W (W.alloc o):=fun W o=>(Below.refl _ _).alloc (Nat.le_refl _) o
 refine ⟨by simp,((hb _ _).trans ((hb _ _).mono (by simp))).trans ((hb _ _).mono (by simp;omega)),?_,?_,⟨.bool false,.slice none 0 0,.slice none 0 0,?_,noInt_bool _,noInt_slice _ _ _,noInt_slice _ _ _⟩⟩
 ·rw [heap_old _ _ _ (by simp;omega),heap_old _ _ _ (by simp),heap_new]
 ·rw [heap_old _ _ _ (by simp),show w.heap.size+1=(w.alloc (.cells #[.bool s,u1,v1] 62)).heap.size from by simp,heap_new]
 ·rw [show w.heap.size+1+1=((w.alloc (.cells #[.bool s,u1,v1] 62)).alloc (.cells #[.bool t,u2,v2] 62)).heap.size from by simp,heap_new]
theorem Two.all (h:Two B s u1 v1 t u2 v2 w0 W):Two B s u1 v1 t u2 v2 w0 W∧W.cell? ⟨B,0,none⟩=some (.bool s)∧W.cell? ⟨B,1,none⟩=some u1∧W.cell? ⟨B,2,none⟩=some v1 ∧
  W.cell? ⟨B+1,0,none⟩=some (.bool t)∧W.cell? ⟨B+1,1,none⟩=some u2∧W.cell? ⟨B+1,2,none⟩=some v2 :=
 ⟨h,ceh h.x 0,ceh h.x 1,ceh h.x 2,ceh h.y 0,ceh h.y 1,ceh h.y 2⟩
theorem Two.slots (h:Two B s u1 v1 t u2 v2 w0 W):∃ z0 z1 z2,W.cell? ⟨B+1+1,0,none⟩=some z0∧W.cell? ⟨B+1+1,1,none⟩=some z1∧W.cell? ⟨B+1+1,2,none⟩=some z2 ∧
  W.frozen? ⟨B+1+1,0,none⟩=false∧W.frozen? ⟨B+1+1,1,none⟩=false∧W.frozen? ⟨B+1+1,2,none⟩=false:=by
 obtain ⟨z0,z1,z2,hz,-⟩:=h.z
 exact ⟨z0,z1,z2,ceh hz 0,ceh hz 1,ceh hz 2,foh hz 0,foh hz 1,foh hz 2⟩
theorem Two.put1 (h:Two B s u1 v1 t u2 v2 w0 W) (hB:w0.heap.size≤B) (k:Nat) (hk:k<3) (a:Value) (ha:NoInt a):Two B s u1 v1 t u2 v2 w0 (W.setCell ⟨B+1+1,k,none⟩ a):=by
 obtain ⟨z0,z1,z2,hz,n0,n1,n2⟩:=h.z
 refine ⟨by rw [World.size_setCell];exact h.size,h.below.setCell (by simp;omega) _,(Below.heap_setCell _ _ _ _ (by simp;omega)).trans h.x,(Below.heap_setCell _ _ _ _ (by simp)).trans h.y,?_⟩
 have h1:=heap_set (B+1+1) k _ 62 a hz
 match k,hk with
 | 0,_=>exact ⟨_,_,_,h1,ha,n1,n2⟩
 | 1,_=>exact ⟨_,_,_,h1,n0,ha,n2⟩
 | 2,_=>exact ⟨_,_,_,h1,n0,n1,ha⟩
theorem Two.put3 (h:Two B s u1 v1 t u2 v2 w0 W) (hB:w0.heap.size≤B) (a:Bool) (p q:Option Addr) (n c m d:Nat):Two B s u1 v1 t u2 v2 w0 (((W.setCell ⟨B+1+1,0,none⟩ (.bool a)).setCell ⟨B+1+1,1,none⟩ (.slice p n c)).setCell ⟨B+1+1,2,none⟩ (.slice q m d)) :=
 ((h.put1 hB 0 (by omega) _ (noInt_bool _)).put1 hB 1 (by omega) _ (noInt_slice _ _ _)).put1 hB 2 (by omega) _ (noInt_slice _ _ _)
theorem Two.rd (h:Two B s u1 v1 t u2 v2 w0 W) {p:Option Addr} {n:Nat} {l:List Nat} (hr:Rd W p n l) (k:Nat) (a:Value):Rd (W.setCell ⟨B+1+1,k,none⟩ a) p n l:=by
 refine ⟨hr.len,?_⟩
 rcases hr.cell with h0|⟨b,off,hp,hlt,hc⟩
 ·exact .inl h0
 ·by_cases hn:n=0
  ·exact .inl hn
  refine .inr ⟨b,off,hp,by rw [World.size_setCell];exact hlt,fun j hj=>?_⟩
  have hne:b≠B+1+1:=by
   rintro rfl
   obtain ⟨z0,z1,z2,hz,n0,n1,n2⟩:=h.z
   have h1:=hc 0 (by omega)
   rw [ceh hz] at h1
   match hoff:off+0,h1 with
   | 0,h1=>simp at h1;exact n0 _ _ h1
   | 1,h1=>simp at h1;exact n1 _ _ h1
   | 2,h1=>simp at h1;exact n2 _ _ h1
   | k+3,h1=>simp at h1
  rw [← hc j hj]
  exact World.cell?_of_block (w:=W) (Below.heap_setCell _ _ _ _ hne)
theorem Two.nat1 (h:Two B s u1 v1 t u2 v2 w0 W) {v:Value} {x:Nat} (hx:NatAt W v x) (k:Nat) (a:Value):NatAt (W.setCell ⟨B+1+1,k,none⟩ a) v x:=by
 obtain ⟨p,n,c,l,h1,h2,h3,h4⟩:=hx
 exact ⟨p,n,c,l,h1,h2,h.rd h3 k a,h4⟩
theorem Two.nat3 (h:Two B s u1 v1 t u2 v2 w0 W) (hB:w0.heap.size≤B) {v:Value} {x:Nat} (hx:NatAt W v x) (a:Bool) (p q:Option Addr) (n c m d:Nat):NatAt (((W.setCell ⟨B+1+1,0,none⟩ (.bool a)).setCell ⟨B+1+1,1,none⟩ (.slice p n c)).setCell ⟨B+1+1,2,none⟩ (.slice q m d)) v x :=
 ((h.put1 hB 0 (by omega) _ (noInt_bool _)).put1 hB 1 (by omega) _ (noInt_slice _ _ _)).nat1 ((h.put1 hB 0 (by omega) _ (noInt_bool _)).nat1 (h.nat1 hx _ _) _ _) _ _
theorem quo_any (x y:Value) (s t:Bool) (a b c d K:Nat) (w:World) (hK:K≤1073741824) (ha:a<B64^K) (hb:b<B64^K) (hc:c<B64^K) (hd:d<B64^K) (hx:RatAt w x s a b) (hy:RatAt w y t c d) :
  Calls Tryz.prog 93 #[x,y] w (RatPost (s != t) (a*d) (b*c) w):=by
 obtain ⟨u1,v1,rfl,hu1,hv1,hs1⟩:=hx
 obtain ⟨u2,v2,rfl,hu2,hv2,hs2⟩:=hy
 have hm1:Hid (∀ W,Below w.heap.size w W→Calls Tryz.prog 132 #[u1,v2] W (NatPost (a*d) W)):=hiD fun W h=>times_nat _ _ _ _ K W (by omega) ha hd (hu1.below h) (hv2.below h)
 have hm2:Hid (∀ W,Below w.heap.size w W→Calls Tryz.prog 132 #[v1,u2] W (NatPost (b*c) W)):=hiD fun W h=>times_nat _ _ _ _ K W (by omega) hb hc (hv1.below h) (hu2.below h)
 have htwo:=Two.start w s u1 v1 t u2 v2
 have Htwo:=hiD htwo
 obtain ⟨-,c0,c1,c2,c3,c4,c5⟩:=htwo.all
 clear htwo
 clear hu1 hv1 hu2 hv2 hs1 hs2
 go_enter Tryz.func93,Tryz.ntmps93
 go_wp2_with fail
 go_region_held3 (fun w'=>Two w.heap.size s u1 v1 t u2 v2 w w'∧w'.cell? ⟨w.heap.size,0,none⟩=some (.bool s)∧w'.cell? ⟨w.heap.size,1,none⟩=some u1∧w'.cell? ⟨w.heap.size,2,none⟩=some v1 ∧
   w'.cell? ⟨w.heap.size+1,0,none⟩=some (.bool t)∧w'.cell? ⟨w.heap.size+1,1,none⟩=some u2∧w'.cell? ⟨w.heap.size+1,2,none⟩=some v2)
  (first|exact Two.all (Two.drew Htwo.out)|exact Two.all Htwo.out|(go_split_ands;exact Two.all (Two.next (by assumption) hb1))|(go_split_ands;exact Two.all (Two.next (by assumption) hb2))|(go_split_ands;exact Two.all (Two.next (by assumption) hb3))|(go_split_ands;exact Two.all (Two.put3 (by assumption) (Nat.le_refl _) _ _ _ _ _ _ _))|go_keep)
  (first|(go_at_call_of 132 u1;go_split_ands;refine (hm1.out _ (Two.below (by assumption))).mono ?_;rintro e w1 ⟨vt,rfl,hvt,hb1⟩;obtain ⟨pt,nt,ct,rfl⟩:=hvt.slice)|(go_at_call_of 132 v1;go_split_ands;refine (hm2.out _ (Two.below (by assumption))).mono ?_;rintro e w2 ⟨vb,rfl,hvb,hb2⟩;obtain ⟨pb,nb,cb,rfl⟩:=hvb.slice)|(go_at_call 102;go_split_ands;refine (signed_nat _ _ _ _ _ _ (NatAt.below (by assumption) (by assumption)) (by assumption)).mono ?_;rintro e w3 ⟨rfl,hb3⟩;have htw:=Two.next (by assumption) hb3;obtain ⟨z0,z1,z2,k0,k1,k2,f0,f1,f2⟩:=Two.slots htw))
 go_wp2_with fail
 have q1:=htw.nat3 (Nat.le_refl _) ((hvt.below hb2).below hb3) ((s != t)&&!(a*d==0)) pt pb nt ct nb cb
 have q2:=htw.nat3 (Nat.le_refl _) (hvb.below hb3) ((s != t)&&!(a*d==0)) pt pb nt ct nb cb
 have q3:=(htw.put3 (Nat.le_refl _) ((s != t)&&!(a*d==0)) pt pb nt ct nb cb).below
 have hfin:Hid (∀ W,W=(((w3.setCell ⟨w.heap.size+1+1,0,none⟩ (.bool ((s != t)&&!(a*d==0)))).setCell ⟨w.heap.size+1+1,1,none⟩ (.slice pt nt ct)).setCell ⟨w.heap.size+1+1,2,none⟩ (.slice pb nb cb))→RatPost (s != t) (a*d) (b*c) w (.returned (.agg #[.bool ((s != t)&&!(a*d==0)),.slice pt nt ct,.slice pb nb cb])) W):=hiD (by
  rintro W rfl
  exact ⟨_,rfl,⟨_,_,rfl,q1,q2,by intro h;simp at h;omega⟩,q3⟩)
 refine bodyPost_ret (v:=.agg #[.bool (!(s==t)&&!(a*d==0)),.slice pt nt ct,.slice pb nb cb]) (by simp [results,Tryz.results93,go_sem,k0,k1,k2]) rfl ?_
 exact hfin.out _ rfl
end Go.Proofs.YtlcpcpmlfegejaaGreatDoor
namespace Big
theorem ratv_quo {s t:Bool} {a b c d:Nat} (hb:0<b) (hd:0<d) (hc:0<c):ratv (s != t) (a*d) (b*c)=ratv s a b/ratv t c d:=by
 have h1:=natCast_ne hb
 have h2:=natCast_ne hd
 have h3:=natCast_ne hc
 unfold ratv
 rw [Rat.natCast_mul,Rat.natCast_mul]
 cases s<;>cases t<;>simp<;>grind
theorem ratv_neg (s:Bool) (a b:Nat):ratv (!s) a b=- ratv s a b:=by
 unfold ratv
 cases s<;>simp<;>grind
end Big
