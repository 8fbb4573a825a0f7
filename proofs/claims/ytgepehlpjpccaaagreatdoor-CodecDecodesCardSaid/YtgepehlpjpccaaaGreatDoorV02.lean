/- Contracts. -/
import Derived.Test.YtgepehlpjpccaaaGreatDoorRg
set_option maxHeartbeats 3200000
set_option maxRecDepth 100000
namespace Go.Proofs.YtgepehlpjpccaaaGreatDoor
open Go.RowKit Big
open Go.Lib
def yec (q:Rat) (f:Bool) (w:World) (e:Ending) (w':World):Prop:=∃ b p n c p2 n2 c2,e=.returned (.tuple #[.agg #[.bool b,.slice p n c,.slice p2 n2 c2],.bool f])∧Be w w'∧uH w' (.agg #[.bool b,.slice p n c,.slice p2 n2 c2]) q
theorem yec.flag {q:Rat} {f:Bool} {w w':World} {e:Ending} (h:yec q f w e w'):zX q f w e w':=by
 obtain ⟨b,p,n,c,p2,n2,c2,he,hb,hq⟩:=h
 exact ⟨b,p,n,c,p2,n2,c2,he,hb,fun _=>hq⟩
theorem yoJ (s:ByteArray) (w:World) (h82:(82:Int)<s.size):Calls Tryz.prog 31 #[.string s] w (yec 0 false w):=by
 have zH:=yA (Resa.start w)
 go_in
 go_wp2
 refine bodyPost_ret (v:=.tuple #[.agg #[.bool false,.slice none 0 0,.slice none 0 0],.bool false]) ?h1 rfl ?h2
 case h1=>simp [results,Tryz.results31,go_sem]
 exact ⟨_,_,_,_,_,_,_,rfl,zH.out.below,uH.zero _⟩
theorem yoK (s:ByteArray) (w:World) (h82:(s.size:Int)≤82) (hpl:∀ W,Hid (Calls Tryz.prog 68 #[.string s] W (yep none W))):Calls Tryz.prog 31 #[.string s] w (yec 0 false w):=by
 have zH:=yA (Resa.start w)
 go_in
 go_wp2_with fail
 refine (hpl _).out.mono ?_
 rintro e w1 ⟨q1,b,p,n,c,p2,n2,c2,rfl,hb1,-⟩
 have hr2:=yA ((zH.out.next hb1).next (yD w1 (.cells #[.bool b,.slice p n c,.slice p2 n2 c2] 59)))
 obtain ⟨z0,z1,z2,l0,l1,l2,f0,f1,f2⟩:=hr2.out.slots
 have q3:=yA (hr2.out.put3 nl false none none 0 0 0 0).below
 clear hb1
 go_wp2
 refine bodyPost_ret (v:=.tuple #[.agg #[.bool false,.slice none 0 0,.slice none 0 0],.bool false]) ?h1 rfl ?h2
 case h1=>simp [results,Tryz.results31,go_sem,l0,l1,l2]
 exact ⟨_,_,_,_,_,_,_,rfl,q3.out,uH.zero _⟩
theorem yvi (s y:ByteArray) (q:Rat) (w:World) (h82:(s.size:Int)≤82) (hpl:∀ W,Hid (Calls Tryz.prog 68 #[.string s] W (zX q true W))) (htx:∀ W x,uH W x q→Hid (Calls Tryz.prog 69 #[x] W (Rp (.tuple #[.string y,.bool true]) W))) (he:(y.toList==s.toList)=true):Calls Tryz.prog 31 #[.string s] w (zX q true w):=by
 have zH:=yA (Resa.start w)
 go_in
 go_wp2_with fail
 refine (hpl _).out.mono ?_
 rintro e w1 ⟨b,p,n,c,p2,n2,c2,rfl,hb1,hq⟩
 have hr1:=zH.out.next hb1
 have hq1:=hq rfl
 have hr2:=yA (hr1.next (yD w1 (.cells #[.bool b,.slice p n c,.slice p2 n2 c2] 59)))
 have hq2:=yA (hq1.below (yD w1 (.cells #[.bool b,.slice p n c,.slice p2 n2 c2] 59)))
 have hbx:Hid ((w1.alloc (.cells #[.bool b,.slice p n c,.slice p2 n2 c2] 59)).heap[w1.heap.size]?=some (.cells #[.bool b,.slice p n c,.slice p2 n2 c2] 59 (0,0))):=yA (zG _ _)
 have ht:=htx _ _ hq2.out
 clear hb1 hq hr1 hq1
 go_wp2_with fail
 refine ht.out.mono ?_
 rintro e w3 ⟨rfl,hb3⟩
 have hr3:=yA (hr2.out.next hb3)
 have hq3:=hq2.out.below hb3
 have ycb:w3.heap[w1.heap.size]?=some (.cells #[.bool b,.slice p n c,.slice p2 n2 c2] 59 (0,0)):=(hb3.block _ (by simp)).trans hbx.out
 have c0:=zW ycb 0
 have c1:=zW ycb 1
 have c2':=zW ycb 2
 obtain ⟨z0,z1,z2,l0,l1,l2,f0,f1,f2⟩:=hr3.out.slots
 obtain ⟨u,v,he,hu,hv⟩:=hq3
 cases he
 have yF:=yA (hr3.out.fin nl rfl hu hv)
 obtain ⟨sb,hsb⟩:∃ sb,Hid (sb=decide (q.num<0)):=⟨_,yA rfl⟩
 rw [← hsb.out] at yF c0 ycb
 rw [← hsb.out]
 clear ycb hb3 hu hv ht
 go_wp2
 refine bodyPost_ret (v:=.tuple #[.agg #[.bool sb,.slice p n c,.slice p2 n2 c2],.bool true]) ?h1 rfl ?h2
 case h1=>simp [results,Tryz.results31,go_sem,l0,l1,l2]
 obtain ⟨x,hx,hq,hb⟩:=yF.out
 cases hx
 exact ⟨_,_,_,_,_,_,_,rfl,hb,fun _=>hq⟩
theorem ytO (s y:ByteArray) (q:Rat) (w:World) (h82:(s.size:Int)≤82) (hpl:∀ W,Hid (Calls Tryz.prog 68 #[.string s] W (zX q true W))) (htx:∀ W x,uH W x q→Hid (Calls Tryz.prog 69 #[x] W (Rp (.tuple #[.string y,.bool true]) W))) (he:(y.toList==s.toList)=false):Calls Tryz.prog 31 #[.string s] w (yec q false w):=by
 have zH:=yA (Resa.start w)
 go_in
 go_wp2_with fail
 refine (hpl _).out.mono ?_
 rintro e w1 ⟨b,p,n,c,p2,n2,c2,rfl,hb1,hq⟩
 have hr1:=zH.out.next hb1
 have hq1:=hq rfl
 have hr2:=yA (hr1.next (yD w1 (.cells #[.bool b,.slice p n c,.slice p2 n2 c2] 59)))
 have hq2:=yA (hq1.below (yD w1 (.cells #[.bool b,.slice p n c,.slice p2 n2 c2] 59)))
 have hbx:Hid ((w1.alloc (.cells #[.bool b,.slice p n c,.slice p2 n2 c2] 59)).heap[w1.heap.size]?=some (.cells #[.bool b,.slice p n c,.slice p2 n2 c2] 59 (0,0))):=yA (zG _ _)
 have ht:=htx _ _ hq2.out
 clear hb1 hq hr1 hq1
 go_wp2_with fail
 refine ht.out.mono ?_
 rintro e w3 ⟨rfl,hb3⟩
 have hr3:=yA (hr2.out.next hb3)
 have hq3:=hq2.out.below hb3
 have ycb:w3.heap[w1.heap.size]?=some (.cells #[.bool b,.slice p n c,.slice p2 n2 c2] 59 (0,0)):=(hb3.block _ (by simp)).trans hbx.out
 have c0:=zW ycb 0
 have c1:=zW ycb 1
 have c2':=zW ycb 2
 obtain ⟨z0,z1,z2,l0,l1,l2,f0,f1,f2⟩:=hr3.out.slots
 obtain ⟨u,v,he,hu,hv⟩:=hq3
 cases he
 have yF:=yA (hr3.out.fin nl rfl hu hv)
 obtain ⟨sb,hsb⟩:∃ sb,Hid (sb=decide (q.num<0)):=⟨_,yA rfl⟩
 rw [← hsb.out] at yF c0 ycb
 rw [← hsb.out]
 clear ycb hb3 hu hv ht
 go_wp2
 refine bodyPost_ret (v:=.tuple #[.agg #[.bool sb,.slice p n c,.slice p2 n2 c2],.bool false]) ?h1 rfl ?h2
 case h1=>simp [results,Tryz.results31,go_sem,l0,l1,l2]
 obtain ⟨x,hx,hq,hb⟩:=yF.out
 cases hx
 exact ⟨_,_,_,_,_,_,_,rfl,hb,hq⟩
theorem ytP (s y:ByteArray) (q:Rat) (w:World) (h82:(s.size:Int)≤82) (hpl:∀ W,Hid (Calls Tryz.prog 68 #[.string s] W (zX q true W))) (htx:∀ W x,uH W x q→Hid (Calls Tryz.prog 69 #[x] W (Rp (.tuple #[.string y,.bool false]) W))) :Calls Tryz.prog 31 #[.string s] w (yec q false w):=by
 have zH:=yA (Resa.start w)
 go_in
 go_wp2_with fail
 refine (hpl _).out.mono ?_
 rintro e w1 ⟨b,p,n,c,p2,n2,c2,rfl,hb1,hq⟩
 have hr1:=zH.out.next hb1
 have hq1:=hq rfl
 have hr2:=yA (hr1.next (yD w1 (.cells #[.bool b,.slice p n c,.slice p2 n2 c2] 59)))
 have hq2:=yA (hq1.below (yD w1 (.cells #[.bool b,.slice p n c,.slice p2 n2 c2] 59)))
 have hbx:Hid ((w1.alloc (.cells #[.bool b,.slice p n c,.slice p2 n2 c2] 59)).heap[w1.heap.size]?=some (.cells #[.bool b,.slice p n c,.slice p2 n2 c2] 59 (0,0))):=yA (zG _ _)
 have ht:=htx _ _ hq2.out
 clear hb1 hq hr1 hq1
 go_wp2_with fail
 refine ht.out.mono ?_
 rintro e w3 ⟨rfl,hb3⟩
 have hr3:=yA (hr2.out.next hb3)
 have hq3:=hq2.out.below hb3
 have ycb:w3.heap[w1.heap.size]?=some (.cells #[.bool b,.slice p n c,.slice p2 n2 c2] 59 (0,0)):=(hb3.block _ (by simp)).trans hbx.out
 have c0:=zW ycb 0
 have c1:=zW ycb 1
 have c2':=zW ycb 2
 obtain ⟨z0,z1,z2,l0,l1,l2,f0,f1,f2⟩:=hr3.out.slots
 obtain ⟨u,v,he,hu,hv⟩:=hq3
 cases he
 have yF:=yA (hr3.out.fin nl rfl hu hv)
 obtain ⟨sb,hsb⟩:∃ sb,Hid (sb=decide (q.num<0)):=⟨_,yA rfl⟩
 rw [← hsb.out] at yF c0 ycb
 rw [← hsb.out]
 clear ycb hb3 hu hv ht
 go_wp2
 refine bodyPost_ret (v:=.tuple #[.agg #[.bool sb,.slice p n c,.slice p2 n2 c2],.bool false]) ?h1 rfl ?h2
 case h1=>simp [results,Tryz.results31,go_sem,l0,l1,l2]
 obtain ⟨x,hx,hq,hb⟩:=yF.out
 cases hx
 exact ⟨_,_,_,_,_,_,_,rfl,hb,hq⟩
def ynw (o:Option Rat) (w:World) (e:Ending) (w':World):Prop:=match o with
 | some q=>zX q true w e w'
 | none=>∃ q,zX q false w e w'
theorem yrL {l:Lb} {s:Bool} {n d:Nat} (h:GP l=some (s,n,d)) (hl:l.length≤82):QLt 10 (yX s n d)∧0<d:=by
 unfold GP at h
 rw [Option.map_eq_some_iff] at h
 obtain ⟨⟨n',d'⟩,h1,h2⟩:=h
 simp only [Prod.mk.injEq] at h2
 rw [h2.2.1,h2.2.2] at h1
 have hd:=yeV h1
 refine ⟨?_,hd⟩
 have h3:n<B9^10∧d<B9^10:=by
  have e9:B9^10=10^90:=by rw [GW]
  rw [e9]
  have hle:(Lib.trimPrefix l [45]).length≤82:=Nat.le_trans (yfM l) hl
  generalize Lib.trimPrefix l [45]=m at h1 hle
  have hdv:∀ x:Lb,yZ x=true→x.length≤82→zC x<10^90:=fun x hx hxl =>
   Nat.lt_of_lt_of_le (ycf x (jI hx)) (Nat.pow_le_pow_right (by omega) (by omega))
  obtain ⟨k1,k2,k3⟩:=ycW m 46
  obtain ⟨m1,m2,m3⟩:=ycW m 47
  unfold uQ at h1
  split at h1
  ·split at h1
   ·rename_i hdd
    rw [Bool.and_eq_true] at hdd
    simp only [Option.some.injEq,Prod.mk.injEq] at h1
    obtain ⟨rfl,rfl⟩:=h1
    refine ⟨hdv _ ?_ (by rw [List.length_append];omega),Nat.pow_lt_pow_right (by omega) (by omega)⟩
    unfold yZ
    rw [List.all_append,jI hdd.1,jI hdd.2]
    have:=hdd.1
    unfold yZ at this
    simp at this ⊢
    intro h;exact absurd h this.2
   ·cases h1
  ·split at h1
   ·split at h1
    ·rename_i hdd
     rw [Bool.and_eq_true,Bool.and_eq_true] at hdd
     simp only [Option.some.injEq,Prod.mk.injEq] at h1
     obtain ⟨rfl,rfl⟩:=h1
     exact ⟨hdv _ hdd.1.1 (by omega),hdv _ hdd.1.2 (by omega)⟩
    ·cases h1
   ·split at h1
    ·rename_i hdd
     simp only [Option.some.injEq,Prod.mk.injEq] at h1
     obtain ⟨rfl,rfl⟩:=h1
     exact ⟨hdv _ hdd hle,Nat.one_lt_pow (by omega) (by omega)⟩
    ·cases h1
 have e:yX s n d=yX (s&&!(n==0)) n d:=(uD s n d).symm
 rw [e]
 exact ynr _ h3.1 h3.2 hd (by intro h;simp at h;omega)
theorem ykY {l:Lb} (h:GP l=none):num l=none:=by
 unfold num yam;rw [h];split<;>rfl
theorem yvj {l:Lb} {s:Bool} {n d:Nat} (h:GP l=some (s,n,d)) (hl:l.length≤82) (hd:0<d):num l=if txt (yX s n d)=l then some (yX s n d) else none:=by
 unfold num yam
 rw [if_neg (by omega),h]
 have e:=yiE (s:=s) (a:=n) (b:=d) hd
 rw [uD] at e
 simp only [e]
 split
 ·simp [uD]
 ·rfl
theorem yia (s:ByteArray) (w:World):Calls Tryz.prog 31 #[.string s] w (ynw (num s.data.toList) w):=by
 have hls:s.data.toList.length=s.size:=by simp
 by_cases h82:s.size≤82
 ·cases hr:GP s.data.toList with
  | none =>
   rw [ykY hr]
   exact (yoK s w (by omega) (fun W=>yA (by have h:=yhr s W (by omega);rw [hr] at h;exact h))).mono fun e w' h=>⟨_,h.flag⟩
  | some t =>
   obtain ⟨sg,n,d⟩:=t
   obtain ⟨hK,hd⟩:=yrL hr (by omega)
   rw [yvj hr (by omega) hd]
   obtain ⟨y,hy⟩:∃ y:ByteArray,y=⟨(txt (yX sg n d)).toArray⟩:=⟨_,rfl⟩
   have hyl:y.data.toList=txt (yX sg n d):=by rw [hy]
   have hyl2:y.toList=txt (yX sg n d):=by rw [Lib.toList_data];exact hyl
   have hpl:∀ W,Hid (Calls Tryz.prog 68 #[.string s] W (zX (yX sg n d) true W)):=fun W=>yA (by have h:=yhr s W (by omega);rw [hr] at h;exact h)
   have htx:∀ f,f=(!(txt (yX sg n d)).isEmpty)→∀ W x,uH W x (yX sg n d)→Hid (Calls Tryz.prog 69 #[x] W (Rp (.tuple #[.string y,.bool f]) W)):=by
    rintro f rfl W x hx
    rw [hy];exact yA (yql x _ 10 W (by omega) hK hx)
   have hne:s.data.toList≠[]:=by intro h;rw [h] at hr;cases hr
   cases hf:(txt (yX sg n d)).isEmpty with
   | true =>
    have h0:txt (yX sg n d)=[]:=List.isEmpty_iff.1 hf
    rw [if_neg (by rw [h0];exact fun h=>hne h.symm)]
    exact (ytP s y (yX sg n d) w (by omega) hpl (htx false (by rw [hf];rfl))).mono fun e w' h=>⟨_,h.flag⟩
   | false =>
    by_cases he:txt (yX sg n d)=s.data.toList
    ·rw [if_pos he]
     exact yvi s y (yX sg n d) w (by omega) hpl (htx true (by rw [hf];rfl)) (by rw [hyl2,he,Lib.toList_data];simp)
    ·rw [if_neg he]
     exact (ytO s y (yX sg n d) w (by omega) hpl (htx true (by rw [hf];rfl)) (by rw [hyl2,Lib.toList_data,beq_eq_false_iff_ne];exact he)).mono fun e w' h=>⟨_,h.flag⟩
 ·have hn:num s.data.toList=none:=by unfold num yam;rw [if_pos (by omega)];rfl
  rw [hn]
  exact (yoJ s w (by omega)).mono fun e w' h=>⟨_,h.flag⟩
def yla (q:Rat) (w:World) (e:Ending) (w':World):Prop:=∃ sb p n c p2 n2 c2,e=.returned (.agg #[.bool sb,.slice p n c,.slice p2 n2 c2])∧uH w' (.agg #[.bool sb,.slice p n c,.slice p2 n2 c2]) q∧Be w w'
theorem yae.c {q:Rat} {w w':World} {e:Ending} (h:yae q w e w'):yla q w e w':=by
 obtain ⟨x,rfl,hx,hb⟩:=h
 obtain ⟨p,n,c,p2,n2,c2,rfl,h1,h2⟩:=hx.slices
 exact ⟨_,p,n,c,p2,n2,c2,rfl,hx,hb⟩
theorem Keep.put3 {w0 W:World} {L:List Blk} {g:Nat} {z0 z1 z2:Value} {T:TypeId} (h:Keep w0 W ((g,#[z0,z1,z2],T)::L)) (hg:w0.heap.size≤g) (hne:∀ x ∈ L,x.1≠g) (a b c:Value) :
  Keep w0 (((W.setCell ⟨g,0,none⟩ a).setCell ⟨g,1,none⟩ b).setCell ⟨g,2,none⟩ c) ((g,#[a,b,c],T)::L) :=
 ((h.put hg hne 0 a).put hg hne 1 b).put hg hne 2 c
theorem yj4 (s:ByteArray) (o:Option Rat) (h:num s.data.toList=o) (W:World):Calls Tryz.prog 31 #[.string s] W (zX (o.getD 0) o.isSome W):=by
 have g:=yia s W
 rw [h] at g
 cases o with
 | some q=>exact g
 | none=>exact g.mono fun e w' ⟨q,b,p,n,c,p2,n2,c2,h1,h2,_⟩=>⟨b,p,n,c,p2,n2,c2,h1,h2,fun h=>by cases h⟩
theorem uH.put3 {B:Nat} {w0 W:World} {x:Value} {r:Rat} (hq:uH W x r) (h:Resa B w0 W) (hB:w0.heap.size≤B) (a:Bool) (p q:Oa) (n c m d:Nat):uH (((W.setCell ⟨B,0,none⟩ (.bool a)).setCell ⟨B,1,none⟩ (.slice p n c)).setCell ⟨B,2,none⟩ (.slice q m d)) x r:=by
 obtain ⟨u,v,rfl,hu,hv⟩:=hq
 exact ⟨u,v,rfl,h.nat3 hB hu a p q n c m d,hv.imp (fun h2=>h.nat3 hB h2 a p q n c m d) fun h2=>⟨h.nat3 hB h2.1 a p q n c m d,h2.2⟩⟩
theorem yib {l:Lb} {q:Rat} (h:num l=some q):QLt 5 q:=by
 have hs:=yot h
 unfold ylA at hs
 have hb:∀ n:Nat,nDigits n≤40→n<B9^5:=by
  intro n hn
  have h1:=ycf (decDigits n) (yh5 n).1
  rw [(yh5 n).2,decDigits_length] at h1
  rw [GW]
  exact Nat.lt_of_lt_of_le h1 (Nat.pow_le_pow_right (by omega) (by omega))
 exact ⟨hb _ hs.1,hb _ hs.2⟩
theorem ymM {K:Nat} {q:Rat} {s:Bool} {a b:Nat} (h:yX s a b=q) (ha:a<B9^K) (hb:b<B9^K) (hb0:0<b):QLt K q:=by
 rw [← h,← uD]
 exact ynr _ ha hb hb0 (by intro h;simp at h;omega)
theorem yrM (a b:Rat):∃ (s:Bool) (n:Nat),yX s n (a.den*b.den)=a+b∧n≤a.num.natAbs*b.den+b.num.natAbs*a.den:=by
 have e1:yX (decide (a.num<0)) (a.num.natAbs*b.den) (a.den*b.den)=a:=by rw [uA a.den_pos b.den_pos,GC]
 have e2:yX (decide (b.num<0)) (b.num.natAbs*a.den) (a.den*b.den)=b:=by rw [Nat.mul_comm a.den b.den,uA b.den_pos a.den_pos,GC]
 by_cases h:decide (a.num<0)=decide (b.num<0)
 ·rw [← h] at e2
  exact ⟨_,_,by rw [yen,e1,e2],Nat.le_refl _⟩
 ·by_cases hle:b.num.natAbs*a.den≤a.num.natAbs*b.den
  ·exact ⟨_,_,by rw [yaB h hle,e1,e2],by omega⟩
  ·exact ⟨_,_,by rw [yaB (fun e=>h e.symm) (Nat.le_of_lt (Nat.lt_of_not_le hle)),e1,e2,Rat.add_comm],by omega⟩
theorem QLt.add {K L:Nat} {a b:Rat} (ha:QLt K a) (hb:QLt L b):QLt (K+L+1) (a+b):=by
 obtain ⟨s,n,h1,h2⟩:=yrM a b
 have h3:=uL ha.1 hb.2
 have h4:=uL hb.1 ha.2
 rw [Nat.add_comm L K] at h4
 have h5:B9^(K+L+1)=B9^(K+L)*1000000000:=by rw [Nat.pow_succ,zE]
 exact ymM h1 (by omega) (GV (uL ha.2 hb.2) (by omega)) (Nat.mul_pos a.den_pos b.den_pos)
end Go.Proofs.YtgepehlpjpccaaaGreatDoor
namespace Go.Proofs.YtgepehlpjpccaaaGreatDoor
open Go.RowKit Big
open Go.Lib
theorem yoL (x:Value) (q:Rat) (K:Nat) (w:World) (hK:K≤900000) (hK1:1≤K) (hq:QLt K q) (hx:uH w x q):Calls Tryz.prog 97 #[x] w (Rp (.bool (decide (q.den=1))) w):=by
 have yaX:=yA (fun W (hW:Be w W)=>ycY x q W (hx.below hW))
 have jT:=yA (fun W=>ycX W)
 have yaa:=yA (fun W (u v:Value) (hu:yE W u q.den) (hv:yE W v 1)=>GU u v q.den 1 K W (by unfold yK;omega) hq.2 (GV (K:=1) (by rw [Nat.pow_one,zE];omega) hK1) hu hv)
 have zH:Hid (((jH q.den 1==0):Bool)=decide (q.den=1)):=yA (by
  unfold jH
  by_cases h:q.den=1
  ·rw [h];rfl
  ·have:=q.den_pos
   rw [if_neg (by omega),if_pos (by omega)]
   simp [h])
 obtain ⟨p,n,c,p2,n2,c2,rfl,-,-⟩:=hx.slices
 obtain ⟨s,hs⟩:∃ s,Hid (s=decide (q.num<0)):=⟨_,yA rfl⟩
 rw [← hs.out] at yaX ⊢
 obtain ⟨z,hz⟩:∃ z,Hid (z=jH q.den 1):=⟨_,yA rfl⟩
 obtain ⟨r,hr⟩:∃ r,Hid (r=decide (q.den=1)):=⟨_,yA rfl⟩
 rw [← hz.out,← hr.out] at zH
 rw [← hr.out]
 clear hx hq
 go_in
 go_wp2_with fail
 refine (yaX.out _ (yD _ _)).mono ?_
 rintro e w1 ⟨p3,n3,c3,rfl,hv3,hb1⟩
 have Hb1:=yA ((yD w _).trans (hb1.mono (yD w _).size))
 have Hv3:=yA hv3
 clear hb1 hv3
 go_wp2_with fail
 refine (jT.out _).mono ?_
 rintro e w2 ⟨v2,rfl,hv2,hb2,-⟩
 obtain ⟨p4,n4,c4,rfl⟩:=hv2.slice
 have Hb2:=yA (tr Hb1.out hb2)
 have hc2:=yA (yaa.out w2 _ _ (Hv3.out.below hb2) hv2)
 clear hb2 hv2
 go_wp2_with fail
 refine hc2.out.mono ?_
 rintro e w3 ⟨rfl,k,rfl⟩
 rw [← hz.out]
 go_wp2
 go_ret
 exact ⟨by rw [← zH.out];rfl,Hb2.out.trans (yG _ _ _)⟩
end Go.Proofs.YtgepehlpjpccaaaGreatDoor
namespace Go.Proofs.YtgepehlpjpccaaaGreatDoor
open Go.RowKit Big
open Go.Lib
theorem yf7 (s:ByteArray) (w:World):Calls Tryz.prog 118 #[.string s] w (Rp (.bool (num s.data.toList).isSome) w):=by
 have hg:=fun W=>yA (yj4 s _ rfl W)
 generalize (num s.data.toList).isSome=f at hg ⊢
 go_in
 go_wp2_with fail
 refine (hg _).out.mono ?_
 rintro e w1 ⟨b1,p,n,c,p2,n2,c2,rfl,hb1,-⟩
 have HB:Hid (∀ o1,Be w (w1.alloc o1)):=yA fun o1=>hb1.alloc hb1.size o1
 clear hb1
 go_wp2
 go_ret
 exact ⟨rfl,HB.out _⟩
end Go.Proofs.YtgepehlpjpccaaaGreatDoor
namespace Go.Proofs.YtgepehlpjpccaaaGreatDoor
open Go.RowKit Big List
open Go.Lib
theorem yrN (w:World):Calls Tryz.prog 96 #[.string ⟨#[]⟩] w (Rp (.bool true) w):=by
 go_in
 go_wp2
 go_ret
 exact ⟨rfl,Below.refl _ _⟩
theorem yoM (l:Lb) (_hl:¬ l=[]) (hl2:l.isEmpty=false) (f:Bool) (w:World) (h20:Hid (∀ W,Be w W→Calls Tryz.prog 118 #[.string ⟨l.toArray⟩] W (Rp (.bool f) W))):Calls Tryz.prog 96 #[.string ⟨l.toArray⟩] w (Rp (.bool f) w):=by
 go_in
 go_wp2_with fail
 refine (h20.out _ bR).mono ?_
 rintro e w1 ⟨rfl,hb⟩
 have B1:=yA (hb)
 clear hb
 go_wp2
 go_ret
 exact ⟨rfl,B1.out⟩
theorem yoN (x:ByteArray) (k:Int) (h1:k<1) (w:World):Calls Tryz.prog 50 #[.int .i64 k,.string x] w (Rp (.bool false) w):=by
 go_in
 go_wp2
 go_ret
 exact ⟨rfl,Below.refl _ _⟩
theorem ymN (x:ByteArray) (k:Int) (h1:¬ k<1) (h2:5<k) (w:World):Calls Tryz.prog 50 #[.int .i64 k,.string x] w (Rp (.bool false) w):=by
 go_in
 go_wp2
 go_ret
 exact ⟨rfl,Below.refl _ _⟩
theorem yoO (x:ByteArray) (k:Int) (h1:¬ k<1) (h2:¬ 5<k) (w:World) (yfe:Hid (∀ W,Be w W→Calls Tryz.prog 96 #[.string x] W (Rp (.bool false) W))):Calls Tryz.prog 50 #[.int .i64 k,.string x] w (Rp (.bool false) w):=by
 go_in
 go_wp2_with fail
 refine (yfe.out _ bR).mono ?_
 rintro e w1 ⟨rfl,hb⟩
 have B1:=yA (hb)
 clear hb
 go_wp2
 go_ret
 exact ⟨rfl,B1.out⟩
theorem yoP (k:Int) (h1:¬ k<1) (h2:¬ 5<k) (w:World) (yfe:Hid (∀ W,Be w W→Calls Tryz.prog 96 #[.string ⟨#[]⟩] W (Rp (.bool true) W))):Calls Tryz.prog 50 #[.int .i64 k,.string ⟨#[]⟩] w (Rp (.bool true) w):=by
 go_in
 go_wp2_with fail
 refine (yfe.out _ bR).mono ?_
 rintro e w1 ⟨rfl,hb⟩
 have B1:=yA (hb)
 clear hb
 go_wp2
 go_ret
 exact ⟨rfl,B1.out⟩
theorem yoQ (l:Lb) (_hl:¬ l=[]) (hl2:l.isEmpty=false) (w:World) (yfe:Hid (∀ W,Be w W→Calls Tryz.prog 96 #[.string ⟨l.toArray⟩] W (Rp (.bool true) W))):Calls Tryz.prog 50 #[.int .i64 5,.string ⟨l.toArray⟩] w (Rp (.bool true) w):=by
 go_in
 go_wp2_with fail
 refine (yfe.out _ bR).mono ?_
 rintro e w1 ⟨rfl,hb⟩
 have B1:=yA (hb)
 clear hb
 go_wp2
 go_ret
 exact ⟨rfl,B1.out⟩
theorem ymO (l:Lb) (_hl:¬ l=[]) (hl2:l.isEmpty=false) (k:Int) (C:Nat) (hk:(k=1∧C=7)∨(k=2∧C=15)∨(k=3∧C=31)∨(k=4∧C=63)) (q lim:Rat) (f res:Bool) (c1 c2:Int)
  (yds:Hid ((f=false∧res=false)∨(f=true∧¬ 0≤c1∧res=false)∨(f=true∧0≤c1∧res=decide (c2<0)))) (w:World)
  (yfe:Hid (∀ W,Be w W→Calls Tryz.prog 96 #[.string ⟨l.toArray⟩] W (Rp (.bool true) W))) (h40:Hid (∀ W,Be w W→Calls Tryz.prog 31 #[.string ⟨l.toArray⟩] W (zX q true W)))
  (h97:Hid (∀ W,Calls Tryz.prog 67 #[] W (zJ 1 W))) (h78:Hid (∀ W,Calls Tryz.prog 66 #[.int .u64 2] W (zJ 2 W))) (h99:Hid (∀ W u v i,i≤63→yE W u (2^i)→yE W v 2→Calls Tryz.prog 70 #[u,v] W (zJ (2^(i+1)) W)))
  (h98:Hid (∀ W u v,yE W u (2^C)→yE W v 1→Calls Tryz.prog 65 #[.bool false,u,v] W (yla lim W))) (h44:Hid (∀ W u,uH W u q→Calls Tryz.prog 97 #[u] W (Rp (.bool f) W)))
  (h43:Hid (∀ W u,uH W u lim→Calls Tryz.prog 53 #[u] W (yla (-lim) W))) (h46:Hid (∀ W u v,uH W u q→uH W v (-lim)→Calls Tryz.prog 52 #[u,v] W (Rp (.int .i64 c1) W)))
  (h47:Hid (∀ W u v,uH W u q→uH W v lim→Calls Tryz.prog 52 #[u,v] W (Rp (.int .i64 c2) W))):Calls Tryz.prog 50 #[.int .i64 k,.string ⟨l.toArray⟩] w (Rp (.bool res) w):=by
 rcases hk with ⟨rfl,hC⟩|⟨rfl,hC⟩|⟨rfl,hC⟩|⟨rfl,hC⟩
 all_goals
  have HC:=yA hC
  clear hC
  go_in
  go_wp2_with fail
  refine (yfe.out _ bR).mono ?_
  rintro e w1 ⟨rfl,hb⟩
  have B1:=yA hb
  clear hb
  go_wp2_with fail
  refine (h40.out _ B1.out).mono ?_
  rintro e w2 ⟨g2,p2,n2,c2',q2,m2,d2,rfl,hb,hq⟩
  have K2:=yA ((Keep.next (L:=[]) ⟨B1.out,fun _ h=>by cases h⟩ hb).more #[.bool g2,.slice p2 n2 c2',.slice q2 m2 d2] 59)
  have Q2:=yA ((hq rfl).below (yD w2 (.cells #[.bool g2,.slice p2 n2 c2',.slice q2 m2 d2] 59)))
  clear hb hq B1
  go_wp2_with fail
  refine (h97.out _).mono ?_
  rintro e w3 ⟨v3,rfl,hv,hb,-⟩
  have hst:Hid (∃ i:Nat,i≤C∧Value.int .i64 0=.int .i64 (i:Int)∧Hid (Keep w w3 [(w2.heap.size,#[.bool g2,.slice p2 n2 c2',.slice q2 m2 d2],59)]∧uH w3 (.agg #[.bool g2,.slice p2 n2 c2',.slice q2 m2 d2]) q∧yE w3 v3 (2^i))):=yA ⟨0,by omega,rfl,yA ⟨K2.out.next hb,Q2.out.below hb,hv⟩⟩
  clear hb hv K2 Q2
  go_wp2
  go_loopw [7,37] (fun mv iv wr=>∃ i:Nat,i≤C∧iv=.int .i64 (i:Int)∧Hid (Keep w wr [(w2.heap.size,#[.bool g2,.slice p2 n2 c2',.slice q2 m2 d2],59)]∧uH wr (.agg #[.bool g2,.slice p2 n2 c2',.slice q2 m2 d2]) q∧yE wr mv (2^i))) (fun _ iv _=>C-(intOf iv).toNat)
  case atStart=>exact hst.out
  case round =>
   obtain ⟨i,hi,rfl,yJ⟩:=hrel
   by_cases hlt:i<C
   ·have hC:=HC.out
    first|have hlt':(i:Int)<7:=by omega|have hlt':(i:Int)<15:=by omega|have hlt':(i:Int)<31:=by omega|have hlt':(i:Int)<63:=by omega
    have hi63:Hid (i≤63):=yA (by omega)
    clear hC
    clear hlt
    go_wp2_with fail
    refine (h78.out _).mono ?_
    rintro e w4 ⟨v4,rfl,hv4,hb4,-⟩
    have hc:=yA (h99.out w4 _ _ i hi63.out (yJ.out.2.2.below hb4) hv4)
    have hk4:=yA (yJ.out.1.next hb4)
    have hq4:=yA (yJ.out.2.1.below hb4)
    clear hv4 hb4 yJ
    go_wp2_with fail
    refine hc.out.mono ?_
    rintro e w5 ⟨v5,rfl,hv5,hb5,-⟩
    have hnx:=yA (And.intro (hk4.out.next hb5) (And.intro (hq4.out.below hb5) hv5))
    clear hv5 hb5 hc
    go_wp2
    go_roundw
    case rel=>exact ⟨i+1,by have:=HC.out;omega,by go_num,hnx⟩
    case measure=>simp [intOf];have:=HC.out;omega
   ·obtain rfl:i=C:=by omega
    have hC:=HC.out
    subst hC
    clear HC
    go_wp2_with fail
    refine (h97.out _).mono ?_
    rintro e w5 ⟨v5,rfl,hv5,hb5,-⟩
    have hc:=yA (h98.out w5 _ _ (yJ.out.2.2.below hb5) hv5)
    have hk5:=yA (yJ.out.1.next hb5)
    have hq5:=yA (yJ.out.2.1.below hb5)
    clear hv5 hb5 yJ
    go_wp2_with fail
    refine hc.out.mono ?_
    rintro e w6 ⟨g6,p6,n6,c6,q6,m6,d6,rfl,hz,hb⟩
    have K6:=yA ((hk5.out.next hb).more #[.bool g6,.slice p6 n6 c6,.slice q6 m6 d6] 59)
    have QL:=yA (hz.below (yD w6 (.cells #[.bool g6,.slice p6 n6 c6,.slice q6 m6 d6] 59)))
    have QR:=yA ((hq5.out.below hb).below (yD w6 (.cells #[.bool g6,.slice p6 n6 c6,.slice q6 m6 d6] 59)))
    have HR:=yA K6.out.below
    have KR:=yA (Keep.mk bR K6.out.all:Keep (w6.alloc (.cells #[.bool g6,.slice p6 n6 c6,.slice q6 m6 d6] 59)) (w6.alloc (.cells #[.bool g6,.slice p6 n6 c6,.slice q6 m6 d6] 59)) [(w6.heap.size,#[.bool g6,.slice p6 n6 c6,.slice q6 m6 d6],59),(w2.heap.size,#[.bool g2,.slice p2 n2 c2',.slice q2 m2 d2],59)])
    have KB:Hid (∀ W,Keep (w6.alloc (.cells #[.bool g6,.slice p6 n6 c6,.slice q6 m6 d6] 59)) W [(w6.heap.size,#[.bool g6,.slice p6 n6 c6,.slice q6 m6 d6],59),(w2.heap.size,#[.bool g2,.slice p2 n2 c2',.slice q2 m2 d2],59)]→(fun w'=>Keep (w6.alloc (.cells #[.bool g6,.slice p6 n6 c6,.slice q6 m6 d6] 59)) w' [(w6.heap.size,#[.bool g6,.slice p6 n6 c6,.slice q6 m6 d6],59),(w2.heap.size,#[.bool g2,.slice p2 n2 c2',.slice q2 m2 d2],59)]∧w'.cell? ⟨w6.heap.size,0,none⟩=some (.bool g6)∧w'.cell? ⟨w6.heap.size,1,none⟩=some (.slice p6 n6 c6)∧w'.cell? ⟨w6.heap.size,2,none⟩=some (.slice q6 m6 d6)∧w'.cell? ⟨w2.heap.size,0,none⟩=some (.bool g2)∧w'.cell? ⟨w2.heap.size,1,none⟩=some (.slice p2 n2 c2')∧w'.cell? ⟨w2.heap.size,2,none⟩=some (.slice q2 m2 d2)) W):=yA fun W h=>⟨h,zW (h.one _ (List.mem_cons_self ..)) 0,zW (h.one _ (List.mem_cons_self ..)) 1,zW (h.one _ (List.mem_cons_self ..)) 2,zW (h.one _ (List.mem_cons_of_mem _ (List.mem_cons_self ..))) 0,zW (h.one _ (List.mem_cons_of_mem _ (List.mem_cons_self ..))) 1,zW (h.one _ (List.mem_cons_of_mem _ (List.mem_cons_self ..))) 2⟩
    clear hz hb K6 hk5 hq5 hc
    go_wp2_with fail
    refine wp_region_held_drew (S:=fun w'=>Keep (w6.alloc (.cells #[.bool g6,.slice p6 n6 c6,.slice q6 m6 d6] 59)) w' [(w6.heap.size,#[.bool g6,.slice p6 n6 c6,.slice q6 m6 d6],59),(w2.heap.size,#[.bool g2,.slice p2 n2 c2',.slice q2 m2 d2],59)]∧w'.cell? ⟨w6.heap.size,0,none⟩=some (.bool g6)∧w'.cell? ⟨w6.heap.size,1,none⟩=some (.slice p6 n6 c6)∧w'.cell? ⟨w6.heap.size,2,none⟩=some (.slice q6 m6 d6)∧w'.cell? ⟨w2.heap.size,0,none⟩=some (.bool g2)∧w'.cell? ⟨w2.heap.size,1,none⟩=some (.slice p2 n2 c2')∧w'.cell? ⟨w2.heap.size,2,none⟩=some (.slice q2 m2 d2)) (by kernel_rfl) (KB.out _ (Keep.drew KR.out)) (fun hHeld=>?_)
    refine tk (i:=0) (v:=(.agg #[.bool g2,.slice p2 n2 c2',.slice q2 m2 d2])) rfl (Or.inl ⟨by rfl,by intro W hSw;clear hHeld;go_split_ands;go_simp⟩) ?_
    simp only [getElem_toArray,getElem_cons_zero,Act.put,setIfInBounds_toArray,set_cons_zero,set_cons_succ]
    refine oN (i:=1) rfl fun K hK=>?_
    go_simp
    refine (h44.out _ _ (QR.out.below hHeld.1.below)).mono ?_
    rintro e v1 ⟨rfl,hb1⟩
    go_simp
    refine hK.out _ _ (KB.out _ (hHeld.1.next hb1)) (fun hHeld=>?_)
    clear hK K
    rcases yds.out with h0|h0|h0
    ·obtain ⟨rfl,rfl⟩:=h0
     refine tk (i:=2) (v:=(.bool false)) rfl (Or.inl ⟨by rfl,by intro W hSw;clear hHeld;go_split_ands;go_simp⟩) ?_
     simp only [getElem_toArray,getElem_cons_zero,getElem_cons_succ,Act.put,setIfInBounds_toArray,set_cons_zero,set_cons_succ]
     refine tu (i:=3) rfl ?_
     simp only [getElem_toArray,getElem_cons_zero,getElem_cons_succ,Act.put,setIfInBounds_toArray,set_cons_zero,set_cons_succ]
     refine tu (i:=4) rfl ?_
     simp only [getElem_toArray,getElem_cons_zero,getElem_cons_succ,Act.put,setIfInBounds_toArray,set_cons_zero,set_cons_succ]
     refine tu (i:=5) rfl ?_
     simp only [getElem_toArray,getElem_cons_zero,getElem_cons_succ,Act.put,setIfInBounds_toArray,set_cons_zero,set_cons_succ]
     refine tu (i:=6) rfl ?_
     simp only [getElem_toArray,getElem_cons_zero,getElem_cons_succ,Act.put,setIfInBounds_toArray,set_cons_zero,set_cons_succ]
     refine tu (i:=7) rfl ?_
     simp only [getElem_toArray,getElem_cons_zero,getElem_cons_succ,Act.put,setIfInBounds_toArray,set_cons_zero,set_cons_succ]
     refine tk (i:=8) (v:=(.bool false)) rfl (Or.inl ⟨by rfl,by intro W hSw;clear hHeld;go_split_ands;go_simp⟩) ?_
     simp only [getElem_toArray,getElem_cons_zero,getElem_cons_succ,Act.put,setIfInBounds_toArray,set_cons_zero,set_cons_succ]
     refine tk (i:=9) (v:=(.bool false)) rfl (Or.inl ⟨by rfl,by intro W hSw;clear hHeld;go_split_ands;go_simp⟩) ?_
     simp only [getElem_toArray,getElem_cons_zero,getElem_cons_succ,Act.put,setIfInBounds_toArray,set_cons_zero,set_cons_succ]
     refine tu (i:=10) rfl ?_
     simp only [getElem_toArray,getElem_cons_zero,getElem_cons_succ,Act.put,setIfInBounds_toArray,set_cons_zero,set_cons_succ]
     refine tu (i:=11) rfl ?_
     simp only [getElem_toArray,getElem_cons_zero,getElem_cons_succ,Act.put,setIfInBounds_toArray,set_cons_zero,set_cons_succ]
     refine tu (i:=12) rfl ?_
     simp only [getElem_toArray,getElem_cons_zero,getElem_cons_succ,Act.put,setIfInBounds_toArray,set_cons_zero,set_cons_succ]
     refine tu (i:=13) rfl ?_
     simp only [getElem_toArray,getElem_cons_zero,getElem_cons_succ,Act.put,setIfInBounds_toArray,set_cons_zero,set_cons_succ]
     refine tk (i:=14) (v:=(.bool false)) rfl (Or.inl ⟨by rfl,by intro W hSw;clear hHeld;go_split_ands;go_simp⟩) ?_
     simp only [getElem_toArray,getElem_cons_zero,getElem_cons_succ,Act.put,setIfInBounds_toArray,set_cons_zero,set_cons_succ]
     refine tk (i:=15) (v:=(.bool false)) rfl (Or.inl ⟨by rfl,by intro W hSw;clear hHeld;go_split_ands;go_simp⟩) ?_
     simp only [getElem_toArray,getElem_cons_zero,getElem_cons_succ,Act.put,setIfInBounds_toArray,set_cons_zero,set_cons_succ]
     refine wpAnyH_done (by kernel_rfl) ?_ _
     go_wp2
     go_ret
     exact ⟨rfl,HR.out.trans (Below.mono hHeld.1.below HR.out.size)⟩
    all_goals
     obtain ⟨rfl,h1,rfl⟩:=h0
     refine tk (i:=2) (v:=(.bool true)) rfl (Or.inl ⟨by rfl,by intro W hSw;clear hHeld;go_split_ands;go_simp⟩) ?_
     simp only [getElem_toArray,getElem_cons_zero,getElem_cons_succ,Act.put,setIfInBounds_toArray,set_cons_zero,set_cons_succ]
     refine tk (i:=3) (v:=(.agg #[.bool g2,.slice p2 n2 c2',.slice q2 m2 d2])) rfl (Or.inl ⟨by rfl,by intro W hSw;clear hHeld;go_split_ands;go_simp⟩) ?_
     simp only [getElem_toArray,getElem_cons_zero,getElem_cons_succ,Act.put,setIfInBounds_toArray,set_cons_zero,set_cons_succ]
     refine tk (i:=4) (v:=(.agg #[.bool g6,.slice p6 n6 c6,.slice q6 m6 d6])) rfl (Or.inl ⟨by rfl,by intro W hSw;clear hHeld;go_split_ands;go_simp⟩) ?_
     simp only [getElem_toArray,getElem_cons_zero,getElem_cons_succ,Act.put,setIfInBounds_toArray,set_cons_zero,set_cons_succ]
     refine oN (i:=5) rfl fun K hK=>?_
     go_simp
     refine (h43.out _ _ (QL.out.below hHeld.1.below)).mono ?_
     rintro e v2 ⟨e0,e1,e2,e3,e4,e5,e6,rfl,hz2,hb2⟩
     go_simp
     refine hK.out _ _ (KB.out _ (hHeld.1.next hb2)) (fun hHeld=>?_)
     clear hK K
     refine oN (i:=6) rfl fun K hK=>?_
     go_simp
     refine (h46.out _ _ _ (QR.out.below hHeld.1.below) hz2).mono ?_
     rintro e v3 ⟨rfl,hb3⟩
     go_simp
     refine hK.out _ _ (KB.out _ (hHeld.1.next hb3)) (fun hHeld=>?_)
     clear hK K
    ·refine tk (i:=7) (v:=(.bool false)) rfl (Or.inl ⟨by rfl,by intro W hSw;clear hHeld;go_split_ands;go_simp⟩) ?_
     simp only [getElem_toArray,getElem_cons_zero,getElem_cons_succ,Act.put,setIfInBounds_toArray,set_cons_zero,set_cons_succ]
     refine tk (i:=8) (v:=(.bool false)) rfl (Or.inl ⟨by rfl,by intro W hSw;clear hHeld;go_split_ands;go_simp⟩) ?_
     simp only [getElem_toArray,getElem_cons_zero,getElem_cons_succ,Act.put,setIfInBounds_toArray,set_cons_zero,set_cons_succ]
     refine tk (i:=9) (v:=(.bool false)) rfl (Or.inl ⟨by rfl,by intro W hSw;clear hHeld;go_split_ands;go_simp⟩) ?_
     simp only [getElem_toArray,getElem_cons_zero,getElem_cons_succ,Act.put,setIfInBounds_toArray,set_cons_zero,set_cons_succ]
     refine tu (i:=10) rfl ?_
     simp only [getElem_toArray,getElem_cons_zero,getElem_cons_succ,Act.put,setIfInBounds_toArray,set_cons_zero,set_cons_succ]
     refine tu (i:=11) rfl ?_
     simp only [getElem_toArray,getElem_cons_zero,getElem_cons_succ,Act.put,setIfInBounds_toArray,set_cons_zero,set_cons_succ]
     refine tu (i:=12) rfl ?_
     simp only [getElem_toArray,getElem_cons_zero,getElem_cons_succ,Act.put,setIfInBounds_toArray,set_cons_zero,set_cons_succ]
     refine tu (i:=13) rfl ?_
     simp only [getElem_toArray,getElem_cons_zero,getElem_cons_succ,Act.put,setIfInBounds_toArray,set_cons_zero,set_cons_succ]
     refine tk (i:=14) (v:=(.bool false)) rfl (Or.inl ⟨by rfl,by intro W hSw;clear hHeld;go_split_ands;go_simp⟩) ?_
     simp only [getElem_toArray,getElem_cons_zero,getElem_cons_succ,Act.put,setIfInBounds_toArray,set_cons_zero,set_cons_succ]
     refine tk (i:=15) (v:=(.bool false)) rfl (Or.inl ⟨by rfl,by intro W hSw;clear hHeld;go_split_ands;go_simp⟩) ?_
     simp only [getElem_toArray,getElem_cons_zero,getElem_cons_succ,Act.put,setIfInBounds_toArray,set_cons_zero,set_cons_succ]
     refine wpAnyH_done (by kernel_rfl) ?_ _
     go_wp2
     go_ret
     exact ⟨rfl,HR.out.trans (Below.mono hHeld.1.below HR.out.size)⟩
    ·refine tk (i:=7) (v:=(.bool true)) rfl (Or.inl ⟨by rfl,by intro W hSw;clear hHeld;go_split_ands;go_simp⟩) ?_
     simp only [getElem_toArray,getElem_cons_zero,getElem_cons_succ,Act.put,setIfInBounds_toArray,set_cons_zero,set_cons_succ]
     refine tk (i:=8) (v:=(.bool true)) rfl (Or.inl ⟨by rfl,by intro W hSw;clear hHeld;go_split_ands;go_simp⟩) ?_
     simp only [getElem_toArray,getElem_cons_zero,getElem_cons_succ,Act.put,setIfInBounds_toArray,set_cons_zero,set_cons_succ]
     refine tk (i:=9) (v:=(.bool true)) rfl (Or.inl ⟨by rfl,by intro W hSw;clear hHeld;go_split_ands;go_simp⟩) ?_
     simp only [getElem_toArray,getElem_cons_zero,getElem_cons_succ,Act.put,setIfInBounds_toArray,set_cons_zero,set_cons_succ]
     refine tk (i:=10) (v:=(.agg #[.bool g2,.slice p2 n2 c2',.slice q2 m2 d2])) rfl (Or.inl ⟨by rfl,by intro W hSw;clear hHeld;go_split_ands;go_simp⟩) ?_
     simp only [getElem_toArray,getElem_cons_zero,getElem_cons_succ,Act.put,setIfInBounds_toArray,set_cons_zero,set_cons_succ]
     refine tk (i:=11) (v:=(.agg #[.bool g6,.slice p6 n6 c6,.slice q6 m6 d6])) rfl (Or.inl ⟨by rfl,by intro W hSw;clear hHeld;go_split_ands;go_simp⟩) ?_
     simp only [getElem_toArray,getElem_cons_zero,getElem_cons_succ,Act.put,setIfInBounds_toArray,set_cons_zero,set_cons_succ]
     refine oN (i:=12) rfl fun K hK=>?_
     go_simp
     refine (h47.out _ _ _ (QR.out.below hHeld.1.below) (QL.out.below hHeld.1.below)).mono ?_
     rintro e v4 ⟨rfl,hb4⟩
     go_simp
     refine hK.out _ _ (KB.out _ (hHeld.1.next hb4)) (fun hHeld=>?_)
     clear hK K
     refine tk (i:=13) (v:=(.bool (decide (c2<0)))) rfl (Or.inl ⟨by rfl,by intro W hSw;clear hHeld;go_split_ands;go_simp⟩) ?_
     simp only [getElem_toArray,getElem_cons_zero,getElem_cons_succ,Act.put,setIfInBounds_toArray,set_cons_zero,set_cons_succ]
     refine tk (i:=14) (v:=(.bool (decide (c2<0)))) rfl (Or.inl ⟨by rfl,by intro W hSw;clear hHeld;go_split_ands;go_simp⟩) ?_
     simp only [getElem_toArray,getElem_cons_zero,getElem_cons_succ,Act.put,setIfInBounds_toArray,set_cons_zero,set_cons_succ]
     refine tk (i:=15) (v:=(.bool (decide (c2<0)))) rfl (Or.inl ⟨by rfl,by intro W hSw;clear hHeld;go_split_ands;go_simp⟩) ?_
     simp only [getElem_toArray,getElem_cons_zero,getElem_cons_succ,Act.put,setIfInBounds_toArray,set_cons_zero,set_cons_succ]
     refine wpAnyH_done (by kernel_rfl) ?_ _
     go_wp2
     go_ret
     exact ⟨rfl,HR.out.trans (Below.mono hHeld.1.below HR.out.size)⟩
end Go.Proofs.YtgepehlpjpccaaaGreatDoor
namespace Go.Proofs.YtgepehlpjpccaaaGreatDoor
open Go.RowKit Big
open Go.Lib
theorem ynx (z:Int):yb7 (z:Rat)=if z<0 then -1 else if z=0 then 0 else 1:=by
 unfold yb7;rw [Rat.num_intCast]
theorem yrO {q:Rat} (h:q.den=1):q=((q.num:Int):Rat):=by
 apply Rat.ext
 ·rw [Rat.num_intCast]
 ·rw [Rat.den_intCast,h]
theorem yqm (D:Nat):yX false D 1=(((D:Int)):Rat):=by
 have h:=yjV (D:Int)
 rw [show decide ((D:Int)<0)=false from by simp] at h
 exact h
theorem yoR (B C:Nat) (hB:B-1=C) (l:Lb) (q:Rat) (hq:num l=some q) :
  (decide (q.den=1)=false∧(uX B l).isSome=false)∨(decide (q.den=1)=true∧¬ 0≤yb7 (q - -yX false (2^C) 1)∧(uX B l).isSome=false) ∨
  (decide (q.den=1)=true∧0≤yb7 (q - -yX false (2^C) 1)∧(uX B l).isSome=decide (yb7 (q-yX false (2^C) 1)<0)):=by
 have hi:uX B l=if q.den=1∧-((2^C:Nat):Int)≤q.num∧q.num<((2^C:Nat):Int) then some q.num else none:=by
  unfold uX;rw [hq,hB]
 rw [hi,yqm]
 generalize 2^C=D
 by_cases hd:q.den=1
 ·have e:=yrO hd
  generalize q.num=z at e
  subst e
  have e1:((z:Int):Rat) - -((D:Int):Rat)=((z+D:Int):Rat):=by rw [Rat.intCast_add];grind
  have e2:((z:Int):Rat)-((D:Int):Rat)=((z-D:Int):Rat):=by rw [Rat.intCast_sub]
  rw [e1,e2,ynx,ynx,Rat.den_intCast]
  right
  by_cases h1:-(D:Int)≤z
  ·right
   refine ⟨by simp,?_,?_⟩
   ·split<;>(try split)<;>omega
   ·by_cases h2:z<(D:Int)
    ·rw [if_pos ⟨rfl,h1,h2⟩,if_pos (show z-(D:Int)<0 by omega)];rfl
    ·rw [if_neg (by omega),if_neg (show ¬ z-(D:Int)<0 by omega)]
     split<;>rfl
  ·left
   refine ⟨by simp,?_,?_⟩
   ·rw [if_pos (by omega)];omega
   ·rw [if_neg (by omega)];rfl
 ·left
  refine ⟨by simpa using hd,?_⟩
  rw [if_neg (by simp [hd])];rfl
theorem yic {i:Nat} (h:i≤63):2^i<B9^4:=by
 have h1:2^i≤2^63:=Nat.pow_le_pow_right (by omega) h
 rw [zE]
 omega
theorem ymP (k:Int) (l:Lb) (w:World):Calls Tryz.prog 50 #[.int .i64 k,.string ⟨l.toArray⟩] w (Rp (.bool (zZ k l)) w):=by
 by_cases h1:k<1
 ·have e:zZ k l=false:=by unfold zZ;rw [if_neg (by omega),if_neg (by omega),if_neg (by omega),if_neg (by omega),if_neg (by omega)]
  rw [e];exact yoN _ k h1 w
 by_cases h2:5<k
 ·have e:zZ k l=false:=by unfold zZ;rw [if_neg (by omega),if_neg (by omega),if_neg (by omega),if_neg (by omega),if_neg (by omega)]
  rw [e];exact ymN _ k h1 h2 w
 have hk5:k=1∨k=2∨k=3∨k=4∨k=5:=by omega
 by_cases hl:l=[]
 ·subst hl
  have e:zZ k []=true:=by rcases hk5 with rfl|rfl|rfl|rfl|rfl<;>rfl
  rw [e]
  exact yoP k h1 h2 w (yA fun W _=>yrN W)
 ·have hl2:l.isEmpty=false:=by simpa using hl
  have yfe:∀ f,(num l).isSome=f→Hid (∀ W,Be w W→Calls Tryz.prog 96 #[.string ⟨l.toArray⟩] W (Rp (.bool f) W)):=fun f hf=>yA fun W _=>yoM l hl hl2 f W (yA fun W2 _=>by
   have h:=yf7 ⟨l.toArray⟩ W2
   have e:(⟨l.toArray⟩:ByteArray).data.toList=l:=rfl
   rw [e,hf] at h
   exact h)
  cases hq:num l with
  | none =>
   have e:zZ k l=false:=by
    have hi:∀ B,uX B l=none:=fun B=>by unfold uX;rw [hq]
    unfold zZ
    rw [hl2,hi,hi,hi,hi,hq]
    rcases hk5 with rfl|rfl|rfl|rfl|rfl<;>rfl
   rw [e]
   exact yoO _ k h1 h2 w (yfe false (by rw [hq];rfl))
  | some q =>
   have g105:=yfe true (by rw [hq];rfl)
   by_cases h5:k=5
   ·subst h5
    have e:zZ 5 l=true:=by unfold zZ;rw [hl2,hq];rfl
    rw [e]
    exact yoQ l hl hl2 w g105
   ·obtain ⟨C,B,hk,hB,yhQ⟩:∃ C B:Nat,((k=1∧C=7)∨(k=2∧C=15)∨(k=3∧C=31)∨(k=4∧C=63))∧B-1=C∧zZ k l=(uX B l).isSome:=by
     rcases hk5 with rfl|rfl|rfl|rfl|rfl
     ·exact ⟨7,8,by omega,rfl,by unfold zZ;rw [hl2];rfl⟩
     ·exact ⟨15,16,by omega,rfl,by unfold zZ;rw [hl2];rfl⟩
     ·exact ⟨31,32,by omega,rfl,by unfold zZ;rw [hl2];rfl⟩
     ·exact ⟨63,64,by omega,rfl,by unfold zZ;rw [hl2];rfl⟩
     ·exact absurd rfl h5
    have hC:C≤63:=by omega
    have lq:=yib hq
    have hlim:QLt 4 (yX false (2^C) 1):=by
     rw [yqm]
     exact ⟨by rw [Rat.num_intCast];exact yic hC,by rw [Rat.den_intCast,zE];omega⟩
    rw [yhQ]
    exact ymO l hl hl2 k C hk q (yX false (2^C) 1) _ _ _ _ (yA (yoR B C hB l q hq)) w g105
     (yA fun W _=>yj4 ⟨l.toArray⟩ (some q) hq W) (yA fun W=>ycX W) (yA fun W=>yav 2 W (by omega))
     (yA fun W u v i hi hu hv=>by
      rw [Nat.pow_succ]
      exact vS u v (2^i) 2 4 1 W (by unfold yK;omega) (by unfold yK;omega) (yic hi) (by rw [Nat.pow_one,zE];omega) hu hv)
     (yA fun W u v hu hv=>(ybW false u v (2^C) 1 4 W (by omega) (yic hC) (by rw [zE];omega) hu hv).mono fun e w' h=>h.c)
     (yA fun W u hu=>yoL u q 5 W (by omega) (by omega) lq hu)
     (yA fun W u hu=>(yns u _ W hu).mono fun e w' h=>h.c)
     (yA fun W u v hu hv=>yh6 u v q _ 5 4 W (by omega) lq hlim.neg hu hv)
     (yA fun W u v hu hv=>yh6 u v q _ 5 4 W (by omega) lq hlim hu hv)
end Go.Proofs.YtgepehlpjpccaaaGreatDoor
namespace Big
open Go.Proofs.YtgepehlpjpccaaaGreatDoor
end Big
namespace Go.Proofs.YtgepehlpjpccaaaGreatDoor
open Go.RowKit
end Go.Proofs.YtgepehlpjpccaaaGreatDoor
namespace Go.Proofs.YtgepehlpjpccaaaGreatDoor
open Go.RowKit Big
def ytQ (L:List Nat) (g off n:Nat) (t:TypeId) (y:List Nat) (w:World) (e:Ending) (w':World):Prop :=
 ∃ L' c,Put L off n L'∧yO yB (yR L' off n)∧c≤1∧yC yB (yR L' off n)+yC yB y=yC yB (yR L off n)+yB^n*c ∧
  e=.returned (.tuple #[])∧Only g w w'∧zV w' g t L'
theorem yeI (g off n cap:Nat) (t:TypeId) (L:List Nat) (q:Oa) (m c:Nat) (y:List Nat) (w:World) (hn:n≤maxLen) (hL:off+n≤L.length) (hm:m≤n)
  (hz:zV w g t L) (hy:Rd w q m y) (hq:m=0∨∀ b o,q=some ⟨b,o,none⟩→b≠g) (dL:yO yB (yR L off n)) (dy:yO yB y) :
  Calls Tryz.prog 182 #[.slice (some ⟨g,off,none⟩) n cap,.slice q m c] w (ytQ L g off n t y w):=by
 unfold maxLen at hn
 go_in
 go_wp2
 go_loopw [4,9] (fun cy i wr=>∃ (k:Nat) (L':List Nat) (d:Nat),k≤n∧i=.int .i64 k∧cy=.int .u64 d∧d≤1∧Put L off k L'∧yO yB (yR L' off k) ∧
   yC yB (yR L' off k)+yC yB (y.take k)=yC yB (yR L off k)+yB^k*d∧Only g w wr∧zV wr g t L') (fun _ i _=>n-(intOf i).toNat)
 case atStart=>exact ⟨0,L,0,Nat.zero_le _,rfl,rfl,by omega,Put.refl _ _,by rw [ybU];exact yO.nil _,by simp [yC],Only.refl _ _,hz⟩
 case round =>
  obtain ⟨k,L',d,hk,rfl,rfl,hd,zQ,uG,zT,ho,hr⟩:=hrel
  have Hval:=yA zT
  clear zT
  by_cases hlt:k<n
  ·have hc:=hr.cell (off+k) (by rw [zQ.length];omega)
   rw [zQ.getD _ (by omega)] at hc
   have hf:=hr.free (off+k)
   have dk:L.getD (off+k) 0<yB:=by rw [← ybV L off n k hlt];exact dL.getD yU k
   obtain ⟨a,ha⟩:=ez (L.getD (off+k) 0)
   have hw:∃ b:Nat,Hid (y.getD k 0=b)∧b<yB:=⟨_,rfl,dy.getD yU k⟩
   obtain ⟨b,hb,ypv⟩:=hw
   rw [ha.out] at hc dk
   obtain ⟨s,c',hs,hs1,hs2,uT⟩:=ypQ a b d hd dk ypv
   have ycy:∀ wr',Only g w wr'→zV wr' g t (L'.set (off+k) s)→∃ (k':Nat) (L'':List Nat) (d':Nat),k'≤n∧Value.int .i64 ((k:Int)+1)=.int .i64 k'∧Value.int .u64 (c':Int)=.int .u64 d'∧d'≤1∧Put L off k' L''∧yO yB (yR L'' off k') ∧
     yC yB (yR L'' off k')+yC yB (y.take k')=yC yB (yR L off k')+yB^k'*d'∧Only g w wr'∧zV wr' g t L'':=by
    intro wr' h1 h2
    refine ⟨k+1,L'.set (off+k) s,c',by omega,by go_num,rfl,hs2,zQ.set s,?_,?_,h1,h2⟩
    ·rw [zQ.seg_set (by omega)];exact uG.append (yO.one hs1)
    ·rw [zQ.seg_set (by omega),yai L off k (by omega),jJ,jJ,yN,zM _ _ _ (by rw [zQ.length];omega),zM _ _ _ (by omega),ha.out,hb.out,Nat.pow_succ]
     exact yjH Hval.out hs.out
   have Hrel:=yA ycy
   clear ycy
   by_cases hkm:k<m
   ·obtain ⟨b0,o0,d0,rfl,hb0,hc0,hd0⟩:=hy.at hkm
    have e0:d0=b:=by rw [← hd0.out];exact hb.out
    subst e0
    have hcy:wr.cell? ⟨b0,o0+k,none⟩=some (.int .u64 (d0:Int)):=by
     rw [← hc0]
     exact World.cell?_of_block (w:=w) (ho.block b0 ((hq.resolve_left (by omega)) b0 o0 rfl))
    go_wp2
    go_roundw
    case rel=>exact Hrel.out _ (ho.setCell _ _) (hr.set _ _)
    case measure=>simp [intOf];omega
   ·have e0:b=0:=by
     rw [← hb.out,List.getD_eq_getElem?_getD,List.getElem?_eq_none (by rw [hy.len];omega)];rfl
    subst e0
    rw [show ((0:Nat):Int)=0 from rfl] at uT
    clear ypv hb
    go_wp2
    go_roundw
    case rel=>exact Hrel.out _ (ho.setCell _ _) (hr.set _ _)
    case measure=>simp [intOf];omega
  ·obtain rfl:k=n:=by omega
   have zT:=Hval.out
   rw [List.take_of_length_le (by rw [hy.len];exact hm)] at zT
   have Hv:=yA zT
   clear zT
   go_wp2
   go_end0
   exact ⟨L',d,zQ,uG,hd,Hv.out,rfl,ho,hr⟩
end Go.Proofs.YtgepehlpjpccaaaGreatDoor
namespace Go.Proofs.YtgepehlpjpccaaaGreatDoor
open Go.RowKit Big
end Go.Proofs.YtgepehlpjpccaaaGreatDoor
namespace Go.Proofs.YtgepehlpjpccaaaGreatDoor
open Go.RowKit Big
theorem yoS {B n s c a b:Nat} (h:s+b=a+B^n*c) (hs:s<B^n) (hle:b≤a):s=a-b:=by
 have h2:c=0:=by
  apply Nat.eq_zero_of_not_pos;intro hc
  have:B^n*1≤B^n*c:=Nat.mul_le_mul_left _ hc
  omega
 subst h2;omega
theorem ymQ (p:Oa) (n c:Nat) (x:List Nat) (q:Oa) (m d:Nat) (y:List Nat) (w:World) (hn0:n≤yK) (hmn:m≤n) (hx:Rd w p n x) (hy:Rd w q m y) (dx:yO yB x) (dy:yO yB y) (hle:yC yB y≤yC yB x) :
  Calls Tryz.prog 139 #[.slice p n c,.slice q m d] w (jB (yC yB x-yC yB y) w):=by
 obtain ⟨i0,hi,hz0,hz1,hz2⟩:=info_parts vP
 have hn:(n:Int)≤4294967296:=by unfold yK at hn0;omega
 go_in
 go_wp2_with (at_make;refine wpList_make_full _ rfl _ _ 96 rfl w.heap.size 86 i0 (.int .u64 0) 1 Tryz.underlying96 hi hz0 hz1 _ _ _ _ (n) rfl rfl (by omega) (by omega) ?b2 ?b3 nl ?_)
 case b2=>rw [hz2];unfold yK at hn0;omega
 case b3=>unfold maxLen;unfold yK at hn0;omega
 intro w1 yP zB
 have hr1:zV w1 w.heap.size 86 (List.replicate (n) 0):=jN yP
 have hb1:Be w w1:=bR.grown zB nl (fun k h=>by cases h)
 have hx1:=hx.below hb1
 clear yP zB
 go_wp2_with (refine wpList_copy_splice (o:=⟨some 11,_,_,_,_,_⟩) rfl (.tmp 9) (.tmp 10) 96 96 rfl 86 Tryz.underlying96 (by kernel_rfl) _ _ _ _ _ _ rfl rfl w.heap.size 0 (zK (List.replicate (n) 0)) 86 hr1 (zK x) ?c1 ?c2 ?c3 (ybh x) w.heap.size w hb1 nl ?_)
 case c1=>rw [zO,hx.len];exact (Nat.min_eq_left (by omega)).symm
 case c2=>exact fun h=>hx1.cells h
 case c3=>rw [zO,zO,hx.len,List.length_replicate];omega
 intro w2 hr2 hb2
 have hr:zV w2 w.heap.size 86 (x++List.replicate (n-n) 0):=by
  have:=hr2.out
  rw [ybD _ x _ _ rfl,ybE x (n) (by rw [hx.len];omega),hx.len] at this
  exact this
 have hlen:(x++List.replicate (n-n) 0).length=n:=by rw [List.length_append,List.length_replicate,hx.len];omega
 have uG:yO yB (x++List.replicate (n-n) 0):=dx.append (yO.zeros yU _)
 have zT:yC yB (x++List.replicate (n-n) 0)=yC yB x:=by rw [vR,uO];omega
 obtain ⟨L,hL⟩:∃ L,Hid (L=x++List.replicate (n-n) 0):=⟨_,yA rfl⟩
 rw [← hL.out] at hr hlen uG zT
 have Hlen:=yA hlen
 have Hval:=yA zT
 have hq:m=0∨∀ b o,q=some ⟨b,o,none⟩→b≠w.heap.size:=by
  rcases hy.cell with h|⟨b,o,h1,h2,_⟩
  ·exact .inl h
  ·refine .inr fun b' o' h=>?_
   rw [h1] at h;cases h;omega
 have ycz:yR L 0 (n)=L:=GM L (n) hlen.symm
 have yi5:yO yB (yR L 0 (n)):=by rw [ycz];exact uG
 have HsegL:=yA ycz
 clear hr2 hlen zT ycz
 have hbn:n≤maxLen:=by unfold maxLen;omega
 go_wp2_with fail
 refine (yeI w.heap.size 0 (n) (n) 86 L q m d y _ hbn (by rw [Hlen.out];omega) (by omega) hr (hy.below hb2) hq yi5 dy).mono ?_
 rintro e w3 ⟨L',cy,zQ,hd',hc1,hv',rfl,ho,hr'⟩
 have hl':L'.length=n:=by rw [zQ.length];exact Hlen.out
 rw [HsegL.out,Hval.out,GM L' (n) hl'.symm] at hv'
 rw [GM L' (n) hl'.symm] at hd'
 have hlx:=vE (yR L' 0 n) (by rw [GM L' n hl'.symm];exact hd')
 rw [GM L' n hl'.symm,hl'] at hlx
 have hs:=yoS hv' hlx hle
 have hb3:=Only.below hb2 ho nl
 have ht:=yac (some ⟨w.heap.size,0,none⟩) (n) (n) L' w w3 hbn nl (hr'.rd0 (n) hl'.symm) hd' hb3
 rw [hs] at ht
 have Ht:=yA ht
 clear ht hs hv' hl' hlx
 go_wp2_with fail
 refine Ht.out.mono ?_
 rintro e w4 ⟨v,rfl,hv⟩
 go_wp2
 go_ret
 exact ⟨v,rfl,hv⟩
/-! ## The same for numbers in memory -/
theorem ydf (u v:Value) (a b K:Nat) (w:World) (hK:K≤yK) (ha:a<yB^K) (hle:b≤a) (hu:yI w u a) (hv:yI w v b):Calls Tryz.prog 139 #[u,v] w (jB (a-b) w):=by
 obtain ⟨p,n,c,x,rfl,h1,h2,h3,h4⟩:=hu
 obtain ⟨q,m,d,y,rfl,g1,g2,g3,g4⟩:=hv
 have hn:=yaj h3 h4 ha h2
 have hm:m≤n:=by
  have:=yV.length_le g3 h3.1 (by rw [h4,g4];exact hle)
  rw [h2.len,g2.len] at this;exact this
 subst h4 g4
 exact ymQ p n c x q m d y w (by omega) hm h2 g2 h3.1 g3.1 hle
end Go.Proofs.YtgepehlpjpccaaaGreatDoor
namespace Big
open Go.Proofs.YtgepehlpjpccaaaGreatDoor
end Big
namespace Go.Proofs.YtgepehlpjpccaaaGreatDoor
open Go.RowKit Big
end Go.Proofs.YtgepehlpjpccaaaGreatDoor
