/- Contracts. -/
import Derived.Test.YtfjnipkpfbkegaaGreatDoorPart16
set_option maxHeartbeats 1600000
set_option maxRecDepth 100000
namespace Go.Proofs.YtfjnipkpfbkegaaGreatDoor
open Go.RowKit Go.Lib Big
section
theorem ypL {x:List UInt8} {q:Rat} (h:num x=some q):x.length≤90∧∃ sg n d,jL x=some (sg,n,d):=by
 unfold num at h
 rw [Option.map_eq_some_iff] at h
 obtain ⟨⟨s,n,d⟩,h1,-⟩:=h
 unfold GH at h1
 split at h1
 ·cases h1
 ·rename_i hl
  refine ⟨by omega,?_⟩
  split at h1
  ·rename_i s0 n0 d0 hr;exact ⟨s0,n0,d0,hr⟩
  ·cases h1
theorem yfs {l:List UInt8} (h:(uJ l).2=0):∃ q,num (uJ l).1=some q:=by
 unfold uJ at h ⊢
 split
 ·rename_i hl;rw [if_pos hl] at h;cases h
 ·rename_i hl
  rw [if_neg hl] at h
  split
  ·rename_i s n d hr
   rw [hr] at h
   simp only at h
   by_cases hq:uB (zD s n d)=[]
   ·rw [if_pos hq] at h;cases h
   ·rw [if_neg hq];exact ⟨_,ybT hq⟩
  ·rename_i hr;rw [hr] at h;cases h
theorem yft {l:List UInt8} (h:¬ ((uJ (l.take (vH l))).2=0∧(uJ (l.take (vH l))).1≠[48])):GF l=none:=by unfold GF;rw [if_neg h]
theorem yj4 {l:List UInt8} (h:(uJ (l.take (vH l))).2=0∧(uJ (l.take (vH l))).1≠[48]):GF l=some (⟨yO (uJ (l.take (vH l))).1,jG,1⟩,vH l):=by unfold GF;rw [if_pos h]
theorem yfN (s:ByteArray) (w:World) (hmax:s.size≤90000) (htab:Tab w):Calls Tryz.prog 53 #[.string s] w (yM (GF s.data.toList) w):=by
 have hlen:s.data.toList.length=s.size:=by simp
 have hn:yF s.data.toList≤s.size:=by have:=vN s.data.toList;omega
 have hcd:∀ W,Hid (Calls Tryz.prog 52 #[.string s] W fun e w'=>e=.returned (.int .i64 (yF s.data.toList))∧W=w'):=fun W=>yA (yai s W (by omega))
 have hpa:∀ m,m≤s.size→∀ W,Below w.heap.size w W→Calls Tryz.prog 83 #[.string (s.extract 0 m)] W (zZ (uJ (s.data.toList.take m)) W):=fun m hm W hW=>by
  rw [← ydD s m hm]
  exact ylA _ W (htab.below hW)
 have hmo:∀ W,Calls Tryz.prog 52 #[.string (s.extract (yF s.data.toList+1) s.size)] W fun e w'=>e=.returned (.int .i64 (yF (s.data.toList.drop (yF s.data.toList+1))))∧W=w':=fun W=>by
  rw [← GS]
  exact yai _ W (by simp;omega)
 -- the three ends, for each of the ways to the length
 have fin:∀ m,vH s.data.toList=m→m≤s.size →
   (∀ (x:List UInt8) (er:Int),(er != 0)=true→(∀ W,Below w.heap.size w W→Hid (Calls Tryz.prog 83 #[.string (s.extract 0 m)] W (zZ (x,er) W)))→Calls Tryz.prog 53 #[.string s] w (yM none w)) →
   ((∀ W,Below w.heap.size w W→Hid (Calls Tryz.prog 83 #[.string (s.extract 0 m)] W (zZ ([48],0) W)))→Calls Tryz.prog 53 #[.string s] w (yM none w)) →
   (∀ (x:List UInt8) (r:Rat),(x==[48])=false→¬ x=[48]→(∀ W,Hid (Calls Tryz.prog 84 #[.string ⟨x.toArray⟩] W (jX r 20 W)))→(∀ W,Below w.heap.size w W→Hid (Calls Tryz.prog 83 #[.string (s.extract 0 m)] W (zZ (x,0) W)))→Calls Tryz.prog 53 #[.string s] w (yM (some (⟨r,jG,1⟩,m)) w)) →
   Calls Tryz.prog 53 #[.string s] w (yM (GF s.data.toList) w):=by
  intro m hm hms f1 f2 f3
  have hp:=hpa m hms
  by_cases he:(uJ (s.data.toList.take m)).2=0
  ·by_cases h0:(uJ (s.data.toList.take m)).1=[48]
   ·rw [yft (by rw [hm];rintro ⟨-,h⟩;exact h h0)]
    have e:uJ (s.data.toList.take m)=([48],0):=Prod.ext h0 he
    rw [e] at hp
    exact f2 fun W hW=>yA (hp W hW)
   ·rw [yj4 (by rw [hm];exact ⟨he,h0⟩),hm]
    obtain ⟨q,hq⟩:=yfs he
    obtain ⟨k1,sg,a,b,k2⟩:=ypL hq
    have e:uJ (s.data.toList.take m)=((uJ (s.data.toList.take m)).1,0):=Prod.ext rfl he
    rw [e] at hp
    exact f3 _ _ (beq_eq_false_iff_ne.2 h0) h0 (fun W=>yA (ygY ⟨(uJ (s.data.toList.take m)).1.toArray⟩ sg a b W (by rw [size_toArray];exact k1) k2)) fun W hW=>yA (hp W hW)
  ·rw [yft (by rw [hm];rintro ⟨h,-⟩;exact he h)]
   exact f1 _ _ (by rw [bne_iff_ne];exact he) fun W hW=>yA (hp W hW)
 by_cases hlt:yF s.data.toList<s.size
 ·have yag:s.data.toList.drop (yF s.data.toList)=s[yF s.data.toList]'hlt::s.data.toList.drop (yF s.data.toList+1):=by
   rw [List.drop_eq_getElem_cons (by omega)];rfl
  have hl:vH s.data.toList=if ((s[yF s.data.toList]'hlt)==46 || (s[yF s.data.toList]'hlt)==47)&&decide (0<yF (s.data.toList.drop (yF s.data.toList+1))) then yF s.data.toList+1+yF (s.data.toList.drop (yF s.data.toList+1)) else yF s.data.toList:=by
   unfold vH;rw [yag]
  have hb:∀ c:UInt8,((s[yF s.data.toList]'hlt)==c)=(((s[yF s.data.toList]'hlt).toNat:Int)==(c.toNat:Int)):=fun c=>by
   rw [Bool.eq_iff_iff,beq_iff_eq,beq_iff_eq]
   constructor
   ·intro h;rw [h]
   ·intro h;apply UInt8.toNat_inj.1;omega
  have yfY:((s[yF s.data.toList]'hlt)==46)=(((s[yF s.data.toList]'hlt).toNat:Int)==46):=hb 46
  have hb47:((s[yF s.data.toList]'hlt)==47)=(((s[yF s.data.toList]'hlt).toNat:Int)==47):=hb 47
  rw [yfY,hb47] at hl
  have hle:=vN (s.data.toList.drop (yF s.data.toList+1))
  rw [List.length_drop] at hle
  by_cases h46:(((s[yF s.data.toList]'hlt).toNat:Int)==46)=true
  ·by_cases h0:yF (s.data.toList.drop (yF s.data.toList+1))=0
   ·rw [h46,h0] at hl
    rw [h0] at hmo
    refine fin _ (by rw [hl];rfl) hn (fun x er h1 h2=>?_) (fun h2=>?_) fun x r h1 h2 h3 h4=>?_
    ·exact yhZ s _ x er h1 w hn (by omega) hlt h46 (fun W=>yA (hmo W)) hcd h2
    ·exact ygA s _ w hn (by omega) hlt h46 (fun W=>yA (hmo W)) hcd h2
    ·exact yj0 s _ x r h1 h2 h3 w hn (by omega) hlt h46 (fun W=>yA (hmo W)) hcd h4
   ·rw [h46,decide_eq_true (Nat.pos_of_ne_zero h0)] at hl
    refine fin (yF s.data.toList+(1+yF (s.data.toList.drop (yF s.data.toList+1)))) (by rw [hl,← Nat.add_assoc];rfl) (by omega) (fun x er h1 h2=>?_) (fun h2=>?_) fun x r h1 h2 h3 h4=>?_
    ·exact yj2 s _ x er h1 w hn (by omega) _ hlt h46 (by omega) (by omega) (fun W=>yA (hmo W)) hcd h2
    ·exact yh1 s _ w hn (by omega) _ hlt h46 (by omega) (by omega) (fun W=>yA (hmo W)) hcd h2
    ·exact ylD s _ x r h1 h2 h3 w hn (by omega) _ hlt h46 (by omega) (by omega) (fun W=>yA (hmo W)) hcd h4
  ·rw [Bool.not_eq_true] at h46
   by_cases h47:(((s[yF s.data.toList]'hlt).toNat:Int)==47)=true
   ·by_cases h0:yF (s.data.toList.drop (yF s.data.toList+1))=0
    ·rw [h46,h47,h0] at hl
     rw [h0] at hmo
     refine fin _ (by rw [hl];rfl) hn (fun x er h1 h2=>?_) (fun h2=>?_) fun x r h1 h2 h3 h4=>?_
     ·exact yh0 s _ x er h1 w hn (by omega) hlt h46 h47 (fun W=>yA (hmo W)) hcd h2
     ·exact ygB s _ w hn (by omega) hlt h46 h47 (fun W=>yA (hmo W)) hcd h2
     ·exact yj1 s _ x r h1 h2 h3 w hn (by omega) hlt h46 h47 (fun W=>yA (hmo W)) hcd h4
    ·rw [h46,h47,decide_eq_true (Nat.pos_of_ne_zero h0)] at hl
     refine fin (yF s.data.toList+(1+yF (s.data.toList.drop (yF s.data.toList+1)))) (by rw [hl,← Nat.add_assoc];rfl) (by omega) (fun x er h1 h2=>?_) (fun h2=>?_) fun x r h1 h2 h3 h4=>?_
     ·exact yj3 s _ x er h1 w hn (by omega) _ hlt h46 h47 (by omega) (by omega) (fun W=>yA (hmo W)) hcd h2
     ·exact yh2 s _ w hn (by omega) _ hlt h46 h47 (by omega) (by omega) (fun W=>yA (hmo W)) hcd h2
     ·exact ylE s _ x r h1 h2 h3 w hn (by omega) _ hlt h46 h47 (by omega) (by omega) (fun W=>yA (hmo W)) hcd h4
   ·rw [Bool.not_eq_true] at h47
    rw [h46,h47] at hl
    refine fin _ (by rw [hl];rfl) hn (fun x er h1 h2=>?_) (fun h2=>?_) fun x r h1 h2 h3 h4=>?_
    ·exact yjZ s _ x er h1 w hn (by omega) hlt h46 h47 hcd h2
    ·exact yhY s _ w hn (by omega) hlt h46 h47 hcd h2
    ·exact ylC s _ x r h1 h2 h3 w hn (by omega) hlt h46 h47 hcd h4
 ·have hl:vH s.data.toList=yF s.data.toList:=by
   unfold vH
   rw [List.drop_eq_nil_of_le (by omega)]
  refine fin _ hl hn (fun x er h1 h2=>?_) (fun h2=>?_) fun x r h1 h2 h3 h4=>?_
  ·exact yjY s _ x er h1 w hn (by omega) (by omega) hcd h2
  ·exact yhX s _ w hn (by omega) (by omega) hcd h2
  ·exact ylB s _ x r h1 h2 h3 w hn (by omega) (by omega) hcd h4
theorem yni (s:ByteArray) (D:Nat) (o:Option (FacT × Nat)) (w:World) (hD:0<D) (hcd:∀ W,Hid (Calls Tryz.prog 52 #[.string s] W fun e w'=>e=.returned (.int .i64 D)∧W=w')) (hs:∀ W,Below w.heap.size w W→Hid (Calls Tryz.prog 53 #[.string s] W (yM o W))):Calls Tryz.prog 29 #[.string s] w (yM o w):=by
 have hrf:=yA (ResF.start w)
 have hle:w.heap.size≤w.heap.size:=Nat.le_refl _
 have hs2:=hs _ hrf.out.below
 obtain ⟨kk,hkk⟩:∃ kk:Nat,Hid (ydj o=kk):=⟨_,yA rfl⟩
 clear hs
 go_enter Tryz.func29,Tryz.ntmps29
 go_wp2_with fail
 refine (hcd _).out.mono ?_
 rintro e w1 ⟨rfl,rfl⟩
 go_wp2_with fail
 refine hs2.out.mono ?_
 rintro e w3 ⟨hb3,b1,q,n1,k1,q2,m1,k2,p0,p1,p2,p3,p4,p5,p6,x,rfl,yZ⟩
 rw [hkk.out]
 have Hval:=yA yZ
 have Hrf:=yA (hrf.out.next hb3)
 obtain ⟨z0,z1,z2,z3,z4,z5,z6,z7,z8,z9,z10,⟨l0,l1,l2,l3,l4,l5,l6,l7,l8,l9,l10⟩,⟨f0,f1,f2,f3,f4,f5,f6,f7,f8,f9,f10⟩⟩:=Hrf.out.slots
 have yE:Hid (∀ W,W=((((((((((((w3).setCell ⟨w.heap.size,0,none⟩ (.bool b1)).setCell ⟨w.heap.size,1,none⟩ (.slice q n1 k1)).setCell ⟨w.heap.size,2,none⟩ (.slice q2 m1 k2)).setCell ⟨w.heap.size,3,none⟩ (.int .i64 p0)).setCell ⟨w.heap.size,4,none⟩ (.int .i64 p1)).setCell ⟨w.heap.size,5,none⟩ (.int .i64 p2)).setCell ⟨w.heap.size,6,none⟩ (.int .i64 p3)).setCell ⟨w.heap.size,7,none⟩ (.int .i64 p4)).setCell ⟨w.heap.size,8,none⟩ (.int .i64 p5)).setCell ⟨w.heap.size,9,none⟩ (.int .i64 p6)).setCell ⟨w.heap.size,10,none⟩ (.int .i64 x))→yM o w (.returned (.tuple #[.agg #[.bool b1,.slice q n1 k1,.slice q2 m1 k2,.int .i64 p0,.int .i64 p1,.int .i64 p2,.int .i64 p3,.int .i64 p4,.int .i64 p5,.int .i64 p6,.int .i64 x],.int .i64 kk])) W):=yA (by
  rintro W rfl
  refine ⟨(Hrf.out.put hle (.bool b1) (.slice q n1 k1) (.slice q2 m1 k2) (.int .i64 p0) (.int .i64 p1) (.int .i64 p2) (.int .i64 p3) (.int .i64 p4) (.int .i64 p5) (.int .i64 p6) (.int .i64 x) ⟨jI _,zA _ _ _,zA _ _ _,yD _,yD _,yD _,yD _,yD _,yD _,yD _,yD _⟩).1.below,_,_,_,_,_,_,_,_,_,_,_,_,_,_,_,by rw [hkk.out],?_⟩
  intro f k h
  obtain ⟨h1,h2,h3⟩:=Hval.out f k h
  exact ⟨Hrf.out.rat h1 (.bool b1) (.slice q n1 k1) (.slice q2 m1 k2) (.int .i64 p0) (.int .i64 p1) (.int .i64 p2) (.int .i64 p3) (.int .i64 p4) (.int .i64 p5) (.int .i64 p6) (.int .i64 x) ⟨jI _,zA _ _ _,zA _ _ _,yD _,yD _,yD _,yD _,yD _,yD _,yD _,yD _⟩,h2,h3⟩)
 clear hb3 yZ
 go_wp2_with fail
 have hcells:=(Hrf.out.put hle (.bool b1) (.slice q n1 k1) (.slice q2 m1 k2) (.int .i64 p0) (.int .i64 p1) (.int .i64 p2) (.int .i64 p3) (.int .i64 p4) (.int .i64 p5) (.int .i64 p6) (.int .i64 x) ⟨jI _,zA _ _ _,zA _ _ _,yD _,yD _,yD _,yD _,yD _,yD _,yD _,yD _⟩).2
 generalize (((((((((((w3).setCell ⟨w.heap.size,0,none⟩ (.bool b1)).setCell ⟨w.heap.size,1,none⟩ (.slice q n1 k1)).setCell ⟨w.heap.size,2,none⟩ (.slice q2 m1 k2)).setCell ⟨w.heap.size,3,none⟩ (.int .i64 p0)).setCell ⟨w.heap.size,4,none⟩ (.int .i64 p1)).setCell ⟨w.heap.size,5,none⟩ (.int .i64 p2)).setCell ⟨w.heap.size,6,none⟩ (.int .i64 p3)).setCell ⟨w.heap.size,7,none⟩ (.int .i64 p4)).setCell ⟨w.heap.size,8,none⟩ (.int .i64 p5)).setCell ⟨w.heap.size,9,none⟩ (.int .i64 p6)).setCell ⟨w.heap.size,10,none⟩ (.int .i64 x)=WW at hcells yE ⊢
 have c0:=yB hcells 0
 have c1:=yB hcells 1
 have c2:=yB hcells 2
 have c3:=yB hcells 3
 have c4:=yB hcells 4
 have c5:=yB hcells 5
 have c6:=yB hcells 6
 have c7:=yB hcells 7
 have c8:=yB hcells 8
 have c9:=yB hcells 9
 have c10:=yB hcells 10
 refine bodyPost_ret (v:=.tuple #[.agg #[.bool b1,.slice q n1 k1,.slice q2 m1 k2,.int .i64 p0,.int .i64 p1,.int .i64 p2,.int .i64 p3,.int .i64 p4,.int .i64 p5,.int .i64 p6,.int .i64 x],.int .i64 kk]) (by simp [results,Tryz.results29,go_sem,c0,c1,c2,c3,c4,c5,c6,c7,c8,c9,c10]) rfl ?_
 exact yE.out _ rfl
theorem ynj (s:ByteArray) (D:Nat) (o:Option (FacT × Nat)) (w:World) (hD:¬ (0:Int)<D) (hcd:∀ W,Hid (Calls Tryz.prog 52 #[.string s] W fun e w'=>e=.returned (.int .i64 D)∧W=w')) (hs:∀ W,Below w.heap.size w W→Hid (Calls Tryz.prog 54 #[.string s] W (yM o W))):Calls Tryz.prog 29 #[.string s] w (yM o w):=by
 have hrf:=yA (ResF.start w)
 have hle:w.heap.size≤w.heap.size:=Nat.le_refl _
 have hs2:=hs _ hrf.out.below
 obtain ⟨kk,hkk⟩:∃ kk:Nat,Hid (ydj o=kk):=⟨_,yA rfl⟩
 clear hs
 go_enter Tryz.func29,Tryz.ntmps29
 go_wp2_with fail
 refine (hcd _).out.mono ?_
 rintro e w1 ⟨rfl,rfl⟩
 go_wp2_with fail
 refine hs2.out.mono ?_
 rintro e w3 ⟨hb3,b1,q,n1,k1,q2,m1,k2,p0,p1,p2,p3,p4,p5,p6,x,rfl,yZ⟩
 rw [hkk.out]
 have Hval:=yA yZ
 have Hrf:=yA (hrf.out.next hb3)
 obtain ⟨z0,z1,z2,z3,z4,z5,z6,z7,z8,z9,z10,⟨l0,l1,l2,l3,l4,l5,l6,l7,l8,l9,l10⟩,⟨f0,f1,f2,f3,f4,f5,f6,f7,f8,f9,f10⟩⟩:=Hrf.out.slots
 have yE:Hid (∀ W,W=((((((((((((w3).setCell ⟨w.heap.size,0,none⟩ (.bool b1)).setCell ⟨w.heap.size,1,none⟩ (.slice q n1 k1)).setCell ⟨w.heap.size,2,none⟩ (.slice q2 m1 k2)).setCell ⟨w.heap.size,3,none⟩ (.int .i64 p0)).setCell ⟨w.heap.size,4,none⟩ (.int .i64 p1)).setCell ⟨w.heap.size,5,none⟩ (.int .i64 p2)).setCell ⟨w.heap.size,6,none⟩ (.int .i64 p3)).setCell ⟨w.heap.size,7,none⟩ (.int .i64 p4)).setCell ⟨w.heap.size,8,none⟩ (.int .i64 p5)).setCell ⟨w.heap.size,9,none⟩ (.int .i64 p6)).setCell ⟨w.heap.size,10,none⟩ (.int .i64 x))→yM o w (.returned (.tuple #[.agg #[.bool b1,.slice q n1 k1,.slice q2 m1 k2,.int .i64 p0,.int .i64 p1,.int .i64 p2,.int .i64 p3,.int .i64 p4,.int .i64 p5,.int .i64 p6,.int .i64 x],.int .i64 kk])) W):=yA (by
  rintro W rfl
  refine ⟨(Hrf.out.put hle (.bool b1) (.slice q n1 k1) (.slice q2 m1 k2) (.int .i64 p0) (.int .i64 p1) (.int .i64 p2) (.int .i64 p3) (.int .i64 p4) (.int .i64 p5) (.int .i64 p6) (.int .i64 x) ⟨jI _,zA _ _ _,zA _ _ _,yD _,yD _,yD _,yD _,yD _,yD _,yD _,yD _⟩).1.below,_,_,_,_,_,_,_,_,_,_,_,_,_,_,_,by rw [hkk.out],?_⟩
  intro f k h
  obtain ⟨h1,h2,h3⟩:=Hval.out f k h
  exact ⟨Hrf.out.rat h1 (.bool b1) (.slice q n1 k1) (.slice q2 m1 k2) (.int .i64 p0) (.int .i64 p1) (.int .i64 p2) (.int .i64 p3) (.int .i64 p4) (.int .i64 p5) (.int .i64 p6) (.int .i64 x) ⟨jI _,zA _ _ _,zA _ _ _,yD _,yD _,yD _,yD _,yD _,yD _,yD _,yD _⟩,h2,h3⟩)
 clear hb3 yZ
 go_wp2_with fail
 have hcells:=(Hrf.out.put hle (.bool b1) (.slice q n1 k1) (.slice q2 m1 k2) (.int .i64 p0) (.int .i64 p1) (.int .i64 p2) (.int .i64 p3) (.int .i64 p4) (.int .i64 p5) (.int .i64 p6) (.int .i64 x) ⟨jI _,zA _ _ _,zA _ _ _,yD _,yD _,yD _,yD _,yD _,yD _,yD _,yD _⟩).2
 generalize (((((((((((w3).setCell ⟨w.heap.size,0,none⟩ (.bool b1)).setCell ⟨w.heap.size,1,none⟩ (.slice q n1 k1)).setCell ⟨w.heap.size,2,none⟩ (.slice q2 m1 k2)).setCell ⟨w.heap.size,3,none⟩ (.int .i64 p0)).setCell ⟨w.heap.size,4,none⟩ (.int .i64 p1)).setCell ⟨w.heap.size,5,none⟩ (.int .i64 p2)).setCell ⟨w.heap.size,6,none⟩ (.int .i64 p3)).setCell ⟨w.heap.size,7,none⟩ (.int .i64 p4)).setCell ⟨w.heap.size,8,none⟩ (.int .i64 p5)).setCell ⟨w.heap.size,9,none⟩ (.int .i64 p6)).setCell ⟨w.heap.size,10,none⟩ (.int .i64 x)=WW at hcells yE ⊢
 have c0:=yB hcells 0
 have c1:=yB hcells 1
 have c2:=yB hcells 2
 have c3:=yB hcells 3
 have c4:=yB hcells 4
 have c5:=yB hcells 5
 have c6:=yB hcells 6
 have c7:=yB hcells 7
 have c8:=yB hcells 8
 have c9:=yB hcells 9
 have c10:=yB hcells 10
 refine bodyPost_ret (v:=.tuple #[.agg #[.bool b1,.slice q n1 k1,.slice q2 m1 k2,.int .i64 p0,.int .i64 p1,.int .i64 p2,.int .i64 p3,.int .i64 p4,.int .i64 p5,.int .i64 p6,.int .i64 x],.int .i64 kk]) (by simp [results,Tryz.results29,go_sem,c0,c1,c2,c3,c4,c5,c6,c7,c8,c9,c10]) rfl ?_
 exact yE.out _ rfl
theorem yfO (s:ByteArray) (w:World) (hmax:s.size≤90000) (htab:Tab w):Calls Tryz.prog 29 #[.string s] w (yM (jK s.data.toList) w):=by
 have hcd:∀ W,Hid (Calls Tryz.prog 52 #[.string s] W fun e w'=>e=.returned (.int .i64 (yF s.data.toList))∧W=w'):=fun W=>yA (yai s W (by omega))
 unfold jK
 by_cases h:0<yF s.data.toList
 ·rw [if_pos h]
  exact yni s _ _ w h hcd fun W hW=>yA (yfN s W hmax (htab.below hW))
 ·rw [if_neg h]
  exact ynj s _ _ w (by omega) hcd fun W _=>yA (yfM s W hmax)
def yav (w:World) (base:Nat) (e:TypeId) (size:Nat) (v:Value) (n:Nat) (xs:List Value):Prop :=
 w.ownsRow base e size v n xs∧∀ g k cap,v=.slice (some ⟨g,0,none⟩) k cap→∀ cur t f,w.heap[g]?=some (.cells cur t f)→∀ u ∈ cur.toList,vP u
theorem yav.nil (w:World) (base:Nat) (e:TypeId) (size:Nat):yav w base e size (.slice none 0 0) 0 [] :=
 ⟨World.ownsRow_nil w base e size,fun g k cap h=>by cases h⟩
theorem ygC {z:Array Value} {k:Nat} {u:Value} (h:u ∈ (Builtin.zeroCells z k).toList):u ∈ z.toList:=by
 unfold Builtin.zeroCells at h
 rw [Array.toList_map,List.mem_map] at h
 obtain ⟨i,hi,rfl⟩:=h
 have hlt:i<k*z.size:=by simpa using hi
 have hz:0<z.size:=by
  apply Nat.pos_of_ne_zero;intro h0;rw [h0,Nat.mul_zero] at hlt;omega
 have hm:i%z.size<z.size:=Nat.mod_lt _ hz
 rw [getElem!_pos z (i%z.size) hm]
 simp
section
variable {P : Program}
theorem yh3 (w:World) (base:Nat) (t ty e:TypeId) (i:TypeInfo) (z:Value) (size bytes:Nat) (ht:P.underlying t=some (.slice e)) (hi:P.info? e=some i) (hz:i.zero=some z)
  (yop:i.size=size) (hby:i.bytes=bytes) (hzs:z.cells.size=size) (hsz:0<size) (hzN:∀ u ∈ z.cells.toList,vP u)
  (v:Value) (n:Nat) (xs:List Value) (jH:yav w base e size v n xs)
  (a:Addr) (m c:Nat) (news:List Value) (hl:news.length=m*size) (yc3:∀ j u,news[j]?=some u→w.cell? (a.add j)=some u) (h1:∀ u ∈ news,u.oneCell'=true) (hN:∀ u ∈ news,vP u) (hm:0<m)
  (h63:n+m≤maxLen) (yhl:(n+m)*bytes≤140737488355328) (ycc:base≤w.heap.size) :
  ∃ v' w',(Builtin.append_ #[t,t] ty #[v,.slice (some a) m c]).run P w=.ok v' w'∧yav w' base e size v' (n+m) (xs++news)∧w.grownBy w' v.ownBlock:=by
 subst yop
 subst hby
 obtain ⟨jH,hNo⟩:=jH
 have hsmall:n+m≤9223372036854775807:=by simp only [maxLen] at h63;omega
 have hlen:(xs++news).length=(n+m)*i.size:=by rw [List.length_append,jH.1,hl,Nat.add_mul]
 have grown:∀ (old:Nat),old<n+m→(∀ u ∈ xs,vP u)→∀ (row:Option Nat),
   yav (w.drew.alloc (.cells (xs.toArray++news.toArray++Builtin.zeroCells z.cells (grownCap w (n+m) old e-(n+m))) e)) base e i.size
    (.slice (some ⟨w.heap.size,0,none⟩) (n+m) (grownCap w (n+m) old e)) (n+m) (xs++news) ∧
   w.grownBy (w.drew.alloc (.cells (xs.toArray++news.toArray++Builtin.zeroCells z.cells (grownCap w (n+m) old e-(n+m))) e)) row:=by
  intro old ho hxN row
  have hge:=grownCap_ge w (n+m) old e
  have hcm:grownCap w (n+m) old e≤maxLen:=grownCap_le_maxLen w (n+m) old e h63
  refine ⟨⟨⟨hlen,.inr ⟨w.heap.size,_,_,rfl,ycc,yV w.drew _,hge,hcm,?_,?_⟩⟩,?_⟩,⟨rfl,rfl,rfl,by simp,fun k hk _=>Below.heap_alloc w.drew _ k hk⟩⟩
  ·simp only [Array.size_append,List.size_toArray,size_zeroCells,hzs,jH.1,hl,← Nat.add_mul]
   congr 1
   omega
  ·simp only [Array.toList_append,List.append_assoc]
   rw [← List.append_assoc,← hlen]
   exact List.take_left
  ·intro g k cap hv cur t' f hh u hu
   cases hv
   have:=yV w.drew (.cells (xs.toArray++news.toArray++Builtin.zeroCells z.cells (grownCap w (n+m) old e-(n+m))) e)
   rw [show w.drew.heap.size=w.heap.size from rfl] at this
   rw [this] at hh
   cases hh
   simp only [Array.toList_append,List.mem_append] at hu
   rcases hu with (hu|hu)|hu
   ·exact hxN u (by simpa using hu)
   ·exact hN u (by simpa using hu)
   ·exact hzN u (ygC hu)
 rcases jH.2 with ⟨rfl,rfl⟩|⟨g,cap,cur,rfl,hbg,hg,hnc,hcm,hcs,ygc⟩
 ·have hx:xs=[]:=List.eq_nil_of_length_eq_zero (by simpa using jH.1)
  subst hx
  have hr:=run_append_nil (P:=P) w t ty e i z ht hi hz a m c news hl yc3 (by omega) (by omega) (by have hb:=yhl;simp only [Nat.zero_add] at hb;omega)
  have hgr:=grown 0 (by omega) (fun u hu=>by cases hu) (Value.ownBlock (.slice none 0 0))
  simp only [Nat.zero_add,List.nil_append,Array.empty_append] at hgr ⊢
  exact ⟨_,_,hr,hgr.1,hgr.2⟩
 ·have hcN:=hNo g n cap rfl cur e _ hg
  by_cases yiy:n+m≤cap
  ·have yeO:n*i.size+news.length≤cur.size:=by rw [hl,hcs,← Nat.add_mul];exact Nat.mul_le_mul_right _ yiy
   have hr:=run_append_room (P:=P) w t ty e i ht hi g n cap cur hg a m c news hl yc3 h1 yiy yeO
   have yc2:=setRow_heap w g cur (cur.toList.take (n*i.size)++news++cur.toList.drop (n*i.size+news.length)).toArray e _ hg
   refine ⟨_,_,hr,⟨⟨hlen,.inr ⟨g,cap,_,rfl,hbg,yc2,yiy,hcm,?_,?_⟩⟩,?_⟩,⟨rfl,rfl,rfl,by simp,fun k _ hk=>setRow_other w g k _ (fun e=>hk (by simp [Value.ownBlock,e]))⟩⟩
   ·simp only [List.size_toArray,List.length_append,List.length_take,List.length_drop,Array.length_toList]
    omega
   ·rw [ygc,← hlen]
    exact List.take_left
   ·intro g' k' cap' hv cur' t' f hh u hu
    cases hv
    rw [yc2] at hh
    cases hh
    simp only [List.mem_append] at hu
    rcases hu with (hu|hu)|hu
    ·exact hcN u (List.mem_of_mem_take hu)
    ·exact hN u hu
    ·exact hcN u (List.mem_of_mem_drop hu)
  ·have holds:∀ j u,xs[j]?=some u→w.cell? ((⟨g,0,none⟩:Addr).add j)=some u:=jH.cells (g:=g) rfl
   have hr:=run_append_grow (P:=P) w t ty e i z ht hi hz ⟨g,0,none⟩ n cap xs jH.1 holds a m c news hl yc3 (by omega) (by omega) (growslice_fits (by omega) yhl)
   have hgr:=grown cap (by omega) (fun u hu=>hcN u (by rw [← ygc] at hu;exact List.mem_of_mem_take hu)) (Value.ownBlock (.slice (some ⟨g,0,none⟩) n cap))
   exact ⟨_,_,hr,hgr.1,hgr.2⟩
theorem yaY {w:World} {ops:Array Oper} {rest:List Oper} {o:Oper} {a:Act} {Q:Exit→Act→World→Prop} (hgd:o.guard=none) (s x:Operand) (t:TypeId)
  (ho:o.op=.call { callee:=.builtin .append,args:=#[s,x],argTypes:=#[t,t] })
  (base:Nat) (e:TypeId) (i:TypeInfo) (z:Value) (size bytes:Nat) (ht:P.underlying t=some (.slice e)) (hi:P.info? e=some i) (hz:i.zero=some z)
  (yop:i.size=size) (hby:i.bytes=bytes) (hzs:z.cells.size=size) (hsz:0<size) (hzN:∀ u ∈ z.cells.toList,vP u)
  (v:Value) (n:Nat) (xs:List Value) (hs:a.eval s=v) (jH:yav w base e size v n xs)
  (ad:Addr) (m c:Nat) (news:List Value) (hx:a.eval x=.slice (some ad) m c) (hl:news.length=m*size) (yc3:∀ j u,news[j]?=some u→w.cell? (ad.add j)=some u) (h1:∀ u ∈ news,u.oneCell'=true) (hN:∀ u ∈ news,vP u) (hm:0<m)
  (h63:n+m≤maxLen) (yhl:(n+m)*bytes≤140737488355328) (ycc:base≤w.heap.size)
  (h:∀ v' w',yav w' base e size v' (n+m) (xs++news)→w.grownBy w' v.ownBlock→wpList P ops Q rest (a.put o.dst v') w'):wpList P ops Q (o::rest) a w :=
 wpList_plain hgd fun K hK=>by
  obtain ⟨v',w',hr,h2,h3⟩:=yh3 (P:=P) w base t o.type e i z size bytes ht hi hz yop hby hzs hsz hzN v n xs jH ad m c news hl yc3 h1 hN hm h63 yhl ycc
  unfold Oper.wp execOp
  simp only [ho,resolve,invoke,builtin,Sem.run_bind,Sem.run_pure,Result.andThen_ok,List.map_toArray,List.map_cons,List.map_nil,hs,hx,hr]
  exact hK _ _ (h v' w' h2 h3)
end
theorem yq7:(Tryz.prog.info? 66).map (fun i=>(i.zero,i.size,i.bytes))=some (some (.agg #[.bool false,.slice none 0 0,.slice none 0 0,.int .i64 0,.int .i64 0,.int .i64 0,.int .i64 0,.int .i64 0,.int .i64 0,.int .i64 0,.int .i64 0]),11,120):=by kernel_rfl
def yiF (W:World) (cs:List Value) (f:FacT):Prop:=∃ b p n c q m d p0 p1 p2 p3 p4 p5 p6,cs=[.bool b,.slice p n c,.slice q m d,.int .i64 p0,.int .i64 p1,.int .i64 p2,.int .i64 p3,.int .i64 p4,.int .i64 p5,.int .i64 p6,.int .i64 f.e]∧zM W (.agg #[.bool b,.slice p n c,.slice q m d]) f.v 40∧[p0,p1,p2,p3,p4,p5,p6]=f.ps
structure FacsIn (W:World) (base:Nat) (v:Value) (css:List (List Value)) (fs:List FacT):Prop where
 row:yav W base 66 11 v fs.length css.flatten
 len:css.length=fs.length
 each:∀ j (h:j<css.length) (h':j<fs.length),yiF W css[j] fs[j]
theorem yav.below {W W':World} {base:Nat} {e:TypeId} {size:Nat} {v:Value} {n:Nat} {xs:List Value} (h:yav W base e size v n xs) (hb:Below W.heap.size W W'):yav W' base e size v n xs:=by
 obtain ⟨⟨h1,h2⟩,h3⟩:=h
 rcases h2 with h2|⟨g,cap,cur,rfl,hbg,hg,hr⟩
 ·refine ⟨⟨h1,.inl h2⟩,?_⟩
  intro g k cap hv
  rw [h2.1] at hv;cases hv
 ·have hlt:=(Array.getElem?_eq_some_iff.1 hg).1
  have hg':=(hb.block g hlt).trans hg
  refine ⟨⟨h1,.inr ⟨g,cap,cur,rfl,hbg,hg',hr⟩⟩,?_⟩
  intro g' k cap' hv cur' t f hh u hu
  cases hv
  rw [hg'] at hh;cases hh
  exact h3 _ _ _ rfl _ _ _ hg u hu
theorem yg0 {W W':World} {base:Nat} {e:TypeId} {size:Nat} {v:Value} {n:Nat} {xs:List Value} (h:yav W base e size v n xs) (hg:W.grownBy W' v.ownBlock) {x:Value} {k:Nat} (hx:yH W x k):yH W' x k:=by
 obtain ⟨p,m,c',l,h1,h2,hr,h4⟩:=hx
 refine ⟨p,m,c',l,h1,h2,⟨hr.len,?_⟩,h4⟩
 rcases hr.cell with h0|⟨b,off,hp,hlt,hcl⟩
 ·exact .inl h0
 ·by_cases hm:m=0
  ·exact .inl hm
  refine .inr ⟨b,off,hp,Nat.lt_of_lt_of_le hlt hg.size,fun j hj=>?_⟩
  have hne:some b≠v.ownBlock:=by
   intro hb
   obtain ⟨⟨-,h5⟩,h6⟩:=h
   rcases h5 with ⟨rfl,-⟩|⟨g,cap,cur,rfl,-,hgg,-⟩
   ·cases hb
   ·simp only [Value.ownBlock,Option.some.injEq] at hb
    subst hb
    have h7:=hcl 0 (by omega)
    rw [yB hgg] at h7
    have:Value.int .u64 ((l.getD 0 0:Nat):Int) ∈ cur.toList:=by
     obtain ⟨hi,he⟩:=Array.getElem?_eq_some_iff.1 h7
     rw [← he];simp
    exact h6 _ _ _ rfl _ _ _ hgg _ this _ rfl
  rw [← hcl j hj]
  exact World.cell?_of_block (w:=W) (hg.block b hlt hne)
theorem ynk {W W':World} {base:Nat} {e:TypeId} {size:Nat} {v:Value} {n:Nat} {xs:List Value} (h:yav W base e size v n xs) (hg:W.grownBy W' v.ownBlock) {x:Value} {q:Rat} {K:Nat} (hx:zM W x q K):zM W' x q K:=by
 obtain ⟨s,m,n,⟨u,v,rfl,hu,hv,hs⟩,hr⟩:=hx
 exact ⟨s,m,n,⟨u,v,rfl,yg0 h hg hu,yg0 h hg hv,hs⟩,hr⟩
theorem yiF.below {W W':World} {cs:List Value} {f:FacT} (h:yiF W cs f) (hb:Below W.heap.size W W'):yiF W' cs f:=by
 obtain ⟨b,p,n,c,q,m,d,p0,p1,p2,p3,p4,p5,p6,h1,h2,h3⟩:=h
 exact ⟨b,p,n,c,q,m,d,p0,p1,p2,p3,p4,p5,p6,h1,h2.below hb,h3⟩
theorem FacsIn.below {W W':World} {base:Nat} {v:Value} {css:List (List Value)} {fs:List FacT} (h:FacsIn W base v css fs) (hb:Below W.heap.size W W'):FacsIn W' base v css fs :=
 ⟨h.row.below hb,h.len,fun j h1 h2=>(h.each j h1 h2).below hb⟩
theorem FacsIn.nil (W:World) (base:Nat):FacsIn W base (.slice none 0 0) [] []:=⟨yav.nil W base 66 11,rfl,fun j h=>by simp at h⟩
theorem FacsIn.more {W W':World} {base:Nat} {v v':Value} {css:List (List Value)} {fs:List FacT} {cs:List Value} {f:FacT} (h:FacsIn W base v css fs) (hc:yiF W cs f) (hr:yav W' base 66 11 v' (fs.length+1) (css.flatten++cs)) (hg:W.grownBy W' v.ownBlock):FacsIn W' base v' (css++[cs]) (fs++[f]):=by
 have keep:∀ {cs f},yiF W cs f→yiF W' cs f:=by
  rintro cs f ⟨b,p,n,c,q,m,d,p0,p1,p2,p3,p4,p5,p6,h1,h2,h3⟩
  exact ⟨b,p,n,c,q,m,d,p0,p1,p2,p3,p4,p5,p6,h1,ynk h.row hg h2,h3⟩
 refine ⟨?_,by simp [h.len],?_⟩
 ·rw [List.flatten_append,List.length_append]
  simpa using hr
 ·intro j h1 h2
  by_cases hj:j<css.length
  ·have hj':j<fs.length:=by rw [← h.len];exact hj
   rw [List.getElem_append_left hj,List.getElem_append_left hj']
   exact keep (h.each j hj hj')
  ·have e1:j=css.length:=by simp at h1;omega
   subst e1
   have:(fs++[f])[css.length]=f:=by simp [h.len]
   rw [this]
   simp only [List.getElem_concat_length]
   exact keep hc
theorem ynl:uX []=none:=rfl
theorem yjf {l:List UInt8} (h:0<yF l):0<vH l:=by
 unfold vH
 split
 ·split<;>omega
 ·exact h
theorem ymj (l:List UInt8):vH l≤l.length:=by
 have h1:=vN l
 unfold vH
 cases hd:l.drop (yF l) with
 | nil=>exact h1
 | cons c t =>
  have h2:=vN t
  have h3:=congrArg List.length hd
  rw [List.length_drop,List.length_cons] at h3
  simp only
  split<;>omega
theorem yjg (t:List UInt8):0≤vG (t.take (yF t))∧vG (t.take (yF t))≤129:=yoH _ (yhv yG t _ (Nat.le_refl _))
theorem ypM (l:List UInt8):-129≤(uA l).1∧(uA l).1≤129:=by
 cases l with
 | nil=>exact ⟨by decide,by decide⟩
 | cons c t =>
  by_cases hc:c=45
  ·subst hc
   have e:uA (45::t)=if yF t=0 then (0,0) else (-vG (t.take (yF t)),1+yF t):=rfl
   have:=yjg t
   rw [e]
   split
   ·simp
   ·simp only;omega
  ·have:=yjg (c::t)
   rw [ycF hc]
   split
   ·simp
   ·simp only;omega
theorem yh4 {l:List UInt8} {f:FacT} {n:Nat} (h:GG l=some (f,n)):0<n∧n≤l.length∧-129≤f.e∧f.e≤129:=by
 have hle:=ybU l
 cases hw:uX (l.take (zG l)) with
 | none=>unfold GG at h;rw [hw] at h;cases h
 | some x =>
  obtain ⟨v,ps⟩:=x
  have hpos:0<zG l:=by
   apply Nat.pos_of_ne_zero
   intro h0
   rw [h0,List.take_zero,ynl] at hw;cases hw
  cases hd:l.drop (zG l) with
  | nil =>
   rw [yaP hw (by intro t ht;rw [hd] at ht;cases ht)] at h
   cases h
   exact ⟨hpos,hle,(by decide:(-129:Int)≤1),(by decide:(1:Int)≤129)⟩
  | cons c t =>
   have h3:=congrArg List.length hd
   rw [List.length_drop,List.length_cons] at h3
   by_cases hc:c=94
   ·subst hc
    have h4:=yje t
    have h5:=ypM t
    rw [yep hw hd] at h
    split at h
    ·cases h
    ·cases h
     exact ⟨by omega,by omega,h5.1,h5.2⟩
   ·rw [yaP hw (by intro t' ht;rw [hd] at ht;simp only [List.cons.injEq] at ht;exact hc ht.1)] at h
    cases h
    exact ⟨hpos,hle,(by decide:(-129:Int)≤1),(by decide:(1:Int)≤129)⟩
theorem yb7 {l:List UInt8} {f:FacT} {n:Nat} (h:jK l=some (f,n)):0<n∧n≤l.length∧-129≤f.e∧f.e≤129:=by
 unfold jK at h
 split at h
 ·rename_i hc
  unfold GF at h
  split at h
  ·cases h
   exact ⟨yjf hc,ymj l,(by decide:(-129:Int)≤1),(by decide:(1:Int)≤129)⟩
  ·cases h
 ·exact yh4 h
theorem uD {l:List UInt8} {dir:Int} {acc:List FacT} {F:Nat} (h:jK l=none):zL l dir acc (F+1)=none:=by
 unfold zL;rw [h]
theorem yat {l:List UInt8} {dir:Int} {acc:List FacT} {F n:Nat} {f:FacT} (h:jK l=some (f,n)) (hn:n=l.length):zL l dir acc (F+1)=some (acc++[{ f with e:=f.e*dir }]):=by
 unfold zL;rw [h];simp only;rw [if_pos hn]
theorem GN {l t:List UInt8} {dir:Int} {acc:List FacT} {F n:Nat} {f:FacT} (h:jK l=some (f,n)) (hn:n≠l.length) (hd:l.drop n=32::t):zL l dir acc (F+1)=zL t 1 (acc++[{ f with e:=f.e*dir }]) F:=by
 rw [zL,h];simp only;rw [if_neg hn];simp only [hd]
theorem GO {l t:List UInt8} {dir:Int} {acc:List FacT} {F n:Nat} {f:FacT} (h:jK l=some (f,n)) (hn:n≠l.length) (hd:l.drop n=47::t):zL l dir acc (F+1)=zL t (-1) (acc++[{ f with e:=f.e*dir }]) F:=by
 rw [zL,h];simp only;rw [if_neg hn];simp only [hd]
theorem GP {l t:List UInt8} {c:UInt8} {dir:Int} {acc:List FacT} {F n:Nat} {f:FacT} (h:jK l=some (f,n)) (hn:n≠l.length) (hd:l.drop n=c::t) (h1:c≠32) (h2:c≠47):zL l dir acc (F+1)=none:=by
 rw [zL,h];simp only;rw [if_neg hn];simp only [hd]
 split
 ·rename_i he;simp only [List.cons.injEq] at he;exact absurd he.1 h1
 ·rename_i he;simp only [List.cons.injEq] at he;exact absurd he.1 h2
 ·rfl
def ycp (o:Option (List FacT)) (w:World) (e:Ending) (w':World):Prop :=
 Below w.heap.size w w'∧match o with
 | none=>e=.returned (.tuple #[.slice none 0 0,.bool false])
 | some fs=>∃ v css,e=.returned (.tuple #[v,.bool true])∧FacsIn w' w.heap.size v css fs
structure ScanInv (s t:ByteArray) (w wr:World) (v:Value) (dir:Int) (fs:List FacT) (css:List (List Value)) (F:Nat):Prop where
 facs:FacsIn wr w.heap.size v css fs
 below:Below w.heap.size w wr
 size:fs.length+t.size≤s.size
 fuel:t.size<F
 eq:zL s.data.toList 1 [] (s.size+1)=zL t.data.toList dir fs F
theorem yeq:∀ u ∈ (Value.agg #[.bool false,.slice none 0 0,.slice none 0 0,.int .i64 0,.int .i64 0,.int .i64 0,.int .i64 0,.int .i64 0,.int .i64 0,.int .i64 0,.int .i64 0]).cells.toList,vP u:=by
 intro u hu
 have h:u ∈ ([.bool false,.slice none 0 0,.slice none 0 0,.int .i64 0,.int .i64 0,.int .i64 0,.int .i64 0,.int .i64 0,.int .i64 0,.int .i64 0,.int .i64 0]:List Value):=hu
 simp only [List.mem_cons,List.not_mem_nil,or_false] at h
 rcases h with rfl|rfl|rfl|rfl|rfl|rfl|rfl|rfl|rfl|rfl|rfl
 ·exact jI _
 ·exact zA _ _ _
 ·exact zA _ _ _
 all_goals exact yD _
theorem ydF (b1:Bool) (q:Option Addr) (n1 k1:Nat) (q2:Option Addr) (m1 k2:Nat) (p0 p1 p2 p3 p4 p5 p6 x:Int):∀ u ∈ ([.bool b1,.slice q n1 k1,.slice q2 m1 k2,.int .i64 p0,.int .i64 p1,.int .i64 p2,.int .i64 p3,.int .i64 p4,.int .i64 p5,.int .i64 p6,.int .i64 x]:List Value),vP u:=by
 intro u h
 simp only [List.mem_cons,List.not_mem_nil,or_false] at h
 rcases h with rfl|rfl|rfl|rfl|rfl|rfl|rfl|rfl|rfl|rfl|rfl
 ·exact jI _
 ·exact zA _ _ _
 ·exact zA _ _ _
 all_goals exact yD _
theorem ydG (b1:Bool) (q:Option Addr) (n1 k1:Nat) (q2:Option Addr) (m1 k2:Nat) (p0 p1 p2 p3 p4 p5 p6 x:Int):∀ u ∈ ([.bool b1,.slice q n1 k1,.slice q2 m1 k2,.int .i64 p0,.int .i64 p1,.int .i64 p2,.int .i64 p3,.int .i64 p4,.int .i64 p5,.int .i64 p6,.int .i64 x]:List Value),u.oneCell'=true:=by
 intro u h
 simp only [List.mem_cons,List.not_mem_nil,or_false] at h
 rcases h with rfl|rfl|rfl|rfl|rfl|rfl|rfl|rfl|rfl|rfl|rfl<;>rfl
theorem ydV (W:World) (c:List Value) (T:TypeId) (B:Nat) (hB:B=W.heap.size):∀ j u,c[j]?=some u→(W.alloc (.cells c.toArray T)).cell? ((⟨B,0,none⟩:Addr).add j)=some u:=by
 intro j u hu
 subst hB
 have e:(⟨W.heap.size,0,none⟩:Addr).add j=⟨W.heap.size,j,none⟩:=by
  simp only [Addr.add];split
  ·rename_i h0;subst h0;rfl
  ·simp
 rw [e,yB (yV W _) j]
 simpa using hu
theorem yeX (s:ByteArray) (w:World) (hmax:s.size≤90000) (htab:Tab w):Calls Tryz.prog 13 #[.string s] w (ycp (zL s.data.toList 1 [] (s.size+1)) w):=by
 obtain ⟨i0,hi,hz0,hz1,hz2⟩:=info_parts yq7
 have Htab:=yA htab
 clear htab
 have hst:Hid (∃ fs css F,ScanInv s s w w (.slice none 0 0) 1 fs css F):=yA ⟨[],[],s.size+1,FacsIn.nil _ _,Below.refl _ _,by simp,by omega,rfl⟩
 have hms:(s.size:Int)≤90000:=by omega
 go_enter Tryz.func13,Tryz.ntmps13
 go_wp2_with fail
 go_loopw [0,4,5] (fun sv fv dv wr=>∃ (t:ByteArray) (dir:Int),sv=.string t∧dv=.int .i64 dir∧(dir=1∨dir=-1)∧(t.size:Int)≤90000∧Hid (∃ fs css F,ScanInv s t w wr fv dir fs css F)) (fun sv _ _ _=>ybJ sv)
 case atStart=>exact ⟨s,1,rfl,rfl,.inl rfl,hms,hst⟩
 case round =>
  obtain ⟨t,dir,rfl,rfl,hdir,hmt,ycB⟩:=hrel
  obtain ⟨fs,css,F,yI⟩:=ycB.out
  have Hinv:=yA yI
  clear yI ycB
  obtain ⟨F',hF'⟩:∃ F',F=F'+1:=⟨F-1,by have:=Hinv.out.fuel;omega⟩
  subst hF'
  have hlen:t.data.toList.length=t.size:=by simp
  have hsc:Hid (Calls Tryz.prog 29 #[.string t] wr (yM (jK t.data.toList) wr)):=yA (yfO t wr (by omega) (Htab.out.below Hinv.out.below))
  cases ho:jK t.data.toList with
  | none =>
   have yP:Hid (zL s.data.toList 1 [] (s.size+1)=none):=yA (Hinv.out.eq.trans (uD ho))
   rw [ho] at hsc
   clear ho hlen
   go_wp2_with fail
   refine hsc.out.mono ?_
   rintro e w2 ⟨hb2,b1,q,n1,k1,q2,m1,k2,p0,p1,p2,p3,p4,p5,p6,x,rfl,-⟩
   have hbw:=yA ((Hinv.out.below.trans (hb2.mono Hinv.out.below.size)).trans ((zK w2 (.cells #[.bool b1,.slice q n1 k1,.slice q2 m1 k2,.int .i64 p0,.int .i64 p1,.int .i64 p2,.int .i64 p3,.int .i64 p4,.int .i64 p5,.int .i64 p6,.int .i64 x] 66)).mono (Hinv.out.below.trans (hb2.mono Hinv.out.below.size)).size))
   clear hb2
   go_wp2_with fail
   go_ret2
   rw [yP.out]
   exact ⟨hbw.out,rfl⟩
  | some fn =>
   obtain ⟨f,n⟩:=fn
   obtain ⟨hn0,hnl,he1,he2⟩:=yb7 ho
   rw [hlen] at hnl
   rw [ho] at hsc
   have hn0':((n:Int)==0)=false:=by rw [beq_eq_false_iff_ne];omega
   have Ho:=yA ho
   clear ho
   rcases hdir with rfl|rfl
   ·have yiz:f.e*(1)=f.e:=by omega
    have yc2:Hid (∀ (w2 w5:World) (v v':Value) (T:TypeId) (b1:Bool) (q:Option Addr) (n1 k1:Nat) (q2:Option Addr) (m1 k2:Nat) (p0 p1 p2 p3 p4 p5 p6:Int),FacsIn wr w.heap.size v css fs→Below wr.heap.size wr w2→zM w2 (.agg #[.bool b1,.slice q n1 k1,.slice q2 m1 k2]) f.v 40→[p0,p1,p2,p3,p4,p5,p6]=f.ps →
      yav w5 w.heap.size 66 11 v' (fs.length+1) (css.flatten++[.bool b1,.slice q n1 k1,.slice q2 m1 k2,.int .i64 p0,.int .i64 p1,.int .i64 p2,.int .i64 p3,.int .i64 p4,.int .i64 p5,.int .i64 p6,.int .i64 (f.e)])→((w2.alloc (.cells #[.bool b1,.slice q n1 k1,.slice q2 m1 k2,.int .i64 p0,.int .i64 p1,.int .i64 p2,.int .i64 p3,.int .i64 p4,.int .i64 p5,.int .i64 p6,.int .i64 (f.e)] 66)).alloc (.cells #[.bool b1,.slice q n1 k1,.slice q2 m1 k2,.int .i64 p0,.int .i64 p1,.int .i64 p2,.int .i64 p3,.int .i64 p4,.int .i64 p5,.int .i64 p6,.int .i64 (f.e)] T)).grownBy w5 v.ownBlock →
      FacsIn w5 w.heap.size v' (css++[[.bool b1,.slice q n1 k1,.slice q2 m1 k2,.int .i64 p0,.int .i64 p1,.int .i64 p2,.int .i64 p3,.int .i64 p4,.int .i64 p5,.int .i64 p6,.int .i64 (f.e)]]) (fs++[{ f with e:=f.e*(1) }])∧Below w.heap.size w w5):=yA (by
     intro w2 w5 v v' T b1 q n1 k1 q2 m1 k2 p0 p1 p2 p3 p4 p5 p6 hf hb2 hR hps vU hg
     have hb4:=(zK w2 (.cells #[.bool b1,.slice q n1 k1,.slice q2 m1 k2,.int .i64 p0,.int .i64 p1,.int .i64 p2,.int .i64 p3,.int .i64 p4,.int .i64 p5,.int .i64 p6,.int .i64 (f.e)] 66)).trans ((zK (w2.alloc (.cells #[.bool b1,.slice q n1 k1,.slice q2 m1 k2,.int .i64 p0,.int .i64 p1,.int .i64 p2,.int .i64 p3,.int .i64 p4,.int .i64 p5,.int .i64 p6,.int .i64 (f.e)] 66)) (.cells #[.bool b1,.slice q n1 k1,.slice q2 m1 k2,.int .i64 p0,.int .i64 p1,.int .i64 p2,.int .i64 p3,.int .i64 p4,.int .i64 p5,.int .i64 p6,.int .i64 (f.e)] T)).mono (zK w2 (.cells #[.bool b1,.slice q n1 k1,.slice q2 m1 k2,.int .i64 p0,.int .i64 p1,.int .i64 p2,.int .i64 p3,.int .i64 p4,.int .i64 p5,.int .i64 p6,.int .i64 (f.e)] 66)).size)
     have hb:=hb2.trans (hb4.mono hb2.size)
     refine ⟨(hf.below hb).more ⟨b1,q,n1,k1,q2,m1,k2,p0,p1,p2,p3,p4,p5,p6,by rw [yiz],hR.below hb4,hps⟩ vU hg,?_⟩
     have hbw:=Hinv.out.below.trans (hb.mono Hinv.out.below.size)
     refine Below.grown hbw hg hbw.size ?_
     intro g hgo
     rcases hf.row.1.2 with ⟨rfl,-⟩|⟨g',cap,cur,rfl,hbg,-⟩
     ·cases hgo
     ·simp only [Value.ownBlock,Option.some.injEq] at hgo
      omega)
    clear yiz
    go_wp2_with fail
    refine hsc.out.mono ?_
    rintro e w2 ⟨hb2,b1,q,n1,k1,q2,m1,k2,p0,p1,p2,p3,p4,p5,p6,x,rfl,yZ⟩
    rw [show ydj (some (f,n))=n from rfl]
    obtain ⟨hR,hps,hx⟩:=yZ _ _ rfl
    subst hx
    have HR:=yA hR
    have Hps:=yA hps
    have Hb2:=yA hb2
    have ycc:Hid (w.heap.size≤w2.heap.size):=yA (Nat.le_trans Hinv.out.below.size hb2.size)
    clear yZ hR hps hb2 hsc
    go_wp2_with (at_builtin;refine yaY rfl _ _ 34 rfl w.heap.size 66 i0 (Value.agg #[.bool false,.slice none 0 0,.slice none 0 0,.int .i64 0,.int .i64 0,.int .i64 0,.int .i64 0,.int .i64 0,.int .i64 0,.int .i64 0,.int .i64 0]) 11 120 Tryz.underlying34 hi hz0 hz1 hz2 rfl (by decide) yeq _ _ _ rfl (((Hinv.out.facs.row.below Hb2.out).below (zK _ _)).below (zK _ _)) ⟨w2.heap.size+1,0,none⟩ 1 1 [.bool b1,.slice q n1 k1,.slice q2 m1 k2,.int .i64 p0,.int .i64 p1,.int .i64 p2,.int .i64 p3,.int .i64 p4,.int .i64 p5,.int .i64 p6,.int .i64 (f.e)] rfl rfl (ydV _ _ _ _ (by simp)) (ydG _ _ _ _ _ _ _ _ _ _ _ _ _ _ _) (ydF _ _ _ _ _ _ _ _ _ _ _ _ _ _ _) (by decide) (by have:=Hinv.out.size;unfold maxLen;omega) (by have:=Hinv.out.size;omega) (by have:=ycc.out;simp;omega) ?_)
    intro v' w5 ydK hg5
    obtain ⟨ydL,ycR⟩:=yc2.out _ _ _ _ _ _ _ _ _ _ _ _ _ _ _ _ _ _ _ Hinv.out.facs Hb2.out HR.out Hps.out ydK hg5
    have Hfacs:=yA ydL
    have Hbel:=yA ycR
    clear ydL ycR ydK hg5 yc2
    by_cases yf9:n=t.size
    ·have yP:Hid (zL s.data.toList 1 [] (s.size+1)=some (fs++[{ f with e:=f.e*(1) }])):=yA (Hinv.out.eq.trans (yat Ho.out (by omega)))
     have hb:((n:Int)==t.size)=true:=by rw [beq_iff_eq];omega
     clear yf9
     go_wp2_with fail
     go_ret2
     rw [yP.out]
     exact ⟨Hbel.out,_,_,rfl,Hfacs.out⟩
    ·have hlt:n<t.size:=by omega
     have hb:((n:Int)==t.size)=false:=by rw [beq_eq_false_iff_ne];omega
     have yag:Hid (t.data.toList.drop n=t[n]'hlt::t.data.toList.drop (n+1)):=yA (by rw [List.drop_eq_getElem_cons (by omega)];rfl)
     have yn7:Hid ((t.extract (n+1) t.size).data.toList=t.data.toList.drop (n+1)):=yA (GS t (n+1))
     have hsz:Hid ((t.extract (n+1) t.size).size=t.size-(n+1)):=yA (by simp)
     have yiI:Hid (n≠t.data.toList.length):=yA (by omega)
     by_cases h32:(((t[n]'hlt).toNat:Int)==32)=true
     ·have uG:Hid (∃ fs' css' F'',ScanInv s (t.extract (n+1) t.size) w w5 v' 1 fs' css' F''):=yA ⟨_,_,F',Hfacs.out,Hbel.out,by have:=Hinv.out.size;have:=hsz.out;simp;omega,by have:=Hinv.out.fuel;have:=hsz.out;omega,by
       rw [yn7.out]
       refine Hinv.out.eq.trans (GN Ho.out yiI.out ?_)
       rw [yag.out];congr 1;apply UInt8.toNat_inj.1;rw [beq_iff_eq] at h32;have:((32:UInt8)).toNat=32:=rfl;omega⟩
      clear yf9
      go_wp2_with fail
      go_roundw
      case rel=>exact ⟨_,1,rfl,rfl,.inl rfl,by have:=hsz.out;omega,uG⟩
      case measure=>have:=hsz.out;simp [ybJ];omega
     ·rw [Bool.not_eq_true] at h32
      by_cases h47:(((t[n]'hlt).toNat:Int)==47)=true
      ·have uG:Hid (∃ fs' css' F'',ScanInv s (t.extract (n+1) t.size) w w5 v' (-1) fs' css' F''):=yA ⟨_,_,F',Hfacs.out,Hbel.out,by have:=Hinv.out.size;have:=hsz.out;simp;omega,by have:=Hinv.out.fuel;have:=hsz.out;omega,by
        rw [yn7.out]
        refine Hinv.out.eq.trans (GO Ho.out yiI.out ?_)
        rw [yag.out];congr 1;apply UInt8.toNat_inj.1;rw [beq_iff_eq] at h47;have:((47:UInt8)).toNat=47:=rfl;omega⟩
       clear yf9
       go_wp2_with fail
       go_roundw
       case rel=>exact ⟨_,-1,rfl,rfl,.inr rfl,by have:=hsz.out;omega,uG⟩
       case measure=>have:=hsz.out;simp [ybJ];omega
      ·rw [Bool.not_eq_true] at h47
       have yP:Hid (zL s.data.toList 1 [] (s.size+1)=none):=yA (Hinv.out.eq.trans (GP Ho.out yiI.out yag.out (by intro h;rw [h] at h32;revert h32;decide) (by intro h;rw [h] at h47;revert h47;decide)))
       clear yf9
       go_wp2_with fail
       go_ret2
       rw [yP.out]
       exact ⟨Hbel.out,rfl⟩
   ·have yiz:f.e*(-1)=-f.e:=by omega
    have yc2:Hid (∀ (w2 w5:World) (v v':Value) (T:TypeId) (b1:Bool) (q:Option Addr) (n1 k1:Nat) (q2:Option Addr) (m1 k2:Nat) (p0 p1 p2 p3 p4 p5 p6:Int),FacsIn wr w.heap.size v css fs→Below wr.heap.size wr w2→zM w2 (.agg #[.bool b1,.slice q n1 k1,.slice q2 m1 k2]) f.v 40→[p0,p1,p2,p3,p4,p5,p6]=f.ps →
      yav w5 w.heap.size 66 11 v' (fs.length+1) (css.flatten++[.bool b1,.slice q n1 k1,.slice q2 m1 k2,.int .i64 p0,.int .i64 p1,.int .i64 p2,.int .i64 p3,.int .i64 p4,.int .i64 p5,.int .i64 p6,.int .i64 (-f.e)])→((w2.alloc (.cells #[.bool b1,.slice q n1 k1,.slice q2 m1 k2,.int .i64 p0,.int .i64 p1,.int .i64 p2,.int .i64 p3,.int .i64 p4,.int .i64 p5,.int .i64 p6,.int .i64 (-f.e)] 66)).alloc (.cells #[.bool b1,.slice q n1 k1,.slice q2 m1 k2,.int .i64 p0,.int .i64 p1,.int .i64 p2,.int .i64 p3,.int .i64 p4,.int .i64 p5,.int .i64 p6,.int .i64 (-f.e)] T)).grownBy w5 v.ownBlock →
      FacsIn w5 w.heap.size v' (css++[[.bool b1,.slice q n1 k1,.slice q2 m1 k2,.int .i64 p0,.int .i64 p1,.int .i64 p2,.int .i64 p3,.int .i64 p4,.int .i64 p5,.int .i64 p6,.int .i64 (-f.e)]]) (fs++[{ f with e:=f.e*(-1) }])∧Below w.heap.size w w5):=yA (by
     intro w2 w5 v v' T b1 q n1 k1 q2 m1 k2 p0 p1 p2 p3 p4 p5 p6 hf hb2 hR hps vU hg
     have hb4:=(zK w2 (.cells #[.bool b1,.slice q n1 k1,.slice q2 m1 k2,.int .i64 p0,.int .i64 p1,.int .i64 p2,.int .i64 p3,.int .i64 p4,.int .i64 p5,.int .i64 p6,.int .i64 (-f.e)] 66)).trans ((zK (w2.alloc (.cells #[.bool b1,.slice q n1 k1,.slice q2 m1 k2,.int .i64 p0,.int .i64 p1,.int .i64 p2,.int .i64 p3,.int .i64 p4,.int .i64 p5,.int .i64 p6,.int .i64 (-f.e)] 66)) (.cells #[.bool b1,.slice q n1 k1,.slice q2 m1 k2,.int .i64 p0,.int .i64 p1,.int .i64 p2,.int .i64 p3,.int .i64 p4,.int .i64 p5,.int .i64 p6,.int .i64 (-f.e)] T)).mono (zK w2 (.cells #[.bool b1,.slice q n1 k1,.slice q2 m1 k2,.int .i64 p0,.int .i64 p1,.int .i64 p2,.int .i64 p3,.int .i64 p4,.int .i64 p5,.int .i64 p6,.int .i64 (-f.e)] 66)).size)
     have hb:=hb2.trans (hb4.mono hb2.size)
     refine ⟨(hf.below hb).more ⟨b1,q,n1,k1,q2,m1,k2,p0,p1,p2,p3,p4,p5,p6,by rw [yiz],hR.below hb4,hps⟩ vU hg,?_⟩
     have hbw:=Hinv.out.below.trans (hb.mono Hinv.out.below.size)
     refine Below.grown hbw hg hbw.size ?_
     intro g hgo
     rcases hf.row.1.2 with ⟨rfl,-⟩|⟨g',cap,cur,rfl,hbg,-⟩
     ·cases hgo
     ·simp only [Value.ownBlock,Option.some.injEq] at hgo
      omega)
    clear yiz
    go_wp2_with fail
    refine hsc.out.mono ?_
    rintro e w2 ⟨hb2,b1,q,n1,k1,q2,m1,k2,p0,p1,p2,p3,p4,p5,p6,x,rfl,yZ⟩
    rw [show ydj (some (f,n))=n from rfl]
    obtain ⟨hR,hps,hx⟩:=yZ _ _ rfl
    subst hx
    have HR:=yA hR
    have Hps:=yA hps
    have Hb2:=yA hb2
    have ycc:Hid (w.heap.size≤w2.heap.size):=yA (Nat.le_trans Hinv.out.below.size hb2.size)
    clear yZ hR hps hb2 hsc
    go_wp2_with (at_builtin;refine yaY rfl _ _ 34 rfl w.heap.size 66 i0 (Value.agg #[.bool false,.slice none 0 0,.slice none 0 0,.int .i64 0,.int .i64 0,.int .i64 0,.int .i64 0,.int .i64 0,.int .i64 0,.int .i64 0,.int .i64 0]) 11 120 Tryz.underlying34 hi hz0 hz1 hz2 rfl (by decide) yeq _ _ _ rfl (((Hinv.out.facs.row.below Hb2.out).below (zK _ _)).below (zK _ _)) ⟨w2.heap.size+1,0,none⟩ 1 1 [.bool b1,.slice q n1 k1,.slice q2 m1 k2,.int .i64 p0,.int .i64 p1,.int .i64 p2,.int .i64 p3,.int .i64 p4,.int .i64 p5,.int .i64 p6,.int .i64 (-f.e)] rfl rfl (ydV _ _ _ _ (by simp)) (ydG _ _ _ _ _ _ _ _ _ _ _ _ _ _ _) (ydF _ _ _ _ _ _ _ _ _ _ _ _ _ _ _) (by decide) (by have:=Hinv.out.size;unfold maxLen;omega) (by have:=Hinv.out.size;omega) (by have:=ycc.out;simp;omega) ?_)
    intro v' w5 ydK hg5
    obtain ⟨ydL,ycR⟩:=yc2.out _ _ _ _ _ _ _ _ _ _ _ _ _ _ _ _ _ _ _ Hinv.out.facs Hb2.out HR.out Hps.out ydK hg5
    have Hfacs:=yA ydL
    have Hbel:=yA ycR
    clear ydL ycR ydK hg5 yc2
    by_cases yf9:n=t.size
    ·have yP:Hid (zL s.data.toList 1 [] (s.size+1)=some (fs++[{ f with e:=f.e*(-1) }])):=yA (Hinv.out.eq.trans (yat Ho.out (by omega)))
     have hb:((n:Int)==t.size)=true:=by rw [beq_iff_eq];omega
     clear yf9
     go_wp2_with fail
     go_ret2
     rw [yP.out]
     exact ⟨Hbel.out,_,_,rfl,Hfacs.out⟩
    ·have hlt:n<t.size:=by omega
     have hb:((n:Int)==t.size)=false:=by rw [beq_eq_false_iff_ne];omega
     have yag:Hid (t.data.toList.drop n=t[n]'hlt::t.data.toList.drop (n+1)):=yA (by rw [List.drop_eq_getElem_cons (by omega)];rfl)
     have yn7:Hid ((t.extract (n+1) t.size).data.toList=t.data.toList.drop (n+1)):=yA (GS t (n+1))
     have hsz:Hid ((t.extract (n+1) t.size).size=t.size-(n+1)):=yA (by simp)
     have yiI:Hid (n≠t.data.toList.length):=yA (by omega)
     by_cases h32:(((t[n]'hlt).toNat:Int)==32)=true
     ·have uG:Hid (∃ fs' css' F'',ScanInv s (t.extract (n+1) t.size) w w5 v' 1 fs' css' F''):=yA ⟨_,_,F',Hfacs.out,Hbel.out,by have:=Hinv.out.size;have:=hsz.out;simp;omega,by have:=Hinv.out.fuel;have:=hsz.out;omega,by
       rw [yn7.out]
       refine Hinv.out.eq.trans (GN Ho.out yiI.out ?_)
       rw [yag.out];congr 1;apply UInt8.toNat_inj.1;rw [beq_iff_eq] at h32;have:((32:UInt8)).toNat=32:=rfl;omega⟩
      clear yf9
      go_wp2_with fail
      go_roundw
      case rel=>exact ⟨_,1,rfl,rfl,.inl rfl,by have:=hsz.out;omega,uG⟩
      case measure=>have:=hsz.out;simp [ybJ];omega
     ·rw [Bool.not_eq_true] at h32
      by_cases h47:(((t[n]'hlt).toNat:Int)==47)=true
      ·have uG:Hid (∃ fs' css' F'',ScanInv s (t.extract (n+1) t.size) w w5 v' (-1) fs' css' F''):=yA ⟨_,_,F',Hfacs.out,Hbel.out,by have:=Hinv.out.size;have:=hsz.out;simp;omega,by have:=Hinv.out.fuel;have:=hsz.out;omega,by
        rw [yn7.out]
        refine Hinv.out.eq.trans (GO Ho.out yiI.out ?_)
        rw [yag.out];congr 1;apply UInt8.toNat_inj.1;rw [beq_iff_eq] at h47;have:((47:UInt8)).toNat=47:=rfl;omega⟩
       clear yf9
       go_wp2_with fail
       go_roundw
       case rel=>exact ⟨_,-1,rfl,rfl,.inr rfl,by have:=hsz.out;omega,uG⟩
       case measure=>have:=hsz.out;simp [ybJ];omega
      ·rw [Bool.not_eq_true] at h47
       have yP:Hid (zL s.data.toList 1 [] (s.size+1)=none):=yA (Hinv.out.eq.trans (GP Ho.out yiI.out yag.out (by intro h;rw [h] at h32;revert h32;decide) (by intro h;rw [h] at h47;revert h47;decide)))
       clear yf9
       go_wp2_with fail
       go_ret2
       rw [yP.out]
       exact ⟨Hbel.out,rfl⟩
end
end Go.Proofs.YtfjnipkpfbkegaaGreatDoor
