/- Contracts. -/
import Derived.Test.YtgepehlpjpccaaaGreatDoorYG
namespace Go.Proofs.YtgepehlpjpccaaaGreatDoor
section
open Go.Lib Big
/-! Digits -/
/-! Compare -/
theorem yqd {x y:List UInt8} {a b:Rat} (hx:num x=some a) (hy:num y=some b):yes x y=(ybA (a-b),true):=by unfold yes;rw [hx,hy]
end
set_option maxHeartbeats 3200000
set_option maxRecDepth 100000
section
open Go.RowKit Big
open Go.Lib
theorem Resa.other {B g:Nat} {w0 W:World} (h:Resa B w0 W) (hg:g≠B) (h0:w0.heap.size≤g) (k:Nat) (v:Value):Resa B w0 (W.setCell ⟨g,k,none⟩ v):=by
 refine ⟨by rw [World.size_setCell];exact h.size,h.below.setCell h0 _,?_⟩
 obtain ⟨z0,z1,z2,hz,hn⟩:=h.z
 exact ⟨z0,z1,z2,(Below.heap_setCell _ _ _ _ (fun e=>hg e.symm)).trans hz,hn⟩
def yao (a b:Rat) (f:Bool) (w:World) (e:Ending) (w':World):Prop:=∃ b1 p n c p2 n2 c2 b2 q m d q2 m2 d2,e=.returned (.tuple #[.agg #[.bool b1,.slice p n c,.slice p2 n2 c2],.agg #[.bool b2,.slice q m d,.slice q2 m2 d2],.bool f])∧Below w.heap.size w w' ∧
 (f=true→uM w' (.agg #[.bool b1,.slice p n c,.slice p2 n2 c2]) a∧uM w' (.agg #[.bool b2,.slice q m d,.slice q2 m2 d2]) b)
theorem yiH (f g:Bool) (s t:ByteArray) (a b:Rat) (w:World) (h1:∀ W,Hid (Calls Tryz.prog 31 #[.string s] W (zF a f W))) (h2:∀ W,Hid (Calls Tryz.prog 31 #[.string t] W (zF b g W))) :
  Calls Tryz.prog 80 #[.string s,.string t] w (yao a b (f&&g) w):=by
 cases f<;>cases g
 all_goals
  have hr1:=(Resa.start w).next (yF _ (.cells #[.bool false,.slice none 0 0,.slice none 0 0] 59))
  have hr2:Resa (w.heap.size+1) w ((w.alloc (.cells #[.bool false,.slice none 0 0,.slice none 0 0] 59)).alloc (.cells #[.bool false,.slice none 0 0,.slice none 0 0] 59)) :=
   ⟨by simp,hr1.below,.bool false,.slice none 0 0,.slice none 0 0,by rw [show w.heap.size+1=(w.alloc (.cells #[.bool false,.slice none 0 0,.slice none 0 0] 59)).heap.size from by simp];exact yY _ _,zD _,yK _ _ _,yK _ _ _⟩
  have Hr1:=yA hr1
  have Hr2:=yA hr2
  clear hr1 hr2
  go_enter Tryz.func80,Tryz.ntmps80
  go_wp2_with fail
  refine (h1 _).out.mono ?_
  rintro e w1 ⟨b1,p,n,c,p2,n2,c2,rfl,hb1,hq1⟩
  have hR1:=yA ((Hr1.out.next hb1).next (yF w1 (.cells #[.bool b1,.slice p n c,.slice p2 n2 c2] 59)))
  have hR2:=yA ((Hr2.out.next hb1).next (yF w1 (.cells #[.bool b1,.slice p n c,.slice p2 n2 c2] 59)))
  have hQ1:=yA (fun h=>(hq1 h).below (yF w1 (.cells #[.bool b1,.slice p n c,.slice p2 n2 c2] 59)))
  have hB7:Hid ((w1.alloc (.cells #[.bool b1,.slice p n c,.slice p2 n2 c2] 59)).heap[w1.heap.size]?=some (.cells #[.bool b1,.slice p n c,.slice p2 n2 c2] 59 (0,0))):=yA (yY _ _)
  have hlt1:Hid (w.heap.size+1<w1.heap.size):=yA (by have:=hb1.size;simp at this;omega)
  clear hb1 hq1
  go_wp2_with fail
  refine (h2 _).out.mono ?_
  rintro e w2 ⟨b2,q,m,d,q2,m2,d2,rfl,hb2,hq2⟩
  have hS1:=yA ((hR1.out.next hb2).next (yF w2 (.cells #[.bool b2,.slice q m d,.slice q2 m2 d2] 59)))
  have hS2:=yA ((hR2.out.next hb2).next (yF w2 (.cells #[.bool b2,.slice q m d,.slice q2 m2 d2] 59)))
  have hT1:=yA (fun h=>((hQ1.out h).below hb2).below (yF w2 (.cells #[.bool b2,.slice q m d,.slice q2 m2 d2] 59)))
  have hT2:=yA (fun h=>(hq2 h).below (yF w2 (.cells #[.bool b2,.slice q m d,.slice q2 m2 d2] 59)))
  have h7:(w2.alloc (.cells #[.bool b2,.slice q m d,.slice q2 m2 d2] 59)).heap[w1.heap.size]?=some (.cells #[.bool b1,.slice p n c,.slice p2 n2 c2] 59 (0,0)):=by
   rw [yaQ _ _ _ (by have:=hb2.size;simp at this;omega),hb2.block _ (by simp)];exact hB7.out
  have h9:(w2.alloc (.cells #[.bool b2,.slice q m d,.slice q2 m2 d2] 59)).heap[w2.heap.size]?=some (.cells #[.bool b2,.slice q m d,.slice q2 m2 d2] 59 (0,0)):=yY _ _
  have x70:=zU h7 0
  have x71:=zU h7 1
  have x72:=zU h7 2
  obtain ⟨y0,y1,y2,l0,l1,l2,f0,f1,f2⟩:=hS1.out.slots
  obtain ⟨z0,z1,z2,k0,k1,k2,g0,g1,g2⟩:=hS2.out.slots
  have x90:=zU h9 0
  have x91:=zU h9 1
  have x92:=zU h9 2
  have hs1:w.heap.size+1<w1.heap.size:=hlt1.out
  have hs2:w1.heap.size<w2.heap.size:=by have:=hb2.size;simp at this;omega
  have n1:w2.heap.size≠w.heap.size:=by omega
  have n2':w.heap.size≠w2.heap.size:=by omega
  have n3:w2.heap.size≠w.heap.size+1:=by omega
  have n4:w.heap.size+1≠w2.heap.size:=by omega
  have n5:w1.heap.size≠w.heap.size:=by omega
  have n6:w.heap.size≠w1.heap.size:=by omega
  have n7:w1.heap.size≠w.heap.size+1:=by omega
  have n8:w.heap.size+1≠w1.heap.size:=by omega
  clear h7 h9 hb2 hq2
  go_wp2_with fail
  have hA:=yA (hS1.out.put3 (Nat.le_refl _) b1 p p2 n c n2 c2)
  have hB:=yA (((hS2.out.other (by omega) (Nat.le_refl _) 0 (.bool b1)).other (by omega) (Nat.le_refl _) 1 (.slice p n c)).other (by omega) (Nat.le_refl _) 2 (.slice p2 n2 c2))
  first
  | (
    have hQ:Hid (yao a b true w (.returned (.tuple #[.agg #[.bool b1,.slice p n c,.slice p2 n2 c2],.agg #[.bool b2,.slice q m d,.slice q2 m2 d2],.bool true])) ((((((((w2.alloc (.cells #[.bool b2,.slice q m d,.slice q2 m2 d2] 59)).setCell ⟨w.heap.size,0,none⟩ (.bool b1)).setCell ⟨w.heap.size,1,none⟩ (.slice p n c)).setCell ⟨w.heap.size,2,none⟩ (.slice p2 n2 c2)).setCell ⟨w.heap.size+1,0,none⟩ (.bool b2)).setCell ⟨w.heap.size+1,1,none⟩ (.slice q m d)).setCell ⟨w.heap.size+1,2,none⟩ (.slice q2 m2 d2)).drew)):=yA (by
     refine ⟨_,_,_,_,_,_,_,_,_,_,_,_,_,_,rfl,((hB.out.put3 (by omega) b2 q q2 m d m2 d2).below).drew,?_⟩
     exact fun _=>⟨((hT1.out (by trivial)).put3 hS1.out (Nat.le_refl _) b1 p p2 n c n2 c2).put3 hB.out (by omega) b2 q q2 m d m2 d2 |>.below (Below.refl _ _).drew,((hT2.out (by trivial)).put3 hS1.out (Nat.le_refl _) b1 p p2 n c n2 c2).put3 hB.out (by omega) b2 q q2 m d m2 d2 |>.below (Below.refl _ _).drew⟩)
    go_region
    go_wp2_with fail
    refine bodyPost_ret (v:=.tuple #[.agg #[.bool b1,.slice p n c,.slice p2 n2 c2],.agg #[.bool b2,.slice q m d,.slice q2 m2 d2],.bool true]) ?_ rfl ?_
    ·simp [results,Tryz.results80,go_sem,l0,l1,l2,k0,k1,k2]
    ·exact hQ.out)
  | (
    have hQ:Hid (yao a b false w (.returned (.tuple #[.agg #[.bool b1,.slice p n c,.slice p2 n2 c2],.agg #[.bool b2,.slice q m d,.slice q2 m2 d2],.bool false])) ((((((((w2.alloc (.cells #[.bool b2,.slice q m d,.slice q2 m2 d2] 59)).setCell ⟨w.heap.size,0,none⟩ (.bool b1)).setCell ⟨w.heap.size,1,none⟩ (.slice p n c)).setCell ⟨w.heap.size,2,none⟩ (.slice p2 n2 c2)).setCell ⟨w.heap.size+1,0,none⟩ (.bool b2)).setCell ⟨w.heap.size+1,1,none⟩ (.slice q m d)).setCell ⟨w.heap.size+1,2,none⟩ (.slice q2 m2 d2)).drew)):=yA (by
     refine ⟨_,_,_,_,_,_,_,_,_,_,_,_,_,_,rfl,((hB.out.put3 (by omega) b2 q q2 m d m2 d2).below).drew,?_⟩
     exact fun h=>by cases h)
    go_region
    go_wp2_with fail
    refine bodyPost_ret (v:=.tuple #[.agg #[.bool b1,.slice p n c,.slice p2 n2 c2],.agg #[.bool b2,.slice q m d,.slice q2 m2 d2],.bool false]) ?_ rfl ?_
    ·simp [results,Tryz.results80,go_sem,l0,l1,l2,k0,k1,k2]
    ·exact hQ.out)
theorem yph (s t:ByteArray) (w:World):Calls Tryz.prog 80 #[.string s,.string t] w fun e w'=>match num s.data.toList,num t.data.toList with
  | some a,some b=>yao a b true w e w'
  | _,_=>∃ a b,yao a b false w e w':=by
 have gs:=fun W=>yoD s W
 have gt:=fun W=>yoD t W
 have rd:∀ (x:ByteArray) (W:World) (q:Rat),(∀ W,Calls Tryz.prog 31 #[.string x] W (yoC none W))→Calls Tryz.prog 31 #[.string x] W (zF q false W):=fun x W q h=>(h W).mono fun e w' ⟨q',b,p,n,c,p2,n2,c2,h1,h2,_⟩=>⟨b,p,n,c,p2,n2,c2,h1,h2,fun h=>by cases h⟩
 cases ha:num s.data.toList with
 | none =>
  rw [ha] at gs
  cases hb:num t.data.toList with
  | none=>rw [hb] at gt;exact (yiH false false s t 0 0 w (fun W=>yA (rd s W 0 gs)) (fun W=>yA (rd t W 0 gt))).mono fun e w' h=>⟨_,_,h⟩
  | some b=>rw [hb] at gt;exact (yiH false true s t 0 b w (fun W=>yA (rd s W 0 gs)) (fun W=>yA (gt W))).mono fun e w' h=>⟨_,_,h⟩
 | some a =>
  rw [ha] at gs
  cases hb:num t.data.toList with
  | none=>rw [hb] at gt;exact (yiH true false s t a 0 w (fun W=>yA (gs W)) (fun W=>yA (rd t W 0 gt))).mono fun e w' h=>⟨_,_,h⟩
  | some b=>rw [hb] at gt;exact yiH true true s t a b w (fun W=>yA (gs W)) (fun W=>yA (gt W))
theorem yva (s t:ByteArray) (a b:Rat) (w:World) (jV:∀ W,Hid (Calls Tryz.prog 80 #[.string s,.string t] W (yao a b false W))):Calls Tryz.prog 94 #[.string s,.string t] w (yas (0,false) w):=by
 go_enter Tryz.func94,Tryz.ntmps94
 go_wp2_with fail
 refine (jV _).out.mono ?_
 rintro e w1 ⟨b1,p,n,c,p2,n2,c2,b2,q,m,d,q2,m2,d2,rfl,hb1,-⟩
 have HB:Hid (∀ o1 o2,Below w.heap.size w ((w1.alloc o1).alloc o2)):=yA fun o1 o2=>(hb1.alloc hb1.size o1).alloc (by have:=hb1.size;simp;omega) o2
 clear hb1
 go_wp2_with fail
 go_ret2
 exact ⟨rfl,HB.out _ _⟩
theorem yte (s t:ByteArray) (a b:Rat) (z:Int) (w:World) (hz0:ybg (a-b)=z) (hab:QLt 5 a) (hbb:QLt 5 b) (jV:∀ W,Hid (Calls Tryz.prog 80 #[.string s,.string t] W (yao a b true W))):Calls Tryz.prog 94 #[.string s,.string t] w (yas (z,true) w):=by
 have hop:∀ W x y,uM W x a→uM W y b→Hid (Calls Tryz.prog 52 #[x,y] W fun e w'=>e=.returned (.int .i64 z)∧Below W.heap.size W w'):=fun W x y hx hy=>yA (by have h:=yjd x y a b 5 5 W (by omega) hab hbb hx hy;rw [hz0] at h;exact h)
 clear hab hbb hz0
 go_enter Tryz.func94,Tryz.ntmps94
 go_wp2_with fail
 refine (jV _).out.mono ?_
 rintro e w1 ⟨b1,p,n,c,p2,n2,c2,b2,q,m,d,q2,m2,d2,rfl,hb1,hq⟩
 obtain ⟨hx,hz⟩:=hq rfl
 have HB:Hid (∀ o1 o2,Below w.heap.size w ((w1.alloc o1).alloc o2)):=yA fun o1 o2=>(hb1.alloc hb1.size o1).alloc (by have:=hb1.size;simp;omega) o2
 have HX:Hid (∀ o1 o2,uM ((w1.alloc o1).alloc o2) (.agg #[.bool b1,.slice p n c,.slice p2 n2 c2]) a∧uM ((w1.alloc o1).alloc o2) (.agg #[.bool b2,.slice q m d,.slice q2 m2 d2]) b):=yA fun o1 o2=>⟨(hx.below (yF _ _)).below (yF _ _),(hz.below (yF _ _)).below (yF _ _)⟩
 clear hb1 hq hx hz
 go_wp2_with fail
 refine (hop _ _ _ (HX.out _ _).1 (HX.out _ _).2).out.mono ?_
 rintro e w3 ⟨rfl,hb3⟩
 have Hb3:=yA ((HB.out _ _).trans (hb3.mono (HB.out _ _).size))
 clear hb3
 go_wp2_with fail
 go_ret2
 exact ⟨rfl,Hb3.out⟩
theorem yvb {s t:ByteArray} {a b:Rat} (ha:num s.data.toList=some a) (hb:num t.data.toList=some b) (W:World):Hid (Calls Tryz.prog 80 #[.string s,.string t] W (yao a b true W)):=yA (by
 have h:=yph s t W
 rw [ha,hb] at h;exact h)
theorem yvc {s t:ByteArray} (hn:num s.data.toList=none∨num t.data.toList=none) (W:World):Hid (Calls Tryz.prog 80 #[.string s,.string t] W (yao 0 0 false W)):=yA (by
 have h:=yph s t W
 have k:∀ e w',(∃ a b,yao a b false W e w')→yao 0 0 false W e w':=by
  rintro e w' ⟨a,b,b1,p,n,c,p2,n2,c2,b2,q,m,d,q2,m2,d2,h1,h2,_⟩
  exact ⟨b1,p,n,c,p2,n2,c2,b2,q,m,d,q2,m2,d2,h1,h2,fun h=>by cases h⟩
 refine h.mono fun e w' h=>?_
 rcases hn with h1|h1
 ·rw [h1] at h;exact k _ _ h
 ·rw [h1] at h
  cases h2:num s.data.toList with
  | none=>rw [h2] at h;exact k _ _ h
  | some a=>rw [h2] at h;exact k _ _ h)
theorem ytf (x y:List UInt8):(∃ a b,num x=some a∧num y=some b)∨(num x=none∨num y=none):=by
 cases hx:num x with
 | none=>exact .inr (.inl rfl)
 | some a=>cases hy:num y with
  | none=>exact .inr (.inr rfl)
  | some b=>exact .inl ⟨a,b,rfl,rfl⟩
theorem yop (s t:ByteArray) (w:World):Calls Tryz.prog 94 #[.string s,.string t] w (yas (yes s.data.toList t.data.toList) w):=by
 rcases ytf s.data.toList t.data.toList with ⟨a,b,ha,hb⟩|hn
 ·rw [yqd ha hb];exact yte s t a b _ w (ygv _) (yi8 ha) (yi8 hb) (yvb ha hb)
 ·have e:yes s.data.toList t.data.toList=(0,false):=by
   unfold yes
   rcases hn with h|h
   ·rw [h]
   ·rw [h];cases num s.data.toList<;>rfl
  rw [e];exact yva s t 0 0 w (yvc hn)
end
set_option maxHeartbeats 2000000
section
open Go.RowKit
open Go.Lib
theorem yhP (x:ByteArray) (w:World):Calls Tryz.prog 47 #[.string x] w fun e w'=>e=.returned (.bool (ych x.data.toList))∧Below w.heap.size w w':=by
 have HC:=Lib.hid (yop x ⟨#[48]⟩ w)
 obtain ⟨v,HV⟩:∃ v,Hid (ych x.data.toList=v):=⟨_,rfl⟩
 obtain ⟨⟨z,b⟩,HZ⟩:∃ t:Int × Bool,Hid (yes x.data.toList [48]=t):=⟨_,rfl⟩
 have HC2:Hid (Calls Tryz.prog 94 #[.string x,.string ⟨#[48]⟩] w (yas (z,b) w)):=Lib.hid (by rw [← HZ.out];exact HC.out)
 have HVZ:Hid ((b&&decide ((0:Int)<z))=v):=Lib.hid (by rw [← HV.out];unfold ych;rw [HZ.out])
 rw [HV.out]
 clear HC
 cases b with
 | false =>
  obtain rfl:v=false:=by rw [← HVZ.out];rfl
  go_enter Tryz.func47,Tryz.ntmps47
  go_wp2_with fail
  refine (HC2.out).mono ?_
  rintro e w1 ⟨rfl,hb1⟩
  have HB:=Lib.hid hb1
  clear hb1
  go_wp2_with fail
  go_ret
  exact ⟨rfl,HB.out⟩
 | true =>
  by_cases hz:(0:Int)<z
  ·obtain rfl:v=true:=by rw [← HVZ.out,decide_eq_true hz];rfl
   go_enter Tryz.func47,Tryz.ntmps47
   go_wp2_with fail
   refine (HC2.out).mono ?_
   rintro e w1 ⟨rfl,hb1⟩
   have HB:=Lib.hid hb1
   clear hb1
   go_wp2_with fail
   go_ret
   exact ⟨rfl,HB.out⟩
  ·obtain rfl:v=false:=by rw [← HVZ.out,decide_eq_false hz];rfl
   have hzd:decide ((0:Int)<z)=false:=decide_eq_false hz
   clear hz
   go_enter Tryz.func47,Tryz.ntmps47
   go_wp2_with fail
   refine (HC2.out).mono ?_
   rintro e w1 ⟨rfl,hb1⟩
   have HB:=Lib.hid hb1
   clear hb1
   go_wp2_with fail
   go_ret
   exact ⟨rfl,HB.out⟩
theorem ytg (n:Int) (i:Nat) (X:ByteArray) (w:World) (bp:Bool) (hp:∀ W,Below w.heap.size w W→Calls Tryz.prog 47 #[.string X] W fun e w2=>e=.returned (.bool bp)∧Below W.heap.size W w2):Calls Tryz.prog 42 #[.agg #[.int .i64 1,.int .i64 n,.string X],.int .i64 (i:Int)] w fun e w'=>e=.returned (.bool (decide (i=0)&&(decide (n=0)&&bp)))∧Below w.heap.size w w':=by
 obtain ⟨W1,vK⟩:∃ W1,Hid (w.alloc (.cells #[.int .i64 1,.int .i64 n,.string X] 45)=W1):=⟨_,Lib.hid rfl⟩
 have zG:Hid (Below w.heap.size w W1):=Lib.hid (by rw [← vK.out];exact (Below.refl _ _).alloc (Nat.le_refl _) _)
 have HPS:=Lib.hid (hp W1 zG.out)
 clear hp
 by_cases hi:i=0
 ·subst hi
  by_cases hn:n=0
  ·subst hn
   go_enter Tryz.func42,Tryz.ntmps42
   go_wp2_with fail
   try rw [vK.out]
   refine (HPS.out).mono ?_
   rintro e w1 ⟨rfl,hb1⟩
   have HB:=Lib.hid (zG.out.trans (hb1.mono zG.out.size))
   clear hb1
   go_wp2_with fail
   go_ret
   exact ⟨by simp,HB.out⟩
  ·have hne:(n==0)=false:=by rw [beq_eq_false_iff_ne];exact hn
   rw [decide_eq_false hn,Bool.false_and,Bool.and_false]
   go_enter Tryz.func42,Tryz.ntmps42
   go_wp2_with fail
   go_ret
   exact ⟨rfl,by first|exact zG.out|(rw [vK.out];exact zG.out)⟩
 ·have hie:((i:Int)==0)=false:=by rw [beq_eq_false_iff_ne];omega
  rw [decide_eq_false hi,Bool.false_and]
  go_enter Tryz.func42,Tryz.ntmps42
  go_wp2_with fail
  go_ret
  exact ⟨rfl,by first|exact zG.out|(rw [vK.out];exact zG.out)⟩
theorem ygG (kk:Int) (n:Int) (i:Nat) (X:ByteArray) (w:World) (bs:Bool) (hb:X.toList.isEmpty=bs) (hkk:kk=2∨kk=3∨kk=5):Calls Tryz.prog 42 #[.agg #[.int .i64 kk,.int .i64 n,.string X],.int .i64 (i:Int)] w fun e w'=>e=.returned (.bool (gsB n&&bs))∧Below w.heap.size w w':=by
 obtain ⟨W1,vK⟩:∃ W1,Hid (w.alloc (.cells #[.int .i64 kk,.int .i64 n,.string X] 45)=W1):=⟨_,Lib.hid rfl⟩
 rcases hkk with rfl|rfl|rfl
 all_goals
  have zG:Hid (Below w.heap.size w W1):=Lib.hid (by rw [← vK.out];exact (Below.refl _ _).alloc (Nat.le_refl _) _)
  unfold gsB
  by_cases h1:1≤n
  case neg =>
   have h1d:decide (1≤n)=false:=decide_eq_false h1
   rw [h1d,Bool.false_and,Bool.false_and]
   clear hb
   go_enter Tryz.func42,Tryz.ntmps42
   go_wp2_with fail
   go_ret
   exact ⟨rfl,by first|exact zG.out|(rw [vK.out];exact zG.out)⟩
  by_cases h8:n≤8
  case neg =>
   have h8d:decide (n≤8)=false:=decide_eq_false h8
   rw [h8d,Bool.and_false,Bool.false_and]
   clear hb
   go_enter Tryz.func42,Tryz.ntmps42
   go_wp2_with fail
   go_ret
   exact ⟨rfl,by first|exact zG.out|(rw [vK.out];exact zG.out)⟩
  rw [decide_eq_true h1,decide_eq_true h8,Bool.true_and,Bool.true_and]
  cases bs with
  | true =>
   have g1:X.toList=[]:=List.isEmpty_iff.1 hb
   clear hb
   go_enter Tryz.func42,Tryz.ntmps42
   go_wp2_with fail
   go_ret
   exact ⟨rfl,by first|exact zG.out|(rw [vK.out];exact zG.out)⟩
  | false =>
   have g2:¬ X.toList=[]:=fun h=>by rw [h] at hb;cases hb
   have g3:(X.toList==[])=false:=by rw [beq_eq_false_iff_ne];exact g2
   go_enter Tryz.func42,Tryz.ntmps42
   go_wp2_with fail
   go_ret
   exact ⟨rfl,by first|exact zG.out|(rw [vK.out];exact zG.out)⟩
theorem yth (n:Int) (i:Nat) (X:ByteArray) (w:World) (bs:Bool) (hb:X.toList.isEmpty=bs):Calls Tryz.prog 42 #[.agg #[.int .i64 4,.int .i64 n,.string X],.int .i64 (i:Int)] w fun e w'=>e=.returned (.bool (decide (n=0)&&bs))∧Below w.heap.size w w':=by
 obtain ⟨W1,vK⟩:∃ W1,Hid (w.alloc (.cells #[.int .i64 4,.int .i64 n,.string X] 45)=W1):=⟨_,Lib.hid rfl⟩
 have zG:Hid (Below w.heap.size w W1):=Lib.hid (by rw [← vK.out];exact (Below.refl _ _).alloc (Nat.le_refl _) _)
 by_cases hn:n=0
 ·subst hn
  rw [decide_eq_true rfl,Bool.true_and]
  cases bs with
  | true =>
   have g1:X.toList=[]:=List.isEmpty_iff.1 hb
   clear hb
   go_enter Tryz.func42,Tryz.ntmps42
   go_wp2_with fail
   go_ret
   exact ⟨rfl,by first|exact zG.out|(rw [vK.out];exact zG.out)⟩
  | false =>
   have g2:¬ X.toList=[]:=fun h=>by rw [h] at hb;cases hb
   have g3:(X.toList==[])=false:=by rw [beq_eq_false_iff_ne];exact g2
   go_enter Tryz.func42,Tryz.ntmps42
   go_wp2_with fail
   go_ret
   exact ⟨rfl,by first|exact zG.out|(rw [vK.out];exact zG.out)⟩
 ·have hne:(n==0)=false:=by rw [beq_eq_false_iff_ne];exact hn
  rw [decide_eq_false hn,Bool.false_and]
  clear hb
  go_enter Tryz.func42,Tryz.ntmps42
  go_wp2_with fail
  go_ret
  exact ⟨rfl,by first|exact zG.out|(rw [vK.out];exact zG.out)⟩
theorem yti (k n:Int) (i:Nat) (X:ByteArray) (w:World) (h:k≠1∧k≠2∧k≠3∧k≠4∧k≠5):Calls Tryz.prog 42 #[.agg #[.int .i64 k,.int .i64 n,.string X],.int .i64 (i:Int)] w fun e w'=>e=.returned (.bool (false))∧Below w.heap.size w w':=by
 obtain ⟨W1,vK⟩:∃ W1,Hid (w.alloc (.cells #[.int .i64 k,.int .i64 n,.string X] 45)=W1):=⟨_,Lib.hid rfl⟩
 have zG:Hid (Below w.heap.size w W1):=Lib.hid (by rw [← vK.out];exact (Below.refl _ _).alloc (Nat.le_refl _) _)
 obtain ⟨h1,h2,h3,h4,h5⟩:=h
 have e1:(k==1)=false:=by rw [beq_eq_false_iff_ne];exact h1
 have e2:(k==2)=false:=by rw [beq_eq_false_iff_ne];exact h2
 have e3:(k==3)=false:=by rw [beq_eq_false_iff_ne];exact h3
 have e4:(k==4)=false:=by rw [beq_eq_false_iff_ne];exact h4
 have e5:(k==5)=false:=by rw [beq_eq_false_iff_ne];exact h5
 go_enter Tryz.func42,Tryz.ntmps42
 go_wp2_with fail
 go_ret
 exact ⟨rfl,by first|exact zG.out|(rw [vK.out];exact zG.out)⟩
theorem yoq (k n:Int) (i:Nat) (s:List UInt8) (w:World):Calls Tryz.prog 42 #[.agg #[.int .i64 k,.int .i64 n,.string ⟨s.toArray⟩],.int .i64 (i:Int)] w fun e w'=>e=.returned (.bool (ydr (k,n,s)&&(decide (i=0) || !decide (k=1))))∧Below w.heap.size w w':=by
 have hs:(⟨s.toArray⟩:ByteArray).toList.isEmpty=decide (s=[]):=by
  cases s with
  | nil=>simp
  | cons a r=>simp
 have E1:∀ j:Int,j≠1→¬ (j,n,s).1=1:=fun _ h=>h
 have E2:∀ b c:Bool,(b&&(c || true))=b:=by decide
 unfold ydr
 by_cases h1:k=1
 ·subst h1
  rw [if_pos rfl,decide_eq_true (rfl:(1:Int)=1),Bool.not_true,Bool.or_false,Bool.and_comm]
  exact ytg n i _ w (ych s) (fun W hW=>yhP ⟨s.toArray⟩ W)
 rw [decide_eq_false h1,Bool.not_false,E2]
 by_cases h2:k=2
 ·subst h2;rw [if_neg (E1 2 (by decide)),if_pos (by show (2:Int)=2∨(2:Int)=3∨(2:Int)=5;decide)];exact ygG 2 n i _ w _ hs (.inl rfl)
 by_cases h3:k=3
 ·subst h3;rw [if_neg (E1 3 (by decide)),if_pos (by show (3:Int)=2∨(3:Int)=3∨(3:Int)=5;decide)];exact ygG 3 n i _ w _ hs (.inr (.inl rfl))
 by_cases h5:k=5
 ·subst h5;rw [if_neg (E1 5 (by decide)),if_pos (by show (5:Int)=2∨(5:Int)=3∨(5:Int)=5;decide)];exact ygG 5 n i _ w _ hs (.inr (.inr rfl))
 by_cases h4:k=4
 ·subst h4;rw [if_neg (E1 4 (by decide)),if_neg (by show ¬ ((4:Int)=2∨(4:Int)=3∨(4:Int)=5);decide),if_pos (by show (4:Int)=4;rfl)];exact yth n i _ w _ hs
 rw [if_neg h1,if_neg (by show ¬ (k=2∨k=3∨k=5);omega),if_neg h4]
 exact yti k n i _ w ⟨h1,h2,h3,h4,h5⟩
theorem ymg (k:Int) (p:Option Addr) (c n:Nat) (l:List Sg) (w:World) (hx:Hid (l.length=n)) (hs:RdG w p l) :
  Calls Tryz.prog 16 #[.int .i64 k,.slice p n c] w fun e w'=>e=.returned (.bool (vG k l))∧Below w.heap.size w w':=by
 have HS:=Lib.hid hs
 obtain ⟨v,HV⟩:∃ v,Hid (vG k l=v):=⟨_,rfl⟩
 have HT:=Lib.hid (fun W=>ylw k W)
 obtain ⟨bt,HBT⟩:∃ bt,Hid (isT k=bt):=⟨_,rfl⟩
 rw [HBT.out] at HT
 rw [HV.out]
 have HB0:=Lib.hid (Below.refl w.heap.size w)
 clear hs
 cases bt with
 | false =>
  obtain rfl:v=false:=by rw [← HV.out];unfold vG;rw [HBT.out];rfl
  go_enter Tryz.func16,Tryz.ntmps16
  go_wp2_with fail
  refine (HT.out _).mono ?_
  rintro e w' ⟨rfl,rfl⟩
  go_wp2_with fail
  go_ret
  exact ⟨rfl,HB0.out⟩
 | true =>
 by_cases h4:4<n
 ·have h4i:(4:Int)<(n:Int):=by omega
  obtain rfl:v=false:=by
   rw [← HV.out];unfold vG;rw [decide_eq_false (by rw [hx.out];omega),Bool.and_false];rfl
  go_enter Tryz.func16,Tryz.ntmps16
  go_wp2_with fail
  refine (HT.out _).mono ?_
  rintro e w' ⟨rfl,rfl⟩
  go_wp2_with fail
  go_ret
  exact ⟨rfl,HB0.out⟩
 have h4i:¬ (4:Int)<(n:Int):=by omega
 have hni:(n:Int)≤4:=by omega
 have HNO:Hid (∀ i,i<n→ya2 l i=false→v=false):=Lib.hid (fun i hi h=>by rw [← HV.out];exact yrO (by rw [hx.out];exact hi) h)
 have yqt:Hid ((∀ i,i<n→ya2 l i=true)→v=true):=Lib.hid (fun h=>by rw [← HV.out];exact yjm HBT.out (by rw [hx.out];omega) (fun i hi=>h i (by rw [← hx.out];exact hi)))
 go_enter Tryz.func16,Tryz.ntmps16
 go_wp2_with fail
 refine (HT.out _).mono ?_
 rintro e w' ⟨rfl,rfl⟩
 go_wp2_with fail
 go_loopw [5] (fun iv wr=>∃ i:Nat,i≤n∧iv=.int .i64 i∧Hid (∀ j,j<i→ya2 l j=true)∧Hid (Below w.heap.size w wr)) (fun iv _=>n-(intOf iv).toNat)
 case atStart=>exact ⟨0,Nat.zero_le _,rfl,Lib.hid (fun j hj=>by omega),HB0⟩
 case round =>
  obtain ⟨i,hi,rfl,HA,HB⟩:=hrel
  have ii:(i:Int)≤(n:Int):=by omega
  by_cases hlt:i<n
  ·have ilt:(i:Int)<(n:Int):=by omega
   obtain ⟨b1,o1,x,y,z,e1,hb1,hc1,hc2,hc3,hx1⟩:=(HS.out.below HB.out).at (k:=i) (by rw [hx.out];exact hlt)
   subst e1
   obtain ⟨Z,HZ⟩:∃ Z:ByteArray,Hid (⟨z.toArray⟩=Z):=⟨_,rfl⟩
   rw [HZ.out] at hc3
   obtain ⟨u,HU⟩:∃ u,Hid (ya2 l i=u):=⟨_,rfl⟩
   have HVS:Hid (Calls Tryz.prog 42 #[.agg #[.int .i64 x,.int .i64 y,.string Z],.int .i64 (i:Int)] wr fun e w'=>e=.returned (.bool u)∧Below wr.heap.size wr w'):=Lib.hid (by
    have h:=yoq x y i z wr
    unfold ya2 at HU
    rw [hx1.out] at HU
    rwa [HZ.out,HU.out] at h)
   cases u with
   | false =>
    obtain rfl:v=false:=HNO.out i hlt HU.out
    go_wp2_with fail
    refine (HVS.out).mono ?_
    rintro e w3 ⟨rfl,hb3⟩
    have HB3:Hid (Below w.heap.size w w3):=Lib.hid (HB.out.trans (hb3.mono HB.out.size))
    clear hb3
    go_wp2_with fail
    go_ret
    exact ⟨rfl,HB3.out⟩
   | true =>
    have hst:Hid (∀ j,j<i+1→ya2 l j=true):=Lib.hid (fun j hj=>by
     by_cases e:j=i
     ·rw [e];exact HU.out
     ·exact HA.out j (by omega))
    go_wp2_with fail
    refine (HVS.out).mono ?_
    rintro e w3 ⟨rfl,hb3⟩
    have HB3:Hid (Below w.heap.size w w3):=Lib.hid (HB.out.trans (hb3.mono HB.out.size))
    clear hb3
    go_wp2_with fail
    go_roundw
    case rel=>exact ⟨i+1,by omega,by go_num,hst,HB3⟩
    case measure=>simp [intOf];omega
  ·obtain rfl:i=n:=by omega
   have ilt:¬ (i:Int)<(i:Int):=by omega
   obtain rfl:v=true:=yqt.out HA.out
   go_wp2_with fail
   go_ret
   exact ⟨rfl,HB.out⟩
end
end Go.Proofs.YtgepehlpjpccaaaGreatDoor
