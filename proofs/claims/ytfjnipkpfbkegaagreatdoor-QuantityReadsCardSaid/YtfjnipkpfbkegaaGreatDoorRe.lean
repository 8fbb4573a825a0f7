/- Contracts. -/
import Derived.Test.YtfjnipkpfbkegaaGreatDoorRc
import Derived.Test.YtfjnipkpfbkegaaGreatDoorPart09
set_option maxHeartbeats 3200000
set_option maxRecDepth 100000
namespace Go.Proofs.YtfjnipkpfbkegaaGreatDoor
open Go.RowKit Big
section
section
structure Twa (B:Nat) (s:Bool) (u1 v1:Value) (t:Bool) (u2 v2:Value) (w0 W:World):Prop where
 size:B+3≤W.heap.size
 below:Below w0.heap.size w0 W
 x:W.heap[B]?=some (.cells #[.bool s,u1,v1] 44 (0,0))
 y:W.heap[B+1]?=some (.cells #[.bool t,u2,v2] 44 (0,0))
 z:∃ z0 z1 z2,W.heap[B+1+1]?=some (.cells #[z0,z1,z2] 44 (0,0))∧vC z0∧vC z1∧vC z2
variable {B : Nat} {s : Bool} {u1 v1 : Value} {t : Bool} {u2 v2 : Value} {w0 W W' : World}
theorem Twa.next (h:Twa B s u1 v1 t u2 v2 w0 W) (hb:Below W.heap.size W W'):Twa B s u1 v1 t u2 v2 w0 W':=by
 have hs:=h.size
 exact ⟨Nat.le_trans hs hb.size,h.below.trans (hb.mono h.below.size),(hb.block _ (by omega)).trans h.x,(hb.block _ (by omega)).trans h.y,h.z.elim fun z0 k=>k.elim fun z1 k=>k.elim fun z2 k=>⟨z0,z1,z2,(hb.block _ (by omega)).trans k.1,k.2⟩⟩
theorem Twa.drew (h:Twa B s u1 v1 t u2 v2 w0 W):Twa B s u1 v1 t u2 v2 w0 W.drew:=⟨h.size,h.below.drew,h.x,h.y,h.z⟩
theorem Twa.start (w:World) (s:Bool) (u1 v1:Value) (t:Bool) (u2 v2:Value) :
  Twa w.heap.size s u1 v1 t u2 v2 w (((w.alloc (.cells #[.bool s,u1,v1] 44)).alloc (.cells #[.bool t,u2,v2] 44)).alloc (.cells #[.bool false,.slice none 0 0,.slice none 0 0] 44)):=by
 have hb:∀ (W:World) (o:Obj),Below W.heap.size W (W.alloc o):=fun W o=>(Below.refl _ _).alloc (Nat.le_refl _) o
 refine ⟨by simp,((hb _ _).trans ((hb _ _).mono (by simp))).trans ((hb _ _).mono (by simp;omega)),?_,?_,⟨.bool false,.slice none 0 0,.slice none 0 0,?_,zE _,yN _ _ _,yN _ _ _⟩⟩
 ·rw [GX _ _ _ (by simp;omega),GX _ _ _ (by simp),yV]
 ·rw [GX _ _ _ (by simp),show w.heap.size+1=(w.alloc (.cells #[.bool s,u1,v1] 44)).heap.size from by simp,yV]
 ·rw [show w.heap.size+1+1=((w.alloc (.cells #[.bool s,u1,v1] 44)).alloc (.cells #[.bool t,u2,v2] 44)).heap.size from by simp,yV]
theorem Twa.all (h:Twa B s u1 v1 t u2 v2 w0 W):Twa B s u1 v1 t u2 v2 w0 W∧W.cell? ⟨B,0,none⟩=some (.bool s)∧W.cell? ⟨B,1,none⟩=some u1∧W.cell? ⟨B,2,none⟩=some v1 ∧
  W.cell? ⟨B+1,0,none⟩=some (.bool t)∧W.cell? ⟨B+1,1,none⟩=some u2∧W.cell? ⟨B+1,2,none⟩=some v2 :=
 ⟨h,yB h.x 0,yB h.x 1,yB h.x 2,yB h.y 0,yB h.y 1,yB h.y 2⟩
theorem Twa.slots (h:Twa B s u1 v1 t u2 v2 w0 W):∃ z0 z1 z2,W.cell? ⟨B+1+1,0,none⟩=some z0∧W.cell? ⟨B+1+1,1,none⟩=some z1∧W.cell? ⟨B+1+1,2,none⟩=some z2 ∧
  W.frozen? ⟨B+1+1,0,none⟩=false∧W.frozen? ⟨B+1+1,1,none⟩=false∧W.frozen? ⟨B+1+1,2,none⟩=false:=by
 obtain ⟨z0,z1,z2,hz,-⟩:=h.z
 exact ⟨z0,z1,z2,yB hz 0,yB hz 1,yB hz 2,vB hz 0,vB hz 1,vB hz 2⟩
theorem Twa.put1 (h:Twa B s u1 v1 t u2 v2 w0 W) (hB:w0.heap.size≤B) (k:Nat) (hk:k<3) (a:Value) (ha:vC a):Twa B s u1 v1 t u2 v2 w0 (W.setCell ⟨B+1+1,k,none⟩ a):=by
 obtain ⟨z0,z1,z2,hz,n0,n1,n2⟩:=h.z
 refine ⟨by rw [World.size_setCell];exact h.size,h.below.setCell (by simp;omega) _,(Below.heap_setCell _ _ _ _ (by simp;omega)).trans h.x,(Below.heap_setCell _ _ _ _ (by simp)).trans h.y,?_⟩
 have h1:=yK (B+1+1) k _ 44 a hz
 match k,hk with
 | 0,_=>exact ⟨_,_,_,h1,ha,n1,n2⟩
 | 1,_=>exact ⟨_,_,_,h1,n0,ha,n2⟩
 | 2,_=>exact ⟨_,_,_,h1,n0,n1,ha⟩
theorem Twa.put3 (h:Twa B s u1 v1 t u2 v2 w0 W) (hB:w0.heap.size≤B) (a:Bool) (p q:Option Addr) (n c m d:Nat):Twa B s u1 v1 t u2 v2 w0 (((W.setCell ⟨B+1+1,0,none⟩ (.bool a)).setCell ⟨B+1+1,1,none⟩ (.slice p n c)).setCell ⟨B+1+1,2,none⟩ (.slice q m d)) :=
 ((h.put1 hB 0 (by omega) _ (zE _)).put1 hB 1 (by omega) _ (yN _ _ _)).put1 hB 2 (by omega) _ (yN _ _ _)
theorem Twa.rd (h:Twa B s u1 v1 t u2 v2 w0 W) {p:Option Addr} {n:Nat} {l:List Nat} (hr:Rd W p n l) (k:Nat) (a:Value):Rd (W.setCell ⟨B+1+1,k,none⟩ a) p n l:=by
 refine ⟨hr.len,?_⟩
 rcases hr.cell with h0|⟨b,off,hp,hlt,hc⟩
 ·exact .inl h0
 ·by_cases hn:n=0
  ·exact .inl hn
  refine .inr ⟨b,off,hp,by rw [World.size_setCell];exact hlt,fun j hj=>?_⟩
  have hne:b≠B+1+1:=by
   rintro rfl
   obtain ⟨z0,z1,z2,hz,n0,n1,n2⟩:=h.z
   have h1:=hc 0 (by omega)
   rw [yB hz] at h1
   match yry:off+0,h1 with
   | 0,h1=>simp at h1;exact n0 _ _ h1
   | 1,h1=>simp at h1;exact n1 _ _ h1
   | 2,h1=>simp at h1;exact n2 _ _ h1
   | k+3,h1=>simp at h1
  rw [← hc j hj]
  exact World.cell?_of_block (w:=W) (Below.heap_setCell _ _ _ _ hne)
theorem Twa.nat1 (h:Twa B s u1 v1 t u2 v2 w0 W) {v:Value} {x:Nat} (hx:yL W v x) (k:Nat) (a:Value):yL (W.setCell ⟨B+1+1,k,none⟩ a) v x:=by
 obtain ⟨p,n,c,l,h1,h2,h3,h4⟩:=hx
 exact ⟨p,n,c,l,h1,h2,h.rd h3 k a,h4⟩
theorem Twa.nat3 (h:Twa B s u1 v1 t u2 v2 w0 W) (hB:w0.heap.size≤B) {v:Value} {x:Nat} (hx:yL W v x) (a:Bool) (p q:Option Addr) (n c m d:Nat):yL (((W.setCell ⟨B+1+1,0,none⟩ (.bool a)).setCell ⟨B+1+1,1,none⟩ (.slice p n c)).setCell ⟨B+1+1,2,none⟩ (.slice q m d)) v x :=
 ((h.put1 hB 0 (by omega) _ (zE _)).put1 hB 1 (by omega) _ (yN _ _ _)).nat1 ((h.put1 hB 0 (by omega) _ (zE _)).nat1 (h.nat1 hx _ _) _ _) _ _
end
section
variable {W : World}
theorem ydt {g:Nat} {z0 z1 z2:Value} (hz:W.heap[g]?=some (.cells #[z0,z1,z2] 44 (0,0))) (n0:vC z0) (n1:vC z1) (n2:vC z2) {v:Value} {x:Nat} (hx:yL W v x) (k:Nat) (a:Value):yL (W.setCell ⟨g,k,none⟩ a) v x:=by
 obtain ⟨p,n,c,l,h1,h2,hr,h4⟩:=hx
 refine ⟨p,n,c,l,h1,h2,⟨hr.len,?_⟩,h4⟩
 rcases hr.cell with h0|⟨b,off,hp,hlt,hc⟩
 ·exact .inl h0
 ·by_cases hn:n=0
  ·exact .inl hn
  refine .inr ⟨b,off,hp,by rw [World.size_setCell];exact hlt,fun j hj=>?_⟩
  have hne:b≠g:=by
   rintro rfl
   have h1:=hc 0 (by omega)
   rw [yB hz] at h1
   match yry:off+0,h1 with
   | 0,h1=>simp at h1;exact n0 _ _ h1
   | 1,h1=>simp at h1;exact n1 _ _ h1
   | 2,h1=>simp at h1;exact n2 _ _ h1
   | k+3,h1=>simp at h1
  rw [← hc j hj]
  exact World.cell?_of_block (w:=W) (Below.heap_setCell _ _ _ _ hne)
end
structure Resa (B:Nat) (w0 W:World):Prop where
 size:B+1≤W.heap.size
 below:Below w0.heap.size w0 W
 z:∃ z0 z1 z2,W.heap[B]?=some (.cells #[z0,z1,z2] 44 (0,0))∧vC z0∧vC z1∧vC z2
section
variable {B : Nat} {w0 W W' : World}
theorem Resa.next (h:Resa B w0 W) (hb:Below W.heap.size W W'):Resa B w0 W':=by
 have hs:=h.size
 exact ⟨Nat.le_trans hs hb.size,h.below.trans (hb.mono h.below.size),h.z.elim fun z0 k=>k.elim fun z1 k=>k.elim fun z2 k=>⟨z0,z1,z2,(hb.block _ (by omega)).trans k.1,k.2⟩⟩
theorem Resa.slots (h:Resa B w0 W):∃ z0 z1 z2,W.cell? ⟨B,0,none⟩=some z0∧W.cell? ⟨B,1,none⟩=some z1∧W.cell? ⟨B,2,none⟩=some z2∧W.frozen? ⟨B,0,none⟩=false∧W.frozen? ⟨B,1,none⟩=false∧W.frozen? ⟨B,2,none⟩=false:=by
 obtain ⟨z0,z1,z2,hz,-⟩:=h.z
 exact ⟨z0,z1,z2,yB hz 0,yB hz 1,yB hz 2,vB hz 0,vB hz 1,vB hz 2⟩
theorem Resa.put1 (h:Resa B w0 W) (hB:w0.heap.size≤B) (k:Nat) (hk:k<3) (a:Value) (ha:vC a):Resa B w0 (W.setCell ⟨B,k,none⟩ a):=by
 obtain ⟨z0,z1,z2,hz,n0,n1,n2⟩:=h.z
 refine ⟨by rw [World.size_setCell];exact h.size,h.below.setCell (by simp;omega) _,?_⟩
 have h1:=yK B k _ 44 a hz
 match k,hk with
 | 0,_=>exact ⟨_,_,_,h1,ha,n1,n2⟩
 | 1,_=>exact ⟨_,_,_,h1,n0,ha,n2⟩
 | 2,_=>exact ⟨_,_,_,h1,n0,n1,ha⟩
theorem Resa.put3 (h:Resa B w0 W) (hB:w0.heap.size≤B) (a:Bool) (p q:Option Addr) (n c m d:Nat):Resa B w0 (((W.setCell ⟨B,0,none⟩ (.bool a)).setCell ⟨B,1,none⟩ (.slice p n c)).setCell ⟨B,2,none⟩ (.slice q m d)) :=
 ((h.put1 hB 0 (by omega) _ (zE _)).put1 hB 1 (by omega) _ (yN _ _ _)).put1 hB 2 (by omega) _ (yN _ _ _)
theorem Resa.nat1 (h:Resa B w0 W) {v:Value} {x:Nat} (hx:yL W v x) (k:Nat) (a:Value):yL (W.setCell ⟨B,k,none⟩ a) v x:=by
 obtain ⟨z0,z1,z2,hz,n0,n1,n2⟩:=h.z
 exact ydt hz n0 n1 n2 hx k a
theorem Resa.nat3 (h:Resa B w0 W) (hB:w0.heap.size≤B) {v:Value} {x:Nat} (hx:yL W v x) (a:Bool) (p q:Option Addr) (n c m d:Nat):yL (((W.setCell ⟨B,0,none⟩ (.bool a)).setCell ⟨B,1,none⟩ (.slice p n c)).setCell ⟨B,2,none⟩ (.slice q m d)) v x :=
 ((h.put1 hB 0 (by omega) _ (zE _)).put1 hB 1 (by omega) _ (yN _ _ _)).nat1 ((h.put1 hB 0 (by omega) _ (zE _)).nat1 (h.nat1 hx _ _) _ _) _ _
theorem Resa.start (w:World):Resa w.heap.size w (w.alloc (.cells #[.bool false,.slice none 0 0,.slice none 0 0] 44)) :=
 ⟨by simp,(Below.refl _ _).alloc (Nat.le_refl _) _,.bool false,.slice none 0 0,.slice none 0 0,yV _ _,zE _,yN _ _ _,yN _ _ _⟩
end
def zH (w:World) (x:Value) (q:Rat):Prop:=∃ u v,x=.agg #[.bool (decide (q.num<0)),u,v]∧yL w u q.num.natAbs∧(yL w v q.den∨(yL w v 0∧q.den=1))
theorem zH.below {w w':World} {x:Value} {q:Rat} (h:zH w x q) (hb:Below w.heap.size w w'):zH w' x q:=by
 obtain ⟨u,v,h1,h2,h3⟩:=h
 exact ⟨u,v,h1,h2.below hb,h3.imp (·.below hb) fun h=>⟨h.1.below hb,h.2⟩⟩
def vD (q:Rat) (w:World) (e:Ending) (w':World):Prop:=∃ x,e=.returned x∧zH w' x q∧Below w.heap.size w w'
theorem zH.slices {w:World} {x:Value} {q:Rat} (h:zH w x q):∃ p n c p2 n2 c2,x=.agg #[.bool (decide (q.num<0)),.slice p n c,.slice p2 n2 c2]∧yL w (.slice p n c) q.num.natAbs∧(yL w (.slice p2 n2 c2) q.den∨(yL w (.slice p2 n2 c2) 0∧q.den=1)):=by
 obtain ⟨u,v,h1,h2,h3⟩:=h
 obtain ⟨p,n,c,rfl⟩:=h2.slice
 obtain ⟨p2,n2,c2,rfl⟩:∃ p n c,v=.slice p n c:=h3.elim (·.slice) fun h=>h.1.slice
 exact ⟨p,n,c,p2,n2,c2,h1,h2,h3⟩
def uK (K:Nat) (q:Rat):Prop:=q.num.natAbs<B9^K∧q.den<B9^K
theorem ynq (s:Bool) (b:Nat):zD s 0 b=0:=by unfold zD;cases s<;>simp<;>grind
theorem yg4 (s:Bool) (a:Nat):zD s a 0=0:=by unfold zD;cases s<;>simp<;>grind
theorem yra {K a b:Nat} (s:Bool) (ha:a<B9^K) (hb:b<B9^K) (hb0:0<b) (hs:s=true→0<a):uK K (zD s a b):=by
 obtain ⟨-,h2,h3⟩:=yds hb0 hs
 exact ⟨by rw [h2];exact Nat.lt_of_le_of_lt (Nat.div_le_self _ _) ha,by rw [h3];exact Nat.lt_of_le_of_lt (Nat.div_le_self _ _) hb⟩
theorem zJ (W:World) (o:Obj):Below W.heap.size W (W.alloc o):=(Below.refl _ _).alloc (Nat.le_refl _) o
theorem ycy (w:World):Calls Tryz.prog 71 #[] w (zU 1 w):=by
 have hno:=yA (yaA 1 w (by omega))
 go_enter Tryz.func71,Tryz.ntmps71
 go_wp2_with fail
 refine hno.out.mono ?_
 rintro e w' ⟨v,rfl,hv⟩
 obtain ⟨p,n,c,rfl⟩:=hv.1.slice
 go_wp2_with fail
 go_ret
 exact ⟨_,rfl,hv⟩
def yb9 (x:Nat) (w:World) (e:Ending) (w':World):Prop:=∃ p n c,e=.returned (.slice p n c)∧yL w' (.slice p n c) x∧Below w.heap.size w w'
theorem ydk (x:Value) (q:Rat) (w:World) (hx:zH w x q):Calls Tryz.prog 68 #[x] w (yb9 q.den w):=by
 obtain ⟨p,n,c,p2,n2,c2,rfl,hu,hv⟩:=hx.slices
 have hq0:=q.den_pos
 rcases hv with hv|⟨hv,h1⟩
 ·have hn2:((n2:Int)==0)=false:=by
   have:=hv.zero_iff (n:=n2)
   simp;omega
  have Hv:=yA hv
  clear hu hv hq0
  go_enter Tryz.func68,Tryz.ntmps68
  go_wp2_with fail
  go_ret
  exact ⟨_,_,_,rfl,Hv.out.below (zJ _ _),zJ _ _⟩
 ·have hn2:n2=0:=hv.zero_iff.2 rfl
  subst hn2
  have Hq:=yA h1
  have jW:∀ W,Hid (Calls Tryz.prog 71 #[] W (zU 1 W)):=fun W=>yA (ycy W)
  clear hu hv hq0 h1
  go_enter Tryz.func68,Tryz.ntmps68
  go_wp2_with fail
  refine (jW _).out.mono ?_
  rintro e w' ⟨v,rfl,hv,hb,-⟩
  obtain ⟨p3,n3,c3,rfl⟩:=hv.slice
  have Hb:=yA ((zJ w _).trans (hb.mono (zJ w _).size))
  clear hb
  go_wp2_with fail
  go_ret
  exact ⟨_,_,_,rfl,by rw [Hq.out];exact hv,Hb.out⟩
theorem zH.zero (w:World):zH w (.agg #[.bool false,.slice none 0 0,.slice none 0 0]) 0:=⟨_,_,rfl,yL.zero w,.inr ⟨yL.zero w,rfl⟩⟩
theorem yg5 (s:Bool) (p q:Option Addr) (n c m d:Nat) (w:World) (h:n=0∨m=0):Calls Tryz.prog 69 #[.bool s,.slice p n c,.slice q m d] w (vD 0 w):=by
 have yP:=yA (Resa.start w)
 by_cases hn:n=0
 ·subst hn
  go_enter Tryz.func69,Tryz.ntmps69
  go_wp2_with fail
  refine bodyPost_ret (v:=.agg #[.bool false,.slice none 0 0,.slice none 0 0]) (by simp [results,Tryz.results69,go_sem]) rfl ?_
  exact ⟨_,rfl,zH.zero _,yP.out.below⟩
 ·obtain rfl:m=0:=by omega
  have hn0:((n:Int)==0)=false:=by simp;omega
  go_enter Tryz.func69,Tryz.ntmps69
  go_wp2_with fail
  refine bodyPost_ret (v:=.agg #[.bool false,.slice none 0 0,.slice none 0 0]) (by simp [results,Tryz.results69,go_sem]) rfl ?_
  exact ⟨_,rfl,zH.zero _,yP.out.below⟩
theorem ypO (s:Bool) (u v:Value) (a b K:Nat) (w:World) (hK:K≤900000) (ha0:0<a) (hb0:0<b) (ha:a<B9^K) (hb:b<B9^K) (hu:yL w u a) (hv:yL w v b):Calls Tryz.prog 69 #[.bool s,u,v] w (vD (zD s a b) w):=by
 obtain ⟨p,n,c,rfl⟩:=hu.slice
 obtain ⟨q,m,d,rfl⟩:=hv.slice
 have hn0:((n:Int)==0)=false:=by have:=hu.zero_iff (n:=n);simp;omega
 have hm0:((m:Int)==0)=false:=by have:=hv.zero_iff (n:=m);simp;omega
 have yP:=yA (Resa.start w)
 obtain ⟨g,hg⟩:∃ g,Hid (g=Nat.gcd a b):=⟨_,yA rfl⟩
 have hg0:Hid (0<g∧g<B9^K):=yA (by rw [hg.out];exact ⟨Nat.gcd_pos_of_pos_left _ ha0,Nat.lt_of_le_of_lt (Nat.gcd_le_left _ ha0) ha⟩)
 have yp4:∀ W,Below w.heap.size w W→Hid (Calls Tryz.prog 93 #[.slice p n c,.slice q m d] W fun e w'=>∃ gv,e=.returned gv∧yL w' gv g∧Below W.heap.size W w'):=fun W hW=>yA (by
  rw [hg.out];exact ylN _ _ a b K W hK ha hb (hu.below hW) (hv.below hW))
 have hd1:∀ W gv,Below w.heap.size w W→yL W gv g→Hid (Calls Tryz.prog 94 #[.slice p n c,gv] W (GE a g W)):=fun W gv hW h=>yA (ydh _ _ a g K W hK ha hg0.out.2 hg0.out.1 (hu.below hW) h)
 have hd2:∀ W gv,Below w.heap.size w W→yL W gv g→Hid (Calls Tryz.prog 94 #[.slice q m d,gv] W (GE b g W)):=fun W gv hW h=>yA (ydh _ _ b g K W hK hb hg0.out.2 hg0.out.1 (hv.below hW) h)
 have hq:Hid (decide ((zD s a b).num<0)=s∧(zD s a b).num.natAbs=a/g∧(zD s a b).den=b/g):=yA (by rw [hg.out];exact yds hb0 (fun _=>ha0))
 clear hu hv ha hb ha0 hb0
 go_enter Tryz.func69,Tryz.ntmps69
 go_wp2_with fail
 refine (yp4 _ yP.out.below).out.mono ?_
 rintro e w1 ⟨gv,rfl,hgv,hb1⟩
 obtain ⟨pg,ng,cg,rfl⟩:=hgv.slice
 have hr1:=yA (yP.out.next hb1)
 have h1:=hd1 w1 _ hr1.out.below hgv
 have Hgv:=yA hgv
 clear hgv hb1 yp4 hd1
 go_wp2_with fail
 refine h1.out.mono ?_
 rintro e w2 ⟨v2,r2,rfl,hv2,hr,hb2⟩
 obtain ⟨p2,n2,c2,rfl⟩:=hv2.slice
 obtain ⟨p3,n3,c3,rfl⟩:=hr.slice
 have hr2:=yA (hr1.out.next hb2)
 have h2:=hd2 w2 _ hr2.out.below (Hgv.out.below hb2)
 have Hv2:=yA hv2
 clear hv2 hr hb2 h1 hd2
 go_wp2_with fail
 refine h2.out.mono ?_
 rintro e w3 ⟨v4,r4,rfl,hv4,hr,hb3⟩
 obtain ⟨p4,n4,c4,rfl⟩:=hv4.slice
 obtain ⟨p5,n5,c5,rfl⟩:=hr.slice
 have hr3:=yA (hr2.out.next hb3)
 obtain ⟨z0,z1,z2,l0,l1,l2,f0,f1,f2⟩:=hr3.out.slots
 have q1:=yA (hr3.out.nat3 (Nat.le_refl _) (Hv2.out.below hb3) s p2 p4 n2 c2 n4 c4)
 have q2:=yA (hr3.out.nat3 (Nat.le_refl _) hv4 s p2 p4 n2 c2 n4 c4)
 have q3:=yA (hr3.out.put3 (Nat.le_refl _) s p2 p4 n2 c2 n4 c4).below
 clear hv4 hr hb3 h2
 go_wp2_with fail
 refine bodyPost_ret (v:=.agg #[.bool s,.slice p2 n2 c2,.slice p4 n4 c4]) (by simp [results,Tryz.results69,go_sem,l0,l1,l2]) rfl ?_
 exact ⟨_,rfl,⟨_,_,by rw [hq.out.1],by rw [hq.out.2.1];exact q1.out,.inl (by rw [hq.out.2.2];exact q2.out)⟩,q3.out⟩
theorem ybE (s:Bool) (u v:Value) (a b K:Nat) (w:World) (hK:K≤900000) (ha:a<B9^K) (hb:b<B9^K) (hu:yL w u a) (hv:yL w v b):Calls Tryz.prog 69 #[.bool s,u,v] w (vD (zD s a b) w):=by
 by_cases ha0:a=0
 ·obtain ⟨p,n,c,rfl⟩:=hu.slice
  obtain ⟨q,m,d,rfl⟩:=hv.slice
  rw [ha0,ynq]
  exact yg5 s p q n c m d w (.inl (hu.zero_iff.2 ha0))
 ·by_cases hb0:b=0
  ·obtain ⟨p,n,c,rfl⟩:=hu.slice
   obtain ⟨q,m,d,rfl⟩:=hv.slice
   rw [hb0,yg4]
   exact yg5 s p q n c m d w (.inr (hv.zero_iff.2 hb0))
  ·exact ypO s u v a b K w hK (by omega) (by omega) ha hb hu hv
def yeN (q:Rat):Int:=if q.num<0 then -1 else if q.num=0 then 0 else 1
theorem yrb (x:Value) (q:Rat) (w:World) (hx:zH w x q):Calls Tryz.prog 51 #[x] w fun e w'=>e=.returned (.int .i64 (yeN q))∧Below w.heap.size w w':=by
 obtain ⟨p,n,c,p2,n2,c2,rfl,hu,-⟩:=hx.slices
 have hz:=hu.zero_iff (n:=n)
 by_cases h0:q.num=0
 ·have hs:Hid (yeN q=0):=yA (by unfold yeN;rw [h0];rfl)
  have hn:n=0:=hz.2 (by rw [h0];rfl)
  subst hn
  have hd:decide (q.num<0)=false:=by rw [h0];rfl
  rw [hd]
  clear hu hz h0 hx hd
  go_enter Tryz.func51,Tryz.ntmps51
  go_wp2_with fail
  go_ret
  exact ⟨by rw [hs.out];rfl,zJ _ _⟩
 ·have hn0:((n:Int)==0)=false:=by simp;omega
  by_cases h1:q.num<0
  ·have hs:Hid (yeN q=-1):=yA (by unfold yeN;rw [if_pos h1])
   have hd:decide (q.num<0)=true:=by simpa using h1
   rw [hd]
   clear hu hz h0 h1 hx hd
   go_enter Tryz.func51,Tryz.ntmps51
   go_wp2_with fail
   go_ret
   exact ⟨by rw [hs.out];rfl,zJ _ _⟩
  ·have hs:Hid (yeN q=1):=yA (by unfold yeN;rw [if_neg h1,if_neg h0])
   have hd:decide (q.num<0)=false:=by simpa using h1
   rw [hd]
   clear hu hz h0 h1 hx hd
   go_enter Tryz.func51,Tryz.ntmps51
   go_wp2_with fail
   go_ret
   exact ⟨by rw [hs.out];rfl,zJ _ _⟩
theorem yfy (a b:Rat):zD (decide (a.num<0) != decide (b.num<0)) (a.num.natAbs*b.num.natAbs) (a.den*b.den)=a*b:=by
 rw [ycm a.den_pos b.den_pos,yal,yal]
theorem yfz (a b:Rat):zD (decide (a.num<0) != decide (b.num<0)) (a.num.natAbs*b.den) (a.den*b.num.natAbs)=a/b:=by
 by_cases h:b.num.natAbs=0
 ·have hb:b=0:=Rat.num_eq_zero.1 (by omega)
  rw [h,Nat.mul_zero,yg4,hb];grind
 ·rw [yi5 a.den_pos b.den_pos (by omega),yal,yal]
theorem uK.mono {K L:Nat} {q:Rat} (h:uK K q) (hK:K≤L):uK L q:=⟨ybI h.1 hK,ybI h.2 hK⟩
def yam (q:Rat) (sb:Bool) (w:World) (e:Ending) (w':World):Prop:=∃ p n c p2 n2 c2,e=.returned (.agg #[.bool sb,.slice p n c,.slice p2 n2 c2])∧yL w' (.slice p n c) q.num.natAbs∧(yL w' (.slice p2 n2 c2) q.den∨(yL w' (.slice p2 n2 c2) 0∧q.den=1))∧Below w.heap.size w w'
theorem vD.b {q:Rat} {sb:Bool} {w w':World} {e:Ending} (h:vD q w e w') (hs:sb=decide (q.num<0)):yam q sb w e w':=by
 obtain ⟨x,rfl,hx,hb⟩:=h
 obtain ⟨p,n,c,p2,n2,c2,rfl,h1,h2⟩:=hx.slices
 exact ⟨p,n,c,p2,n2,c2,by rw [hs],h1,h2,hb⟩
theorem Twa.fin {B:Nat} {s:Bool} {u1 v1:Value} {t:Bool} {u2 v2:Value} {w0 W:World} {q:Rat} {sb:Bool} {p p2:Option Addr} {n c n2 c2:Nat} (h:Twa B s u1 v1 t u2 v2 w0 W) (hB:w0.heap.size≤B) (hs:sb=decide (q.num<0))
  (h1:yL W (.slice p n c) q.num.natAbs) (h2:yL W (.slice p2 n2 c2) q.den∨(yL W (.slice p2 n2 c2) 0∧q.den=1)) :
  vD q w0 (.returned (.agg #[.bool sb,.slice p n c,.slice p2 n2 c2])) (((W.setCell ⟨B+1+1,0,none⟩ (.bool sb)).setCell ⟨B+1+1,1,none⟩ (.slice p n c)).setCell ⟨B+1+1,2,none⟩ (.slice p2 n2 c2)) :=
 ⟨_,rfl,⟨_,_,by rw [hs],h.nat3 hB h1 sb p p2 n c n2 c2,h2.imp (fun h2=>h.nat3 hB h2 sb p p2 n c n2 c2) fun h2=>⟨h.nat3 hB h2.1 sb p p2 n c n2 c2,h2.2⟩⟩,(h.put3 hB sb p p2 n c n2 c2).below⟩
theorem yfm (x y:Value) (a b:Rat) (K L:Nat) (w:World) (hK:K+L≤900000) (hab:uK K a) (hbb:uK L b) (hx:zH w x a) (hy:zH w y b):Calls Tryz.prog 38 #[x,y] w (vD (a*b) w):=by
 have yiJ:Hid (∀ W,Below w.heap.size w W→Calls Tryz.prog 68 #[x] W (yb9 a.den W)):=yA fun W hW=>ydk x a W (hx.below hW)
 have yiK:Hid (∀ W,Below w.heap.size w W→Calls Tryz.prog 68 #[y] W (yb9 b.den W)):=yA fun W hW=>ydk y b W (hy.below hW)
 obtain ⟨u1,v1,rfl,hu1,hv1⟩:=hx
 obtain ⟨u2,v2,rfl,hu2,hv2⟩:=hy
 obtain ⟨s,hs⟩:∃ s,Hid (s=decide (a.num<0)):=⟨_,yA rfl⟩
 obtain ⟨t,ht⟩:∃ t,Hid (t=decide (b.num<0)):=⟨_,yA rfl⟩
 rw [← hs.out] at yiJ ⊢
 rw [← ht.out] at yiK ⊢
 have hdx:=yiJ
 have hdy:=yiK
 clear yiJ yiK
 obtain ⟨sb,hsb⟩:∃ sb,Hid (sb=decide ((a*b).num<0)):=⟨_,yA rfl⟩
 have hm1:Hid (∀ W p q,yL W p a.num.natAbs→yL W q b.num.natAbs→Calls Tryz.prog 72 #[p,q] W (zU (a.num.natAbs*b.num.natAbs) W)):=yA fun W p q h1 h2=>uV _ _ _ _ K L W (by unfold yT;omega) (by unfold yT;omega) hab.1 hbb.1 h1 h2
 have hm2:Hid (∀ W p q,yL W p a.den→yL W q b.den→Calls Tryz.prog 72 #[p,q] W (zU (a.den*b.den) W)):=yA fun W p q h1 h2=>uV _ _ _ _ K L W (by unfold yT;omega) (by unfold yT;omega) hab.2 hbb.2 h1 h2
 have hmk:Hid (∀ W f p q,f=(s != t)→yL W p (a.num.natAbs*b.num.natAbs)→yL W q (a.den*b.den)→Calls Tryz.prog 69 #[.bool f,p,q] W (yam (a*b) sb W)):=yA fun W f p q hf h1 h2=>by
  have h:=ybE f p q _ _ (K+L) W hK (uM hab.1 hbb.1) (uM hab.2 hbb.2) h1 h2
  have he:zD f (a.num.natAbs*b.num.natAbs) (a.den*b.den)=a*b:=by rw [hf,hs.out,ht.out];exact yfy a b
  rw [he] at h
  exact h.mono fun e w' h=>h.b hsb.out
 have yaf:=Twa.start w s u1 v1 t u2 v2
 have Htwo:=yA yaf
 obtain ⟨-,c0,c1,c2,c3,c4,c5⟩:=yaf.all
 clear yaf hv1 hv2 hab hbb
 go_enter Tryz.func38,Tryz.ntmps38
 go_wp2_with fail
 go_region_held3 (fun w'=>Twa w.heap.size s u1 v1 t u2 v2 w w'∧w'.cell? ⟨w.heap.size,0,none⟩=some (.bool s)∧w'.cell? ⟨w.heap.size,1,none⟩=some u1∧w'.cell? ⟨w.heap.size,2,none⟩=some v1∧w'.cell? ⟨w.heap.size+1,0,none⟩=some (.bool t)∧w'.cell? ⟨w.heap.size+1,1,none⟩=some u2∧w'.cell? ⟨w.heap.size+1,2,none⟩=some v2)
  (first|exact Twa.all (Twa.drew Htwo.out)|exact Twa.all Htwo.out|(go_split_ands;exact Twa.all (Twa.next (by assumption) hb1))|(go_split_ands;exact Twa.all (Twa.next (by assumption) hb2))|(go_split_ands;exact Twa.all (Twa.next (by assumption) hb3))|(go_split_ands;exact Twa.all (Twa.next (by assumption) hb4))|(go_split_ands;exact Twa.all (Twa.next (by assumption) hb5))|(go_split_ands;exact Twa.all (Twa.put3 (by assumption) (Nat.le_refl _) _ _ _ _ _ _ _))|go_keep)
  (first|(go_at_call_of 72 (u1);go_split_ands;refine (hm1.out _ _ _ (hu1.below (Twa.below (by assumption))) (hu2.below (Twa.below (by assumption)))).mono ?_;rintro e w1 ⟨vt,rfl,hvt,hb1,-⟩;obtain ⟨pt,nt,ct,rfl⟩:=hvt.slice)|(go_at_call_of 68 (Value.agg #[Value.bool s,u1,v1]);go_split_ands;refine (hdx.out _ (Twa.below (by assumption))).mono ?_;rintro e w2 ⟨px,nx,cx,rfl,hvx,hb2⟩)|(go_at_call_of 68 (Value.agg #[Value.bool t,u2,v2]);go_split_ands;refine (hdy.out _ (Twa.below (by assumption))).mono ?_;rintro e w3 ⟨py,ny,cy,rfl,hvy,hb3⟩)|(go_at_call_of 72 (Value.slice px nx cx);go_split_ands;refine (hm2.out _ _ _ (hvx.below hb3) hvy).mono ?_;rintro e w4 ⟨vb,rfl,hvb,hb4,-⟩;obtain ⟨pb,nb,cb,rfl⟩:=hvb.slice)|(go_at_call 69;go_split_ands;refine (hmk.out _ _ _ _ rfl (((hvt.below hb2).below hb3).below hb4) hvb).mono ?_;rintro e w5 ⟨pr,nr,cr,pq,nq,cq,rfl,hr1,hr2,hb5⟩;have htw:=Twa.next (by assumption) hb5;obtain ⟨z0,z1,z2,k0,k1,k2,f0,f1,f2⟩:=Twa.slots htw))
 go_wp2_with fail
 have yE:=yA (htw.fin (Nat.le_refl _) hsb.out hr1 hr2)
 refine bodyPost_ret (v:=.agg #[.bool sb,.slice pr nr cr,.slice pq nq cq]) (by simp [results,Tryz.results38,go_sem,k0,k1,k2]) rfl ?_
 exact yE.out
theorem yjl (x y:Value) (a b:Rat) (K L:Nat) (w:World) (hK:K+L≤900000) (hab:uK K a) (hbb:uK L b) (hx:zH w x a) (hy:zH w y b):Calls Tryz.prog 73 #[x,y] w (vD (a/b) w):=by
 have yiJ:Hid (∀ W,Below w.heap.size w W→Calls Tryz.prog 68 #[x] W (yb9 a.den W)):=yA fun W hW=>ydk x a W (hx.below hW)
 have yiK:Hid (∀ W,Below w.heap.size w W→Calls Tryz.prog 68 #[y] W (yb9 b.den W)):=yA fun W hW=>ydk y b W (hy.below hW)
 obtain ⟨u1,v1,rfl,hu1,hv1⟩:=hx
 obtain ⟨u2,v2,rfl,hu2,hv2⟩:=hy
 obtain ⟨s,hs⟩:∃ s,Hid (s=decide (a.num<0)):=⟨_,yA rfl⟩
 obtain ⟨t,ht⟩:∃ t,Hid (t=decide (b.num<0)):=⟨_,yA rfl⟩
 rw [← hs.out] at yiJ ⊢
 rw [← ht.out] at yiK ⊢
 have hdx:=yiJ
 have hdy:=yiK
 clear yiJ yiK
 obtain ⟨sb,hsb⟩:∃ sb,Hid (sb=decide ((a/b).num<0)):=⟨_,yA rfl⟩
 have hm1:Hid (∀ W p q,yL W p a.num.natAbs→yL W q b.den→Calls Tryz.prog 72 #[p,q] W (zU (a.num.natAbs*b.den) W)):=yA fun W p q h1 h2=>uV _ _ _ _ K L W (by unfold yT;omega) (by unfold yT;omega) hab.1 hbb.2 h1 h2
 have hm2:Hid (∀ W p q,yL W p a.den→yL W q b.num.natAbs→Calls Tryz.prog 72 #[p,q] W (zU (a.den*b.num.natAbs) W)):=yA fun W p q h1 h2=>uV _ _ _ _ K L W (by unfold yT;omega) (by unfold yT;omega) hab.2 hbb.1 h1 h2
 have hmk:Hid (∀ W f p q,f=(s != t)→yL W p (a.num.natAbs*b.den)→yL W q (a.den*b.num.natAbs)→Calls Tryz.prog 69 #[.bool f,p,q] W (yam (a/b) sb W)):=yA fun W f p q hf h1 h2=>by
  have h:=ybE f p q _ _ (K+L) W hK (uM hab.1 hbb.2) (uM hab.2 hbb.1) h1 h2
  have he:zD f (a.num.natAbs*b.den) (a.den*b.num.natAbs)=a/b:=by rw [hf,hs.out,ht.out];exact yfz a b
  rw [he] at h
  exact h.mono fun e w' h=>h.b hsb.out
 have yaf:=Twa.start w s u1 v1 t u2 v2
 have Htwo:=yA yaf
 obtain ⟨-,c0,c1,c2,c3,c4,c5⟩:=yaf.all
 clear yaf hv1 hv2 hab hbb
 go_enter Tryz.func73,Tryz.ntmps73
 go_wp2_with fail
 go_region_held3 (fun w'=>Twa w.heap.size s u1 v1 t u2 v2 w w'∧w'.cell? ⟨w.heap.size,0,none⟩=some (.bool s)∧w'.cell? ⟨w.heap.size,1,none⟩=some u1∧w'.cell? ⟨w.heap.size,2,none⟩=some v1∧w'.cell? ⟨w.heap.size+1,0,none⟩=some (.bool t)∧w'.cell? ⟨w.heap.size+1,1,none⟩=some u2∧w'.cell? ⟨w.heap.size+1,2,none⟩=some v2)
  (first|exact Twa.all (Twa.drew Htwo.out)|exact Twa.all Htwo.out|(go_split_ands;exact Twa.all (Twa.next (by assumption) hb1))|(go_split_ands;exact Twa.all (Twa.next (by assumption) hb2))|(go_split_ands;exact Twa.all (Twa.next (by assumption) hb3))|(go_split_ands;exact Twa.all (Twa.next (by assumption) hb4))|(go_split_ands;exact Twa.all (Twa.next (by assumption) hb5))|(go_split_ands;exact Twa.all (Twa.put3 (by assumption) (Nat.le_refl _) _ _ _ _ _ _ _))|go_keep)
  (first|(go_at_call_of 68 (Value.agg #[Value.bool t,u2,v2]);go_split_ands;refine (hdy.out _ (Twa.below (by assumption))).mono ?_;rintro e w1 ⟨py,ny,cy,rfl,hvy,hb1⟩)|(go_at_call_of 72 (u1);go_split_ands;refine (hm1.out _ _ _ (hu1.below (Twa.below (by assumption))) hvy).mono ?_;rintro e w2 ⟨vt,rfl,hvt,hb2,-⟩;obtain ⟨pt,nt,ct,rfl⟩:=hvt.slice)|(go_at_call_of 68 (Value.agg #[Value.bool s,u1,v1]);go_split_ands;refine (hdx.out _ (Twa.below (by assumption))).mono ?_;rintro e w3 ⟨px,nx,cx,rfl,hvx,hb3⟩)|(go_at_call_of 72 (Value.slice px nx cx);go_split_ands;refine (hm2.out _ _ _ hvx (hu2.below (Twa.below (by assumption)))).mono ?_;rintro e w4 ⟨vb,rfl,hvb,hb4,-⟩;obtain ⟨pb,nb,cb,rfl⟩:=hvb.slice)|(go_at_call 69;go_split_ands;refine (hmk.out _ _ _ _ rfl ((hvt.below hb3).below hb4) hvb).mono ?_;rintro e w5 ⟨pr,nr,cr,pq,nq,cq,rfl,hr1,hr2,hb5⟩;have htw:=Twa.next (by assumption) hb5;obtain ⟨z0,z1,z2,k0,k1,k2,f0,f1,f2⟩:=Twa.slots htw))
 go_wp2_with fail
 have yE:=yA (htw.fin (Nat.le_refl _) hsb.out hr1 hr2)
 refine bodyPost_ret (v:=.agg #[.bool sb,.slice pr nr cr,.slice pq nq cq]) (by simp [results,Tryz.results73,go_sem,k0,k1,k2]) rfl ?_
 exact yE.out
end
theorem uK.neg {K:Nat} {q:Rat} (h:uK K q):uK K (-q):=⟨by rw [Rat.neg_num,Int.natAbs_neg];exact h.1,by rw [Rat.neg_den];exact h.2⟩
section
open Go.Lib
theorem GB:Tryz.prog.underlying 86=some (.slice 5):=by kernel_rfl
theorem underlying5:Tryz.prog.underlying 5=some (.int .u8):=by kernel_rfl
theorem yh7:Tryz.prog.underlying 9=some .string:=by kernel_rfl
theorem ysW:(Tryz.prog.info? 5).map (fun i=>(i.zero,i.size,i.bytes))=some (some (.int .u8 0),1,1):=by kernel_rfl
def u8s (l:List UInt8):List Value:=l.map fun b=>Value.int .u8 (b.toNat:Int)
structure AccB (B:Nat) (w wr:World) (v:Value) (l:List UInt8):Prop where
 own:wr.ownsRow B 5 1 v l.length (u8s l)
 below:Below B w wr
theorem AccB.next {B:Nat} {w wr w5:World} {v v5:Value} {l:List UInt8} {m:Nat} {c:UInt8} {o:Obj} (h:AccB B w wr v l) (hB:B≤wr.heap.size) (hm:m=l.length+1) (jH:w5.ownsRow B 5 1 v5 m (u8s l++[.int .u8 (c.toNat:Int)])) (hg:(wr.alloc o).grownBy w5 v.ownBlock):AccB B w w5 v5 (l++[c]):=by
 subst hm
 refine ⟨?_,?_⟩
 ·have e:u8s (l++[c])=u8s l++[.int .u8 (c.toNat:Int)]:=by simp [u8s]
  rw [e,List.length_append];exact jH
 ·exact (h.below.alloc hB o).grown hg (by simp;omega) (fun k hk=>(h.own.lt k hk).1)
theorem AccB.slice {B:Nat} {w wr:World} {v:Value} {l:List UInt8} (h:AccB B w wr v l):∃ p c,v=.slice p l.length c∧(0<l.length→∃ g,p=some ⟨g,0,none⟩∧B≤g∧g<wr.heap.size∧∀ j (hj:j<l.length),wr.cell? ⟨g,j,none⟩=some (.int .u8 (l[j].toNat:Int))):=by
 obtain ⟨h1,h2⟩:=h.own
 rcases h2 with ⟨rfl,h3⟩|⟨g,cap,cur,rfl,hg,hh,hn,hm,hs,hc⟩
 ·exact ⟨none,0,by rw [h3],fun hl=>by omega⟩
 ·refine ⟨_,cap,rfl,fun hl=>⟨g,rfl,hg,(Array.getElem?_eq_some_iff.1 hh).1,fun j hj=>?_⟩⟩
  rw [Nat.mul_one] at hc
  have e:cur[j]?=(u8s l)[j]?:=by rw [← hc,List.getElem?_take_of_lt hj,Array.getElem?_toList]
  simp only [World.cell?,hh]
  simp [e,u8s,hj]
theorem yg6 (a b:Nat):∀ r,GV (a+b) r=GV a (r/10^b)++GV b (r%10^b):=by
 induction b with
 | zero=>intro r;simp [GV]
 | succ b ih =>
  intro r
  have e1:r%10^(b+1)/10=r/10%10^b:=by
   rw [Nat.pow_succ,Nat.mul_comm];exact Nat.mod_mul_right_div_self r 10 (10^b)
  have e2:r%10^(b+1)%10=r%10:=by
   rw [Nat.pow_succ];exact Nat.mod_mul_left_mod r (10^b) 10
  have e3:r/10/10^b=r/10^(b+1):=by rw [Nat.div_div_eq_div_mul,Nat.pow_succ,Nat.mul_comm]
  show GV (a+b) (r/10)++_=GV a (r/10^(b+1))++(GV b (r%10^(b+1)/10)++[UInt8.ofNat (48+r%10^(b+1)%10)])
  rw [ih,e1,e2,e3,List.append_assoc]
theorem yrc (d:Nat):GV 1 d=[UInt8.ofNat (48+d%10)]:=rfl
theorem ypP (l:List Nat) (i:Nat) (hd:yW B9 l):GV 9 (l.getD i 0)++GV (9*i) (val B9 (l.take i))=GV (9*(i+1)) (val B9 (l.take (i+1))):=by
 have h1:=vT (l.take i) (hd.take i)
 have h2:B9^(l.take i).length≤B9^i:=Nat.pow_le_pow_right jP (by rw [List.length_take];omega)
 rw [yau] at h2
 rw [show 9*(i+1)=9+9*i from by omega,yg6,yY,yau]
 have hp:0<10^(9*i):=Nat.pow_pos (by omega)
 rw [Nat.add_mul_div_left _ _ hp,Nat.div_eq_of_lt (by rw [yau] at h1;rw [yau] at *;omega),Nat.zero_add,Nat.add_mul_mod_self_left,Nat.mod_eq_of_lt (by rw [yau] at h1;rw [yau] at *;omega)]
theorem ynr (d k:Nat):GV (k+1) (d%10^(k+1))=UInt8.ofNat (48+d/10^k%10)::GV k (d%10^k):=by
 rw [Nat.add_comm k 1,yg6 1 k,yrc,Nat.add_comm 1 k]
 have e1:d%10^(k+1)/10^k=d/10^k%10:=by rw [Nat.pow_succ];exact Nat.mod_mul_right_div_self d (10^k) 10
 have e2:d%10^(k+1)%10^k=d%10^k:=by
  rw [Nat.pow_succ,Nat.mul_comm];exact Nat.mod_mul_left_mod d 10 (10^k)
 rw [e1,e2,Nat.mod_mod];rfl
theorem yjm (d:Nat):((UInt8.ofNat (48+d%10)).toNat:Int)=48+(d:Int)%10:=by
 rw [UInt8.toNat_ofNat'];omega
theorem ypQ (d:Nat) (h:d≠0) (r:List UInt8):(if d=0 then [] else decDigits d)++r=(if d/10=0 then [] else decDigits (d/10))++(UInt8.ofNat (48+d%10)::r):=by
 rw [if_neg h]
 by_cases h1:d<10
 ·rw [if_pos (by omega),decDigits_one h1,Nat.mod_eq_of_lt h1];rfl
 ·rw [if_neg (by omega),ymg h1];simp
def yeI (l:List Nat) (k i:Nat) (b:List UInt8):Prop:=b.length≤9*i∧(i≤k→b.reverse=GV (9*i) (val B9 (l.take i)))∧(k<i→b.reverse=decDigits (val B9 l))
theorem ykb (p:Option Addr) (k c0:Nat) (l:List Nat) (w:World) (hk:k≤900000) (hl:Rd w p (k+1) l) (cl:zF B9 l) :
  Calls Tryz.prog 67 #[.slice p (k+1) c0] w fun e w'=>e=.returned (.string ⟨(decDigits (val B9 l)).toArray⟩)∧Below w.heap.size w w':=by
 obtain ⟨i0,hi,hz0,hz1,hz2⟩:=info_parts ysW
 have hki:(k:Int)≤900000:=by omega
 have hk0:(((k:Int)+1)==0)=false:=by simp;omega
 have hll:Hid (l.length=k+1):=yA hl.len
 have Cl:=yA cl
 have hx0:Hid (0<l.getD k 0):=yA (by
  have h2:k<l.length:=by rw [hl.len];omega
  apply Nat.pos_of_ne_zero;intro h0
  apply cl.2
  rw [List.getLast?_eq_getElem?,hl.len,Nat.add_sub_cancel,List.getElem?_eq_getElem h2]
  rw [List.getD_eq_getElem?_getD,List.getElem?_eq_getElem h2] at h0
  simpa using h0)
 clear cl
 go_enter Tryz.func67,Tryz.ntmps67
 go_wp2_with (at_make;refine wpList_make_own _ rfl _ _ 86 rfl w.heap.size 5 i0 (.int .u8 0) 1 GB hi hz0 hz1 _ _ _ (9*(k+1)) rfl rfl ?b1 ?b2 ?b3 (Nat.le_refl _) ?_)
 case b1=>omega
 case b2=>rw [hz2];omega
 case b3=>unfold maxLen;omega
 intro w1 jH jT
 have yoq:Hid (AccB w.heap.size w w1 (.slice (some ⟨w.heap.size,0,none⟩) 0 (9*(k+1))) []):=yA ⟨jH,(Below.refl _ _).grown jT (Nat.le_refl _) (fun k h=>by cases h)⟩
 have ycB:Hid (yeI l k 0 []):=yA ⟨by simp,fun _=>by simp [GV],fun h=>by omega⟩
 clear jH jT
 go_wp2_with fail
 go_loopw [3,18] (fun bv iv wr=>∃ (i:Nat) (b:List UInt8) (pb:Option Addr) (nb cb:Nat),iv=.int .i64 i∧i≤k+1∧bv=.slice pb nb cb∧Hid (yeI l k i b)∧Hid (AccB w.heap.size w wr bv b)) (fun _ iv _=>k+1-(intOf iv).toNat)
 case atStart=>exact ⟨0,[],_,_,_,rfl,Nat.zero_le _,rfl,ycB,yoq⟩
 case round =>
  obtain ⟨i,b,pb,nb,cb,rfl,hik,rfl,yI,uO⟩:=hrel
  by_cases h1:i<k+1
  ·have e1:(i:Int)<k+1:=by omega
   obtain ⟨b1,o1,d0,rfl,hb1,hc1,hd0⟩:=hl.at (k:=i) (by omega)
   have g1:wr.cell? ⟨b1,o1+i,none⟩=some (.int .u64 (d0:Int)):=(uO.out.below.cell (p:=⟨b1,o1+i,none⟩) hb1).trans hc1
   have hd9:Hid (d0<10^9):=yA (by have h:=Cl.out.1.getD jP i;rw [hd0.out,zN] at h;omega)
   clear hc1
   by_cases h2:i<k
   ·have e2:(i:Int)+1<k+1:=by omega
    have hst:Hid (b.reverse=GV 0 (d0%10^0)++GV (9*i) (val B9 (l.take i))∧b.length≤9*i+0):=yA ⟨by rw [yI.out.2.1 (by omega)];rfl,by have:=yI.out.1;omega⟩
    go_wp2_with fail
    go_loopw [3,5,6] (fun bv dv jv w2=>∃ (j d:Nat) (b':List UInt8) (pb:Option Addr) (nb cb:Nat),jv=.int .i64 j∧j≤9∧dv=.int .u64 d∧bv=.slice pb nb cb∧Hid (d=d0/10^j)∧Hid (b'.reverse=GV j (d0%10^j)++GV (9*i) (val B9 (l.take i))∧b'.length≤9*i+j)∧Hid (AccB w.heap.size w w2 bv b')) (fun _ _ jv _=>9-(intOf jv).toNat)
    case atStart=>exact ⟨0,d0,b,_,_,_,rfl,by omega,rfl,rfl,yA (by rw [Nat.pow_zero,Nat.div_one]),hst,uO⟩
    case round =>
     obtain ⟨j,d,b',pb,nb,cb,rfl,hj9,rfl,rfl,hdj,ybb,ybG⟩:=hrel
     by_cases h3:j<9
     ·have e3:(j:Int)<9:=by omega
      obtain ⟨cd,hcd⟩:∃ cd:UInt8,Hid (cd=UInt8.ofNat (48+d%10)):=⟨_,yA rfl⟩
      have hcv:(48:Int)+(d:Int)%10=(cd.toNat:Int):=by rw [hcd.out,yjm]
      have hdb:(d:Int)≤999999999:=by
       have h4:d≤d0:=by rw [hdj.out];exact Nat.div_le_self _ _
       have h5:=hd9.out
       omega
      have hlen:Hid (b'.length+1≤maxLen∧(b'.length+1)*1≤140737488355328∧w.heap.size≤wr.heap.size+1):=yA (by
       have h4:=ybb.out.2
       have h5:=ybG.out.below.size
       unfold maxLen;omega)
      have zR:Hid ((b'++[cd]).reverse=GV (j+1) (d0%10^(j+1))++GV (9*i) (val B9 (l.take i))∧(b'++[cd]).length≤9*i+(j+1)):=yA ⟨by
       rw [List.reverse_append,ybb.out.1,ynr,hcd.out,hdj.out];rfl,by have:=ybb.out.2;simp;omega⟩
      go_wp2_with (at_builtin;refine wpList_append_own _ rfl (.tmp 38) (.tmp 43) 86 rfl w.heap.size 5 i0 (.int .u8 0) 1 1 GB hi hz0 hz1 hz2 rfl (by decide) _ _ _ rfl ((ybG.out.own).alloc _) ⟨_,0,none⟩ 1 1 [.int .u8 (cd.toNat:Int)] rfl rfl (cell_one_new _ _ _) (by intro u hu;simp at hu;subst hu;rfl) hlen.out.1 hlen.out.2.1 (by simp;exact hlen.out.2.2) ?_)
      intro v5 w5 vJ jF _
      have yeC:=yA (ybG.out.next ybG.out.below.size rfl vJ jF)
      obtain ⟨p5,c5,rfl,-⟩:=yeC.out.slice
      clear vJ jF
      go_wp2_with fail
      go_roundw
      case rel=>exact ⟨j+1,d/10,_,_,_,_,by go_num,by omega,rfl,rfl,yA (by rw [hdj.out,Nat.div_div_eq_div_mul,Nat.pow_succ]),zR,yeC⟩
      case measure=>simp [intOf];omega
     ·obtain rfl:j=9:=by omega
      have uG:Hid (yeI l k (i+1) b'):=yA ⟨by have:=ybb.out.2;omega,fun _=>by
       have h4:=ybb.out.1
       rw [Nat.mod_eq_of_lt hd9.out,← hd0.out,ypP l i Cl.out.1] at h4
       exact h4,fun h=>by omega⟩
      go_wp2_with fail
      go_roundw
      case rel=>exact ⟨i+1,b',_,_,_,by go_num,by omega,rfl,uG,ybG⟩
      case measure=>simp [intOf];omega
   ·obtain rfl:i=k:=by omega
    have e2:¬ (i:Int)+1<i+1:=by omega
    have hd0p:Hid (d0≠0):=yA (by have:=hx0.out;rw [hd0.out] at this;omega)
    have hst:Hid ((if d0=0 then [] else decDigits d0)++b.reverse=decDigits (val B9 l)∧b.length≤9*i+0∧d0<10^(9-0)):=yA ⟨by
     rw [if_neg hd0p.out,yI.out.2.1 (Nat.le_refl _)]
     have h4:=yY B9 l i
     rw [List.take_of_length_le (by rw [hll.out];omega),hd0.out,yau] at h4
     have h5:=vT (l.take i) (Cl.out.1.take i)
     rw [List.length_take,Nat.min_eq_left (by rw [hll.out];omega),yau] at h5
     rw [← ygR _ _ _ (by have:=hd0p.out;omega) h5,h4,Nat.add_comm,Nat.mul_comm],by have:=yI.out.1;omega,hd9.out⟩
    clear yI
    go_wp2_with fail
    go_loopw [3,5,6] (fun bv dv jv w2=>∃ (j d:Nat) (b':List UInt8) (pb:Option Addr) (nb cb:Nat),jv=.int .i64 j∧j≤9∧dv=.int .u64 d∧bv=.slice pb nb cb∧Hid ((if d=0 then [] else decDigits d)++b'.reverse=decDigits (val B9 l)∧b'.length≤9*i+j∧d<10^(9-j))∧Hid (AccB w.heap.size w w2 bv b')) (fun _ _ jv _=>9-(intOf jv).toNat)
    case atStart=>exact ⟨0,d0,b,_,_,_,rfl,by omega,rfl,rfl,hst,uO⟩
    case round =>
     obtain ⟨j,d,b',pb,nb,cb,rfl,hj9,rfl,rfl,ybb,ybG⟩:=hrel
     by_cases h3:d=0
     ·subst h3
      have uG:Hid (yeI l i (i+1) b'):=yA ⟨by have:=ybb.out.2.1;omega,fun h=>by omega,fun _=>by
       have h4:=ybb.out.1
       rw [if_pos rfl] at h4
       exact h4⟩
      by_cases h4:j<9
      ·have e3:(j:Int)<9:=by omega
       go_wp2_with fail
       go_roundw
       case rel=>exact ⟨i+1,b',_,_,_,by go_num,by omega,rfl,uG,ybG⟩
       case measure=>simp [intOf]
      ·obtain rfl:j=9:=by omega
       go_wp2_with fail
       go_roundw
       case rel=>exact ⟨i+1,b',_,_,_,by go_num,by omega,rfl,uG,ybG⟩
       case measure=>simp [intOf]
     ·have h4:j<9:=by
       apply Nat.lt_of_le_of_ne hj9
       rintro rfl
       have:=ybb.out.2.2
       simp at this;omega
      have e3:(j:Int)<9:=by omega
      have e4:(0:Int)<d:=by omega
      obtain ⟨cd,hcd⟩:∃ cd:UInt8,Hid (cd=UInt8.ofNat (48+d%10)):=⟨_,yA rfl⟩
      have hcv:(48:Int)+(d:Int)%10=(cd.toNat:Int):=by rw [hcd.out,yjm]
      have hdb:(d:Int)≤1000000000:=by
       have h5:=ybb.out.2.2
       have h6:(10:Nat)^(9-j)≤10^9:=Nat.pow_le_pow_right (by omega) (by omega)
       omega
      have hlen:Hid (b'.length+1≤maxLen∧(b'.length+1)*1≤140737488355328∧w.heap.size≤wr.heap.size+1):=yA (by
       have h4:=ybb.out.2.1
       have h5:=ybG.out.below.size
       unfold maxLen;omega)
      have zR:Hid ((if d/10=0 then [] else decDigits (d/10))++(b'++[cd]).reverse=decDigits (val B9 l)∧(b'++[cd]).length≤9*i+(j+1)∧d/10<10^(9-(j+1))):=yA ⟨by
       rw [List.reverse_append,hcd.out]
       show (if d/10=0 then [] else decDigits (d/10))++(UInt8.ofNat (48+d%10)::b'.reverse)=_
       rw [← ypQ d h3];exact ybb.out.1,by have:=ybb.out.2.1;simp;omega,by
       have h5:=ybb.out.2.2
       rw [show 9-j=9-(j+1)+1 from by omega,Nat.pow_succ] at h5
       omega⟩
      clear h3
      go_wp2_with (at_builtin;refine wpList_append_own _ rfl (.tmp 38) (.tmp 43) 86 rfl w.heap.size 5 i0 (.int .u8 0) 1 1 GB hi hz0 hz1 hz2 rfl (by decide) _ _ _ rfl ((ybG.out.own).alloc _) ⟨_,0,none⟩ 1 1 [.int .u8 (cd.toNat:Int)] rfl rfl (cell_one_new _ _ _) (by intro u hu;simp at hu;subst hu;rfl) hlen.out.1 hlen.out.2.1 (by simp;exact hlen.out.2.2) ?_)
      intro v5 w5 vJ jF _
      have yeC:=yA (ybG.out.next ybG.out.below.size rfl vJ jF)
      obtain ⟨p5,c5,rfl,-⟩:=yeC.out.slice
      clear vJ jF
      go_wp2_with fail
      go_roundw
      case rel=>exact ⟨j+1,d/10,_,_,_,_,by go_num,by omega,rfl,rfl,zR,yeC⟩
      case measure=>simp [intOf];omega
  ·obtain rfl:i=k+1:=by omega
   have ybb:Hid (b.reverse=decDigits (val B9 l)):=yA (yI.out.2.2 (by omega))
   have hblen:Hid (b.length≤9*(k+1)):=yA yI.out.1
   have hbpos:Hid (0<b.length):=yA (by
    have h:=congrArg List.length ybb.out
    rw [List.length_reverse,decDigits_length] at h
    have:=nDigits_pos (val B9 l);omega)
   obtain ⟨pb',cb',he,hcells⟩:=uO.out.slice
   obtain ⟨gb,rfl,hgb,hgb2,ybn⟩:=hcells hbpos.out
   cases he
   have Hcell:=yA ybn
   have hmi:(b.length:Int)≤9000000:=by have:=hblen.out;omega
   have Hb:=yA uO.out.below
   have Hgb:=yA hgb2
   clear yI uO ybn hcells hgb2
   obtain ⟨B5,hB5⟩:∃ B5,B5=wr.heap.size:=⟨_,rfl⟩
   have HB5:=yA hB5
   clear hB5
   go_wp2_with (at_make;refine wpList_make_own _ rfl _ _ 86 rfl wr.heap.size 5 i0 (.int .u8 0) 1 GB hi hz0 hz1 _ _ _ b.length rfl rfl rfl ?d2 ?d3 (Nat.le_refl _) ?_)
   case d2=>rw [hz2];omega
   case d3=>unfold maxLen;omega
   intro w5 vJ jF
   have yeC:Hid (AccB B5 wr w5 (.slice (some ⟨wr.heap.size,0,none⟩) 0 b.length) (b.drop b.length).reverse):=yA (by
    rw [List.drop_eq_nil_of_le (Nat.le_refl _)]
    rw [HB5.out]
    exact ⟨vJ,(Below.refl _ _).grown jF (Nat.le_refl _) (fun k h=>by cases h)⟩)
   have Hb5:Hid (w.heap.size≤B5):=yA (by rw [HB5.out];exact Hb.out.size)
   have HgB:Hid (gb<B5):=yA (by rw [HB5.out];exact Hgb.out)
   clear vJ jF
   go_wp2_with fail
   go_loopw [7,8] (fun ov iv w2=>∃ (j:Nat) (z:Int) (po:Option Addr) (no co:Nat),j≤b.length∧iv=.int .i64 z∧z+1=j∧ov=.slice po no co∧Hid (AccB B5 wr w2 ov (b.drop j).reverse)) (fun _ iv _=>(intOf iv+1).toNat)
   case atStart=>exact ⟨b.length,(b.length:Int)-1,_,_,_,Nat.le_refl _,rfl,by omega,rfl,yeC⟩
   case round =>
    obtain ⟨j,z,po,no,co,hjm,rfl,hz,rfl,hac⟩:=hrel
    by_cases h0:j=0
    ·obtain rfl:z=-1:=by omega
     subst h0
     obtain ⟨po',co',he,hoc⟩:=hac.out.slice
     have hol:Hid ((b.drop 0).reverse=decDigits (val B9 l)):=yA (by rw [List.drop_zero];exact ybb.out)
     obtain ⟨go,rfl,_,_,hocell⟩:=hoc (by rw [hol.out,decDigits_length];exact nDigits_pos _)
     cases he
     have hconv:(convert 86 9 (.slice (some ⟨go,0,none⟩) b.length co)).run Tryz.prog wr=.ok (.string ⟨(decDigits (val B9 l)).toArray⟩) wr:=by
      have e:b.length=(b.drop 0).reverse.length:=by simp
      rw [e,run_convert_bytes_back _ 86 9 5 ⟨go,0,none⟩ co (b.drop 0).reverse GB underlying5 yh7 (fun j hj=>by
       have e2:(⟨go,0,none⟩:Addr).add j=⟨go,j,none⟩:=by
        simp only [Addr.add];split
        ·rename_i h0;subst h0;rfl
        ·simp
       rw [e2];exact hocell j hj),hol.out]
     have Hconv:=yA hconv
     have Hfin:=yA (Hb.out.trans (hac.out.below.mono Hb5.out))
     clear hz hoc hocell hconv hac
     go_wp2_with fail
     rw [Hconv.out]
     go_wp2_with fail
     go_ret
     exact ⟨rfl,Hfin.out⟩
    ·obtain ⟨i,rfl⟩:∃ i:Nat,z=i:=⟨z.toNat,by omega⟩
     obtain rfl:j=i+1:=by omega
     clear hz h0
     have hilt:i<b.length:=by omega
     have hii:(i:Int)<b.length:=by omega
     obtain ⟨cd,hcd⟩:∃ cd:UInt8,Hid (b[i]=cd):=⟨_,yA rfl⟩
     have hc2:wr.cell? ⟨gb,i,none⟩=some (.int .u8 (cd.toNat:Int)):=by
      rw [← hcd.out,← Hcell.out i hilt]
      exact hac.out.below.cell (p:=⟨gb,i,none⟩) HgB.out
     have hgbs:Hid (b.drop i=cd::b.drop (i+1)):=yA (by rw [List.drop_eq_getElem_cons hilt,hcd.out])
     have hlen:Hid ((b.drop (i+1)).reverse.length+1≤maxLen∧((b.drop (i+1)).reverse.length+1)*1≤140737488355328):=yA (by
      rw [List.length_reverse,List.length_drop];unfold maxLen;omega)
     have hsz:Hid (B5≤wr.heap.size∧B5≤wr.heap.size+1):=yA (by
      have h1:=hac.out.below.size
      have h2:=HB5.out
      omega)
     go_wp2_with (at_builtin;refine wpList_append_own _ rfl (.tmp 58) (.tmp 63) 86 rfl B5 5 i0 (.int .u8 0) 1 1 GB hi hz0 hz1 hz2 rfl (by decide) _ _ _ rfl ((hac.out.own).alloc _) ⟨_,0,none⟩ 1 1 [.int .u8 (cd.toNat:Int)] rfl rfl (cell_one_new _ _ _) (by intro u hu;simp at hu;subst hu;rfl) hlen.out.1 hlen.out.2 (by simp;exact hsz.out.2) ?_)
     intro v6 w6 yiA ye9 _
     have yrK:=yA (hac.out.next (c:=cd) hsz.out.1 (by simp) yiA ye9)
     have e6:(b.drop (i+1)).reverse++[cd]=(b.drop i).reverse:=by rw [hgbs.out];simp
     rw [e6] at yrK
     obtain ⟨p6,c6,rfl,-⟩:=yrK.out.slice
     clear yiA ye9
     go_wp2_with fail
     go_roundw
     case rel=>exact ⟨i,(i:Int)-1,_,_,_,by omega,rfl,by omega,rfl,yrK⟩
     case measure=>simp [intOf]
theorem yev (v:Value) (x K:Nat) (w:World) (hK:K≤900000) (hx:x<B9^K) (hv:yL w v x):Calls Tryz.prog 67 #[v] w fun e w'=>e=.returned (.string ⟨(decDigits x).toArray⟩)∧Below w.heap.size w w':=by
 obtain ⟨p,n,c,l,rfl,h1,h2,h3,h4⟩:=hv
 by_cases h0:n=0
 ·subst h0
  have hl:l=[]:=List.eq_nil_of_length_eq_zero h2.len
  subst hl
  have hx0:x=0:=h4.symm
  subst hx0
  have hd:decDigits 0=[48]:=by rw [decDigits_one (by omega)];rfl
  rw [hd]
  clear h1 h2 h3 h4 hx
  go_enter Tryz.func67,Tryz.ntmps67
  go_wp2_with fail
  go_ret
  exact ⟨rfl,Below.refl _ _⟩
 ·obtain ⟨k,rfl⟩:∃ k,n=k+1:=⟨n-1,by omega⟩
  have:=ydw h3 h4 hx h2
  rw [← h4]
  exact ykb p k c l w (by omega) h2 h3
end
end Go.Proofs.YtfjnipkpfbkegaaGreatDoor
