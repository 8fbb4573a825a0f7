/- Fractions with a sign, and the rational numbers that they stand for. -/
import Derived.Test.YtlcpcpmlfegejaaGreatDoorRc
import Derived.Deep.LoopGhost
import Derived.Deep.RegionHeld3
import Derived.Deep.RegionWith
import Derived.Outline
import Derived.RegionTactic
import Derived.ChangeAlike
import Derived.BigRegion
set_option maxHeartbeats 3200000
set_option maxRecDepth 100000
namespace Go.Proofs.YtlcpcpmlfegejaaGreatDoor
open Go.RowKit Big
variable {B : Nat} {s : Bool} {u1 v1 : Value} {t : Bool} {u2 v2 : Value} {w0 W W' : World}
end Go.Proofs.YtlcpcpmlfegejaaGreatDoor
namespace Big
theorem natCast_ne {b:Nat} (h:0<b):(b:Rat)≠0:=by
 intro e
 have:((b:Int):Rat)=((0:Int):Rat):=by simpa using e
 have:=Rat.intCast_inj.1 this
 omega
theorem ratv_drop (s:Bool) (a b:Nat):ratv (s&&!(a==0)) a b=ratv s a b:=by
 cases s
 ·rfl
 ·by_cases h:a=0
  ·subst h;simp [ratv]
  ·have h1:(a==0)=false:=by simpa using h
   rw [h1];rfl
theorem ratv_scale {s:Bool} {a b k:Nat} (hb:0<b) (hk:0<k):ratv s (a*k) (b*k)=ratv s a b:=by
 have h1:=natCast_ne hb
 have h2:=natCast_ne hk
 unfold ratv
 rw [Rat.natCast_mul,Rat.natCast_mul]
 cases s<;>simp<;>grind
theorem ratv_plus {s:Bool} {a c m:Nat}:ratv s (a+c) m=ratv s a m+ratv s c m:=by
 unfold ratv
 rw [Rat.natCast_add]
 cases s<;>simp<;>grind
theorem cast_sub {a c:Nat} (h:c≤a):((a-c:Nat):Rat)=(a:Rat)-(c:Rat):=by
 have:((a-c+c:Nat):Rat)=(a:Rat):=by rw [Nat.sub_add_cancel h]
 rw [Rat.natCast_add] at this
 grind
theorem ratv_minus {s t:Bool} {a c m:Nat} (h:s≠t) (hle:c≤a):ratv s (a-c) m=ratv s a m+ratv t c m:=by
 unfold ratv
 rw [cast_sub hle]
 cases s<;>cases t<;>simp at h ⊢<;>grind
end Big
set_option maxHeartbeats 1600000
set_option maxRecDepth 100000
namespace Go.Proofs.YtlcpcpmlfegejaaGreatDoor
open Go.RowKit Go.Lib Big
end Go.Proofs.YtlcpcpmlfegejaaGreatDoor
namespace Go.Proofs.YtlcpcpmlfegejaaGreatDoor
open Go.Lib Big
theorem numText_txt' {s:Bool} {a b:Nat} (hb:0<b):numText (s&&!(a==0)) a b=txt (ratv (s&&!(a==0)) a b) :=
 numText_txt hb (by intro h;simp at h;omega)
theorem ratv_self (q:Rat):ratv (decide (q.num<0)) q.num.natAbs q.den=q:=by
 have h:(if decide (q.num<0)=true then -((q.num.natAbs:Nat):Rat) else ((q.num.natAbs:Nat):Rat))=(q.num:Rat):=by
  by_cases h:q.num<0
  ·simp only [h,decide_true,if_true]
   have:((q.num.natAbs:Nat):Int)=- q.num:=by omega
   have h2:(((q.num.natAbs:Nat):Int):Rat)=((- q.num:Int):Rat):=by rw [this]
   rw [Rat.intCast_natCast,Rat.intCast_neg] at h2
   rw [h2,Rat.neg_neg]
  ·simp only [h,decide_false,Bool.false_eq_true,if_false]
   have:((q.num.natAbs:Nat):Int)=q.num:=by omega
   have h2:(((q.num.natAbs:Nat):Int):Rat)=((q.num:Int):Rat):=by rw [this]
   rw [Rat.intCast_natCast] at h2
   exact h2
 unfold ratv
 rw [h]
 have h2:q=mkRat q.num q.den:=(Rat.mkRat_self q).symm
 rw [Rat.mkRat_eq_div] at h2
 exact h2.symm
theorem dec_big {u:Nat} (h:¬ u<10):decDigits u=decDigits (u/10)++[UInt8.ofNat (48+u%10)]:=by rw [decDigits,dif_neg h]
theorem dig_isDig {k:Nat} (h:k<10):isDig (UInt8.ofNat (48+k))=true∧(UInt8.ofNat (48+k)).toNat-48=k:=by
 have:(UInt8.ofNat (48+k)).toNat=48+k:=by
  rw [UInt8.toNat_ofNat'];omega
 unfold isDig
 rw [this]
 simp;omega
theorem dec_all (u:Nat):(decDigits u).all isDig=true∧dval (decDigits u)=u:=by
 induction u using Nat.strongRecOn with
 | _ u ih =>
  by_cases h:u<10
  ·rw [decDigits_one h]
   obtain ⟨h1,h2⟩:=dig_isDig h
   refine ⟨by rw [List.all_cons,h1];rfl,?_⟩
   show 0*10+((UInt8.ofNat (48+u)).toNat-48)=u
   rw [h2];omega
  ·rw [dec_big h]
   obtain ⟨h1,h2⟩:=dig_isDig (k:=u%10) (by omega)
   obtain ⟨h3,h4⟩:=ih (u/10) (by omega)
   refine ⟨by rw [List.all_append,h3,List.all_cons,h1];rfl,?_⟩
   rw [dval_append,h4]
   show u/10*10^1+(0*10+((UInt8.ofNat (48+u%10)).toNat-48))=u
   rw [h2];omega
theorem dec_ne (u:Nat):decDigits u≠[]:=by
 intro h
 have h1:=decDigits_length u
 rw [h] at h1
 have:=nDigits_pos u
 simp at h1;omega
theorem isDig_ne {l:List UInt8} {c:UInt8} (h:l.all isDig=true) (hc:isDig c=false):c ∉ l:=by
 intro hm
 rw [List.all_eq_true] at h
 rw [h c hm] at hc;cases hc
theorem index_one_none {l:List UInt8} {c:UInt8} (h:c ∉ l):Lib.index l [c]=-1:=by
 apply Lib.index_none
 intro j _
 unfold Lib.occAt
 cases hd:l.drop j with
 | nil=>rfl
 | cons b t =>
  have hb:b ∈ l:=List.mem_of_mem_drop (by rw [hd];simp)
  have:(c==b)=false:=by rw [beq_eq_false_iff_ne];rintro rfl;exact h hb
  simp [List.isPrefixOf,this]
theorem cut_none {l:List UInt8} {c:UInt8} (h:c ∉ l):Lib.cut l [c]=(l,[],false):=by
 unfold Lib.cut
 rw [index_one_none h,if_neg (by decide)]
theorem cut_at {a b:List UInt8} {c:UInt8} (h:c ∉ a):Lib.cut (a++c::b) [c]=(a,b,true):=by
 have hi:Lib.index (a++c::b) [c]=a.length:=by
  apply Lib.index_first
  ·simp
  ·unfold Lib.occAt;rw [List.drop_left];simp [List.isPrefixOf]
  ·intro j hj
   unfold Lib.occAt
   rw [List.drop_append_of_le_length (by omega)]
   cases hd:a.drop j with
   | nil=>have:=congrArg List.length hd;simp at this;omega
   | cons x t =>
    have hb:x ∈ a:=List.mem_of_mem_drop (by rw [hd];simp)
    have:(c==x)=false:=by rw [beq_eq_false_iff_ne];rintro rfl;exact h hb
    simp [List.isPrefixOf,this]
 unfold Lib.cut
 rw [hi,if_pos (by omega)]
 simp
theorem wrote_ne (s:Bool) (n d:Nat):wrote s n d≠[]:=by
 unfold wrote
 simp [dec_ne]
end Go.Proofs.YtlcpcpmlfegejaaGreatDoor
set_option maxHeartbeats 3200000
set_option maxRecDepth 100000
namespace Go.Proofs.YtlcpcpmlfegejaaGreatDoor
open Go.RowKit Big
section
variable {B : Nat} {s : Bool} {u1 v1 : Value} {t : Bool} {u2 v2 : Value} {w0 W W' : World}
end
section
variable {W : World}
theorem nat_seta {g:Nat} {z0 z1 z2:Value} (hz:W.heap[g]?=some (.cells #[z0,z1,z2] 100 (0,0))) (n0:NoInt z0) (n1:NoInt z1) (n2:NoInt z2) {v:Value} {x:Nat} (hx:Nat9 W v x) (k:Nat) (a:Value):Nat9 (W.setCell ⟨g,k,none⟩ a) v x:=by
 obtain ⟨p,n,c,l,h1,h2,hr,h4⟩:=hx
 refine ⟨p,n,c,l,h1,h2,⟨hr.len,?_⟩,h4⟩
 rcases hr.cell with h0|⟨b,off,hp,hlt,hc⟩
 ·exact .inl h0
 ·by_cases hn:n=0
  ·exact .inl hn
  refine .inr ⟨b,off,hp,by rw [World.size_setCell];exact hlt,fun j hj=>?_⟩
  have hne:b≠g:=by
   rintro rfl
   have h1:=hc 0 (by omega)
   rw [ceh hz] at h1
   match hoff:off+0,h1 with
   | 0,h1=>simp at h1;exact n0 _ _ h1
   | 1,h1=>simp at h1;exact n1 _ _ h1
   | 2,h1=>simp at h1;exact n2 _ _ h1
   | k+3,h1=>simp at h1
  rw [← hc j hj]
  exact World.cell?_of_block (w:=W) (Below.heap_setCell _ _ _ _ hne)
end
structure Resa (B:Nat) (w0 W:World):Prop where
 size:B+1≤W.heap.size
 below:Below w0.heap.size w0 W
 z:∃ z0 z1 z2,W.heap[B]?=some (.cells #[z0,z1,z2] 100 (0,0))∧NoInt z0∧NoInt z1∧NoInt z2
section
variable {B : Nat} {w0 W W' : World}
theorem Resa.next (h:Resa B w0 W) (hb:Below W.heap.size W W'):Resa B w0 W':=by
 have hs:=h.size
 exact ⟨Nat.le_trans hs hb.size,h.below.trans (hb.mono h.below.size),h.z.elim fun z0 k=>k.elim fun z1 k=>k.elim fun z2 k=>⟨z0,z1,z2,(hb.block _ (by omega)).trans k.1,k.2⟩⟩
theorem Resa.slots (h:Resa B w0 W):∃ z0 z1 z2,W.cell? ⟨B,0,none⟩=some z0∧W.cell? ⟨B,1,none⟩=some z1∧W.cell? ⟨B,2,none⟩=some z2∧W.frozen? ⟨B,0,none⟩=false∧W.frozen? ⟨B,1,none⟩=false∧W.frozen? ⟨B,2,none⟩=false:=by
 obtain ⟨z0,z1,z2,hz,-⟩:=h.z
 exact ⟨z0,z1,z2,ceh hz 0,ceh hz 1,ceh hz 2,foh hz 0,foh hz 1,foh hz 2⟩
theorem Resa.put1 (h:Resa B w0 W) (hB:w0.heap.size≤B) (k:Nat) (hk:k<3) (a:Value) (ha:NoInt a):Resa B w0 (W.setCell ⟨B,k,none⟩ a):=by
 obtain ⟨z0,z1,z2,hz,n0,n1,n2⟩:=h.z
 refine ⟨by rw [World.size_setCell];exact h.size,h.below.setCell (by simp;omega) _,?_⟩
 have h1:=heap_set B k _ 100 a hz
 match k,hk with
 | 0,_=>exact ⟨_,_,_,h1,ha,n1,n2⟩
 | 1,_=>exact ⟨_,_,_,h1,n0,ha,n2⟩
 | 2,_=>exact ⟨_,_,_,h1,n0,n1,ha⟩
theorem Resa.put3 (h:Resa B w0 W) (hB:w0.heap.size≤B) (a:Bool) (p q:Option Addr) (n c m d:Nat):Resa B w0 (((W.setCell ⟨B,0,none⟩ (.bool a)).setCell ⟨B,1,none⟩ (.slice p n c)).setCell ⟨B,2,none⟩ (.slice q m d)) :=
 ((h.put1 hB 0 (by omega) _ (noInt_bool _)).put1 hB 1 (by omega) _ (noInt_slice _ _ _)).put1 hB 2 (by omega) _ (noInt_slice _ _ _)
theorem Resa.nat1 (h:Resa B w0 W) {v:Value} {x:Nat} (hx:Nat9 W v x) (k:Nat) (a:Value):Nat9 (W.setCell ⟨B,k,none⟩ a) v x:=by
 obtain ⟨z0,z1,z2,hz,n0,n1,n2⟩:=h.z
 exact nat_seta hz n0 n1 n2 hx k a
theorem Resa.nat3 (h:Resa B w0 W) (hB:w0.heap.size≤B) {v:Value} {x:Nat} (hx:Nat9 W v x) (a:Bool) (p q:Option Addr) (n c m d:Nat):Nat9 (((W.setCell ⟨B,0,none⟩ (.bool a)).setCell ⟨B,1,none⟩ (.slice p n c)).setCell ⟨B,2,none⟩ (.slice q m d)) v x :=
 ((h.put1 hB 0 (by omega) _ (noInt_bool _)).put1 hB 1 (by omega) _ (noInt_slice _ _ _)).nat1 ((h.put1 hB 0 (by omega) _ (noInt_bool _)).nat1 (h.nat1 hx _ _) _ _) _ _
theorem Resa.start (w:World):Resa w.heap.size w (w.alloc (.cells #[.bool false,.slice none 0 0,.slice none 0 0] 100)) :=
 ⟨by simp,(Below.refl _ _).alloc (Nat.le_refl _) _,.bool false,.slice none 0 0,.slice none 0 0,heap_new _ _,noInt_bool _,noInt_slice _ _ _,noInt_slice _ _ _⟩
end
def QAt (w:World) (x:Value) (q:Rat):Prop:=∃ u v,x=.agg #[.bool (decide (q.num<0)),u,v]∧Nat9 w u q.num.natAbs∧(Nat9 w v q.den∨(Nat9 w v 0∧q.den=1))
theorem QAt.below {w w':World} {x:Value} {q:Rat} (h:QAt w x q) (hb:Below w.heap.size w w'):QAt w' x q:=by
 obtain ⟨u,v,h1,h2,h3⟩:=h
 exact ⟨u,v,h1,h2.below hb,h3.imp (·.below hb) fun h=>⟨h.1.below hb,h.2⟩⟩
def QPost (q:Rat) (w:World) (e:Ending) (w':World):Prop:=∃ x,e=.returned x∧QAt w' x q∧Below w.heap.size w w'
theorem QAt.slices {w:World} {x:Value} {q:Rat} (h:QAt w x q):∃ p n c p2 n2 c2,x=.agg #[.bool (decide (q.num<0)),.slice p n c,.slice p2 n2 c2]∧Nat9 w (.slice p n c) q.num.natAbs∧(Nat9 w (.slice p2 n2 c2) q.den∨(Nat9 w (.slice p2 n2 c2) 0∧q.den=1)):=by
 obtain ⟨u,v,h1,h2,h3⟩:=h
 obtain ⟨p,n,c,rfl⟩:=h2.slice
 obtain ⟨p2,n2,c2,rfl⟩:∃ p n c,v=.slice p n c:=h3.elim (·.slice) fun h=>h.1.slice
 exact ⟨p,n,c,p2,n2,c2,h1,h2,h3⟩
def QLt (K:Nat) (q:Rat):Prop:=q.num.natAbs<B9^K∧q.den<B9^K
theorem ratv_zero (s:Bool) (b:Nat):ratv s 0 b=0:=by unfold ratv;cases s<;>simp<;>grind
theorem ratv_den0 (s:Bool) (a:Nat):ratv s a 0=0:=by unfold ratv;cases s<;>simp<;>grind
theorem ratv_lt {K a b:Nat} (s:Bool) (ha:a<B9^K) (hb:b<B9^K) (hb0:0<b) (hs:s=true→0<a):QLt K (ratv s a b):=by
 obtain ⟨-,h2,h3⟩:=ratv_num hb0 hs
 exact ⟨by rw [h2];exact Nat.lt_of_le_of_lt (Nat.div_le_self _ _) ha,by rw [h3];exact Nat.lt_of_le_of_lt (Nat.div_le_self _ _) hb⟩
theorem below_alloc9 (W:World) (o:Obj):Below W.heap.size W (W.alloc o):=(Below.refl _ _).alloc (Nat.le_refl _) o
theorem one_any (w:World):Calls Tryz.prog 118 #[] w (Post9 1 w):=by
 have hno:=hiD (natOf_any 1 w (by omega))
 go_enter Tryz.func118,Tryz.ntmps118
 go_wp2_with fail
 refine hno.out.mono ?_
 rintro e w' ⟨v,rfl,hv⟩
 obtain ⟨p,n,c,rfl⟩:=hv.1.slice
 go_wp2_with fail
 go_ret
 exact ⟨_,rfl,hv⟩
def Some9 (x:Nat) (w:World) (e:Ending) (w':World):Prop:=∃ p n c,e=.returned (.slice p n c)∧Nat9 w' (.slice p n c) x∧Below w.heap.size w w'
theorem den_any (x:Value) (q:Rat) (w:World) (hx:QAt w x q):Calls Tryz.prog 116 #[x] w (Some9 q.den w):=by
 obtain ⟨p,n,c,p2,n2,c2,rfl,hu,hv⟩:=hx.slices
 have hq0:=q.den_pos
 rcases hv with hv|⟨hv,h1⟩
 ·have hn2:((n2:Int)==0)=false:=by
   have:=hv.zero_iff (n:=n2)
   simp;omega
  have Hv:=hiD hv
  clear hu hv hq0
  go_enter Tryz.func116,Tryz.ntmps116
  go_wp2_with fail
  go_ret
  exact ⟨_,_,_,rfl,Hv.out.below (below_alloc9 _ _),below_alloc9 _ _⟩
 ·have hn2:n2=0:=hv.zero_iff.2 rfl
  subst hn2
  have Hq:=hiD h1
  have hone:∀ W,Hid (Calls Tryz.prog 118 #[] W (Post9 1 W)):=fun W=>hiD (one_any W)
  clear hu hv hq0 h1
  go_enter Tryz.func116,Tryz.ntmps116
  go_wp2_with fail
  refine (hone _).out.mono ?_
  rintro e w' ⟨v,rfl,hv,hb,-⟩
  obtain ⟨p3,n3,c3,rfl⟩:=hv.slice
  have Hb:=hiD ((below_alloc9 w _).trans (hb.mono (below_alloc9 w _).size))
  clear hb
  go_wp2_with fail
  go_ret
  exact ⟨_,_,_,rfl,by rw [Hq.out];exact hv,Hb.out⟩
theorem QAt.zero (w:World):QAt w (.agg #[.bool false,.slice none 0 0,.slice none 0 0]) 0:=⟨_,_,rfl,Nat9.zero w,.inr ⟨Nat9.zero w,rfl⟩⟩
theorem make_zero (s:Bool) (p q:Option Addr) (n c m d:Nat) (w:World) (h:n=0∨m=0):Calls Tryz.prog 114 #[.bool s,.slice p n c,.slice q m d] w (QPost 0 w):=by
 have hres:=hiD (Resa.start w)
 by_cases hn:n=0
 ·subst hn
  go_enter Tryz.func114,Tryz.ntmps114
  go_wp2_with fail
  refine bodyPost_ret (v:=.agg #[.bool false,.slice none 0 0,.slice none 0 0]) (by simp [results,Tryz.results114,go_sem]) rfl ?_
  exact ⟨_,rfl,QAt.zero _,hres.out.below⟩
 ·obtain rfl:m=0:=by omega
  have hn0:((n:Int)==0)=false:=by simp;omega
  go_enter Tryz.func114,Tryz.ntmps114
  go_wp2_with fail
  refine bodyPost_ret (v:=.agg #[.bool false,.slice none 0 0,.slice none 0 0]) (by simp [results,Tryz.results114,go_sem]) rfl ?_
  exact ⟨_,rfl,QAt.zero _,hres.out.below⟩
theorem make_pos (s:Bool) (u v:Value) (a b K:Nat) (w:World) (hK:K≤900000) (ha0:0<a) (hb0:0<b) (ha:a<B9^K) (hb:b<B9^K) (hu:Nat9 w u a) (hv:Nat9 w v b):Calls Tryz.prog 114 #[.bool s,u,v] w (QPost (ratv s a b) w):=by
 obtain ⟨p,n,c,rfl⟩:=hu.slice
 obtain ⟨q,m,d,rfl⟩:=hv.slice
 have hn0:((n:Int)==0)=false:=by have:=hu.zero_iff (n:=n);simp;omega
 have hm0:((m:Int)==0)=false:=by have:=hv.zero_iff (n:=m);simp;omega
 have hres:=hiD (Resa.start w)
 obtain ⟨g,hg⟩:∃ g,Hid (g=Nat.gcd a b):=⟨_,hiD rfl⟩
 have hg0:Hid (0<g∧g<B9^K):=hiD (by rw [hg.out];exact ⟨Nat.gcd_pos_of_pos_left _ ha0,Nat.lt_of_le_of_lt (Nat.gcd_le_left _ ha0) ha⟩)
 have hgcd:∀ W,Below w.heap.size w W→Hid (Calls Tryz.prog 149 #[.slice p n c,.slice q m d] W fun e w'=>∃ gv,e=.returned gv∧Nat9 w' gv g∧Below W.heap.size W w'):=fun W hW=>hiD (by
  rw [hg.out];exact natGcd_nat _ _ a b K W hK ha hb (hu.below hW) (hv.below hW))
 have hd1:∀ W gv,Below w.heap.size w W→Nat9 W gv g→Hid (Calls Tryz.prog 150 #[.slice p n c,gv] W (DivPost9 a g W)):=fun W gv hW h=>hiD (natDiv_nat _ _ a g K W hK ha hg0.out.2 hg0.out.1 (hu.below hW) h)
 have hd2:∀ W gv,Below w.heap.size w W→Nat9 W gv g→Hid (Calls Tryz.prog 150 #[.slice q m d,gv] W (DivPost9 b g W)):=fun W gv hW h=>hiD (natDiv_nat _ _ b g K W hK hb hg0.out.2 hg0.out.1 (hv.below hW) h)
 have hq:Hid (decide ((ratv s a b).num<0)=s∧(ratv s a b).num.natAbs=a/g∧(ratv s a b).den=b/g):=hiD (by rw [hg.out];exact ratv_num hb0 (fun _=>ha0))
 clear hu hv ha hb ha0 hb0
 go_enter Tryz.func114,Tryz.ntmps114
 go_wp2_with fail
 refine (hgcd _ hres.out.below).out.mono ?_
 rintro e w1 ⟨gv,rfl,hgv,hb1⟩
 obtain ⟨pg,ng,cg,rfl⟩:=hgv.slice
 have hr1:=hiD (hres.out.next hb1)
 have h1:=hd1 w1 _ hr1.out.below hgv
 have Hgv:=hiD hgv
 clear hgv hb1 hgcd hd1
 go_wp2_with fail
 refine h1.out.mono ?_
 rintro e w2 ⟨v2,r2,rfl,hv2,hr,hb2⟩
 obtain ⟨p2,n2,c2,rfl⟩:=hv2.slice
 obtain ⟨p3,n3,c3,rfl⟩:=hr.slice
 have hr2:=hiD (hr1.out.next hb2)
 have h2:=hd2 w2 _ hr2.out.below (Hgv.out.below hb2)
 have Hv2:=hiD hv2
 clear hv2 hr hb2 h1 hd2
 go_wp2_with fail
 refine h2.out.mono ?_
 rintro e w3 ⟨v4,r4,rfl,hv4,hr,hb3⟩
 obtain ⟨p4,n4,c4,rfl⟩:=hv4.slice
 obtain ⟨p5,n5,c5,rfl⟩:=hr.slice
 have hr3:=hiD (hr2.out.next hb3)
 obtain ⟨z0,z1,z2,l0,l1,l2,f0,f1,f2⟩:=hr3.out.slots
 have q1:=hiD (hr3.out.nat3 (Nat.le_refl _) (Hv2.out.below hb3) s p2 p4 n2 c2 n4 c4)
 have q2:=hiD (hr3.out.nat3 (Nat.le_refl _) hv4 s p2 p4 n2 c2 n4 c4)
 have q3:=hiD (hr3.out.put3 (Nat.le_refl _) s p2 p4 n2 c2 n4 c4).below
 clear hv4 hr hb3 h2
 go_wp2_with fail
 refine bodyPost_ret (v:=.agg #[.bool s,.slice p2 n2 c2,.slice p4 n4 c4]) (by simp [results,Tryz.results114,go_sem,l0,l1,l2]) rfl ?_
 exact ⟨_,rfl,⟨_,_,by rw [hq.out.1],by rw [hq.out.2.1];exact q1.out,.inl (by rw [hq.out.2.2];exact q2.out)⟩,q3.out⟩
theorem make_any (s:Bool) (u v:Value) (a b K:Nat) (w:World) (hK:K≤900000) (ha:a<B9^K) (hb:b<B9^K) (hu:Nat9 w u a) (hv:Nat9 w v b):Calls Tryz.prog 114 #[.bool s,u,v] w (QPost (ratv s a b) w):=by
 by_cases ha0:a=0
 ·obtain ⟨p,n,c,rfl⟩:=hu.slice
  obtain ⟨q,m,d,rfl⟩:=hv.slice
  rw [ha0,ratv_zero]
  exact make_zero s p q n c m d w (.inl (hu.zero_iff.2 ha0))
 ·by_cases hb0:b=0
  ·obtain ⟨p,n,c,rfl⟩:=hu.slice
   obtain ⟨q,m,d,rfl⟩:=hv.slice
   rw [hb0,ratv_den0]
   exact make_zero s p q n c m d w (.inr (hv.zero_iff.2 hb0))
  ·exact make_pos s u v a b K w hK (by omega) (by omega) ha hb hu hv
theorem QLt.mono {K L:Nat} {q:Rat} (h:QLt K q) (hK:K≤L):QLt L q:=⟨pow9_mono h.1 hK,pow9_mono h.2 hK⟩
def QPostB (q:Rat) (sb:Bool) (w:World) (e:Ending) (w':World):Prop:=∃ p n c p2 n2 c2,e=.returned (.agg #[.bool sb,.slice p n c,.slice p2 n2 c2])∧Nat9 w' (.slice p n c) q.num.natAbs∧(Nat9 w' (.slice p2 n2 c2) q.den∨(Nat9 w' (.slice p2 n2 c2) 0∧q.den=1))∧Below w.heap.size w w'
theorem QPost.b {q:Rat} {sb:Bool} {w w':World} {e:Ending} (h:QPost q w e w') (hs:sb=decide (q.num<0)):QPostB q sb w e w':=by
 obtain ⟨x,rfl,hx,hb⟩:=h
 obtain ⟨p,n,c,p2,n2,c2,rfl,h1,h2⟩:=hx.slices
 exact ⟨p,n,c,p2,n2,c2,by rw [hs],h1,h2,hb⟩
end Go.Proofs.YtlcpcpmlfegejaaGreatDoor
set_option maxHeartbeats 3200000
set_option maxRecDepth 100000
namespace Go.Proofs.YtlcpcpmlfegejaaGreatDoor
open Go.RowKit Big
theorem QLt.neg {K:Nat} {q:Rat} (h:QLt K q):QLt K (-q):=⟨by rw [Rat.neg_num,Int.natAbs_neg];exact h.1,by rw [Rat.neg_den];exact h.2⟩
end Go.Proofs.YtlcpcpmlfegejaaGreatDoor
namespace Go.Proofs.YtlcpcpmlfegejaaGreatDoor
open Go.RowKit Big
open Go.Lib
theorem underlying159:Tryz.prog.underlying 128=some (.slice 5):=by kernel_rfl
theorem underlying5:Tryz.prog.underlying 5=some (.int .u8):=by kernel_rfl
theorem underlying9':Tryz.prog.underlying 9=some .string:=by kernel_rfl
theorem info5:(Tryz.prog.info? 5).map (fun i=>(i.zero,i.size,i.bytes))=some (some (.int .u8 0),1,1):=by kernel_rfl
def u8s (l:List UInt8):List Value:=l.map fun b=>Value.int .u8 (b.toNat:Int)
structure AccB (B:Nat) (w wr:World) (v:Value) (l:List UInt8):Prop where
 own:wr.ownsRow B 5 1 v l.length (u8s l)
 below:Below B w wr
theorem AccB.next {B:Nat} {w wr w5:World} {v v5:Value} {l:List UInt8} {m:Nat} {c:UInt8} {o:Obj} (h:AccB B w wr v l) (hB:B≤wr.heap.size) (hm:m=l.length+1) (hown:w5.ownsRow B 5 1 v5 m (u8s l++[.int .u8 (c.toNat:Int)])) (hg:(wr.alloc o).grownBy w5 v.ownBlock):AccB B w w5 v5 (l++[c]):=by
 subst hm
 refine ⟨?_,?_⟩
 ·have e:u8s (l++[c])=u8s l++[.int .u8 (c.toNat:Int)]:=by simp [u8s]
  rw [e,List.length_append];exact hown
 ·exact (h.below.alloc hB o).grown hg (by simp;omega) (fun k hk=>(h.own.lt k hk).1)
theorem AccB.slice {B:Nat} {w wr:World} {v:Value} {l:List UInt8} (h:AccB B w wr v l):∃ p c,v=.slice p l.length c∧(0<l.length→∃ g,p=some ⟨g,0,none⟩∧B≤g∧g<wr.heap.size∧∀ j (hj:j<l.length),wr.cell? ⟨g,j,none⟩=some (.int .u8 (l[j].toNat:Int))):=by
 obtain ⟨h1,h2⟩:=h.own
 rcases h2 with ⟨rfl,h3⟩|⟨g,cap,cur,rfl,hg,hh,hn,hm,hs,hc⟩
 ·exact ⟨none,0,by rw [h3],fun hl=>by omega⟩
 ·refine ⟨_,cap,rfl,fun hl=>⟨g,rfl,hg,(Array.getElem?_eq_some_iff.1 hh).1,fun j hj=>?_⟩⟩
  rw [Nat.mul_one] at hc
  have e:cur[j]?=(u8s l)[j]?:=by rw [← hc,List.getElem?_take_of_lt hj,Array.getElem?_toList]
  simp only [World.cell?,hh]
  simp [e,u8s,hj]
theorem pad_split (a b:Nat):∀ r,padD (a+b) r=padD a (r/10^b)++padD b (r%10^b):=by
 induction b with
 | zero=>intro r;simp [padD]
 | succ b ih =>
  intro r
  have e1:r%10^(b+1)/10=r/10%10^b:=by
   rw [Nat.pow_succ,Nat.mul_comm];exact Nat.mod_mul_right_div_self r 10 (10^b)
  have e2:r%10^(b+1)%10=r%10:=by
   rw [Nat.pow_succ];exact Nat.mod_mul_left_mod r (10^b) 10
  have e3:r/10/10^b=r/10^(b+1):=by rw [Nat.div_div_eq_div_mul,Nat.pow_succ,Nat.mul_comm]
  show padD (a+b) (r/10)++_=padD a (r/10^(b+1))++(padD b (r%10^(b+1)/10)++[UInt8.ofNat (48+r%10^(b+1)%10)])
  rw [ih,e1,e2,e3,List.append_assoc]
theorem pad_one (d:Nat):padD 1 d=[UInt8.ofNat (48+d%10)]:=rfl
theorem pad_limb (l:List Nat) (i:Nat) (hd:Dig B9 l):padD 9 (l.getD i 0)++padD (9*i) (val B9 (l.take i))=padD (9*(i+1)) (val B9 (l.take (i+1))):=by
 have h1:=val_lt (l.take i) (hd.take i)
 have h2:B9^(l.take i).length≤B9^i:=Nat.pow_le_pow_right B9_pos (by rw [List.length_take];omega)
 rw [B9_pow] at h2
 rw [show 9*(i+1)=9+9*i from by omega,pad_split,val_take_succD,B9_pow]
 have hp:0<10^(9*i):=Nat.pow_pos (by omega)
 rw [Nat.add_mul_div_left _ _ hp,Nat.div_eq_of_lt (by rw [B9_pow] at h1;rw [B9_pow] at *;omega),Nat.zero_add,Nat.add_mul_mod_self_left,Nat.mod_eq_of_lt (by rw [B9_pow] at h1;rw [B9_pow] at *;omega)]
theorem pad_digit (d k:Nat):padD (k+1) (d%10^(k+1))=UInt8.ofNat (48+d/10^k%10)::padD k (d%10^k):=by
 rw [Nat.add_comm k 1,pad_split 1 k,pad_one,Nat.add_comm 1 k]
 have e1:d%10^(k+1)/10^k=d/10^k%10:=by rw [Nat.pow_succ];exact Nat.mod_mul_right_div_self d (10^k) 10
 have e2:d%10^(k+1)%10^k=d%10^k:=by
  rw [Nat.pow_succ,Nat.mul_comm];exact Nat.mod_mul_left_mod d 10 (10^k)
 rw [e1,e2,Nat.mod_mod];rfl
theorem dig_byte (d:Nat):((UInt8.ofNat (48+d%10)).toNat:Int)=48+(d:Int)%10:=by
 rw [UInt8.toNat_ofNat'];omega
theorem top_step (d:Nat) (h:d≠0) (r:List UInt8):(if d=0 then [] else decDigits d)++r=(if d/10=0 then [] else decDigits (d/10))++(UInt8.ofNat (48+d%10)::r):=by
 rw [if_neg h]
 by_cases h1:d<10
 ·rw [if_pos (by omega),decDigits_one h1,Nat.mod_eq_of_lt h1];rfl
 ·rw [if_neg (by omega),dec_big h1];simp
def TextInv (l:List Nat) (k i:Nat) (b:List UInt8):Prop:=b.length≤9*i∧(i≤k→b.reverse=padD (9*i) (val B9 (l.take i)))∧(k<i→b.reverse=decDigits (val B9 l))
theorem natText_pos (p:Option Addr) (k c0:Nat) (l:List Nat) (w:World) (hk:k≤900000) (hl:Rd w p (k+1) l) (cl:Canon B9 l) :
  Calls Tryz.prog 148 #[.slice p (k+1) c0] w fun e w'=>e=.returned (.string ⟨(decDigits (val B9 l)).toArray⟩)∧Below w.heap.size w w':=by
 obtain ⟨i0,hi,hz0,hz1,hz2⟩:=info_parts info5
 have hki:(k:Int)≤900000:=by omega
 have hk0:(((k:Int)+1)==0)=false:=by simp;omega
 have hll:Hid (l.length=k+1):=hiD hl.len
 have Cl:=hiD cl
 have hx0:Hid (0<l.getD k 0):=hiD (by
  have h2:k<l.length:=by rw [hl.len];omega
  apply Nat.pos_of_ne_zero;intro h0
  apply cl.2
  rw [List.getLast?_eq_getElem?,hl.len,Nat.add_sub_cancel,List.getElem?_eq_getElem h2]
  rw [List.getD_eq_getElem?_getD,List.getElem?_eq_getElem h2] at h0
  simpa using h0)
 clear cl
 go_enter Tryz.func148,Tryz.ntmps148
 go_wp2_with (at_make;refine wpList_make_own _ rfl _ _ 128 rfl w.heap.size 5 i0 (.int .u8 0) 1 underlying159 hi hz0 hz1 _ _ _ (9*(k+1)) rfl rfl ?b1 ?b2 ?b3 (Nat.le_refl _) ?_)
 case b1=>omega
 case b2=>rw [hz2];omega
 case b3=>unfold maxLen;omega
 intro w1 hown hgrow
 have hacc0:Hid (AccB w.heap.size w w1 (.slice (some ⟨w.heap.size,0,none⟩) 0 (9*(k+1))) []):=hiD ⟨hown,(Below.refl _ _).grown hgrow (Nat.le_refl _) (fun k h=>by cases h)⟩
 have hinv0:Hid (TextInv l k 0 []):=hiD ⟨by simp,fun _=>by simp [padD],fun h=>by omega⟩
 clear hown hgrow
 go_wp2_with fail
 go_loopw [3,18] (fun bv iv wr=>∃ (i:Nat) (b:List UInt8) (pb:Option Addr) (nb cb:Nat),iv=.int .i64 i∧i≤k+1∧bv=.slice pb nb cb∧Hid (TextInv l k i b)∧Hid (AccB w.heap.size w wr bv b)) (fun _ iv _=>k+1-(intOf iv).toNat)
 case atStart=>exact ⟨0,[],_,_,_,rfl,Nat.zero_le _,rfl,hinv0,hacc0⟩
 case round =>
  obtain ⟨i,b,pb,nb,cb,rfl,hik,rfl,hinv,hacc⟩:=hrel
  by_cases h1:i<k+1
  ·have e1:(i:Int)<k+1:=by omega
   obtain ⟨b1,o1,d0,rfl,hb1,hc1,hd0⟩:=hl.at (k:=i) (by omega)
   have g1:wr.cell? ⟨b1,o1+i,none⟩=some (.int .u64 (d0:Int)):=(hacc.out.below.cell (p:=⟨b1,o1+i,none⟩) hb1).trans hc1
   have hd9:Hid (d0<10^9):=hiD (by have h:=Cl.out.1.getD B9_pos i;rw [hd0.out,B9_eq] at h;omega)
   clear hc1
   by_cases h2:i<k
   ·have e2:(i:Int)+1<k+1:=by omega
    have hst:Hid (b.reverse=padD 0 (d0%10^0)++padD (9*i) (val B9 (l.take i))∧b.length≤9*i+0):=hiD ⟨by rw [hinv.out.2.1 (by omega)];rfl,by have:=hinv.out.1;omega⟩
    go_wp2_with fail
    go_loopw [3,5,6] (fun bv dv jv w2=>∃ (j d:Nat) (b':List UInt8) (pb:Option Addr) (nb cb:Nat),jv=.int .i64 j∧j≤9∧dv=.int .u64 d∧bv=.slice pb nb cb∧Hid (d=d0/10^j)∧Hid (b'.reverse=padD j (d0%10^j)++padD (9*i) (val B9 (l.take i))∧b'.length≤9*i+j)∧Hid (AccB w.heap.size w w2 bv b')) (fun _ _ jv _=>9-(intOf jv).toNat)
    case atStart=>exact ⟨0,d0,b,_,_,_,rfl,by omega,rfl,rfl,hiD (by rw [Nat.pow_zero,Nat.div_one]),hst,hacc⟩
    case round =>
     obtain ⟨j,d,b',pb,nb,cb,rfl,hj9,rfl,rfl,hdj,hrev,hacc2⟩:=hrel
     by_cases h3:j<9
     ·have e3:(j:Int)<9:=by omega
      obtain ⟨cd,hcd⟩:∃ cd:UInt8,Hid (cd=UInt8.ofNat (48+d%10)):=⟨_,hiD rfl⟩
      have hcv:(48:Int)+(d:Int)%10=(cd.toNat:Int):=by rw [hcd.out,dig_byte]
      have hdb:(d:Int)≤999999999:=by
       have h4:d≤d0:=by rw [hdj.out];exact Nat.div_le_self _ _
       have h5:=hd9.out
       omega
      have hlen:Hid (b'.length+1≤maxLen∧(b'.length+1)*1≤140737488355328∧w.heap.size≤wr.heap.size+1):=hiD (by
       have h4:=hrev.out.2
       have h5:=hacc2.out.below.size
       unfold maxLen;omega)
      have hnext:Hid ((b'++[cd]).reverse=padD (j+1) (d0%10^(j+1))++padD (9*i) (val B9 (l.take i))∧(b'++[cd]).length≤9*i+(j+1)):=hiD ⟨by
       rw [List.reverse_append,hrev.out.1,pad_digit,hcd.out,hdj.out];rfl,by have:=hrev.out.2;simp;omega⟩
      go_wp2_with (at_builtin;refine wpList_append_own _ rfl (.tmp 38) (.tmp 43) 128 rfl w.heap.size 5 i0 (.int .u8 0) 1 1 underlying159 hi hz0 hz1 hz2 rfl (by decide) _ _ _ rfl ((hacc2.out.own).alloc _) ⟨_,0,none⟩ 1 1 [.int .u8 (cd.toNat:Int)] rfl rfl (cell_one_new _ _ _) (by intro u hu;simp at hu;subst hu;rfl) hlen.out.1 hlen.out.2.1 (by simp;exact hlen.out.2.2) ?_)
      intro v5 w5 hown5 hgrow5 _
      have hacc5:=hiD (hacc2.out.next hacc2.out.below.size rfl hown5 hgrow5)
      obtain ⟨p5,c5,rfl,-⟩:=hacc5.out.slice
      clear hown5 hgrow5
      go_wp2_with fail
      go_roundw
      case rel=>exact ⟨j+1,d/10,_,_,_,_,by go_num,by omega,rfl,rfl,hiD (by rw [hdj.out,Nat.div_div_eq_div_mul,Nat.pow_succ]),hnext,hacc5⟩
      case measure=>simp [intOf];omega
     ·obtain rfl:j=9:=by omega
      have hinv2:Hid (TextInv l k (i+1) b'):=hiD ⟨by have:=hrev.out.2;omega,fun _=>by
       have h4:=hrev.out.1
       rw [Nat.mod_eq_of_lt hd9.out,← hd0.out,pad_limb l i Cl.out.1] at h4
       exact h4,fun h=>by omega⟩
      go_wp2_with fail
      go_roundw
      case rel=>exact ⟨i+1,b',_,_,_,by go_num,by omega,rfl,hinv2,hacc2⟩
      case measure=>simp [intOf];omega
   ·obtain rfl:i=k:=by omega
    have e2:¬ (i:Int)+1<i+1:=by omega
    have hd0p:Hid (d0≠0):=hiD (by have:=hx0.out;rw [hd0.out] at this;omega)
    have hst:Hid ((if d0=0 then [] else decDigits d0)++b.reverse=decDigits (val B9 l)∧b.length≤9*i+0∧d0<10^(9-0)):=hiD ⟨by
     rw [if_neg hd0p.out,hinv.out.2.1 (Nat.le_refl _)]
     have h4:=val_take_succD B9 l i
     rw [List.take_of_length_le (by rw [hll.out];omega),hd0.out,B9_pow] at h4
     have h5:=val_lt (l.take i) (Cl.out.1.take i)
     rw [List.length_take,Nat.min_eq_left (by rw [hll.out];omega),B9_pow] at h5
     rw [← dec_split _ _ _ (by have:=hd0p.out;omega) h5,h4,Nat.add_comm,Nat.mul_comm],by have:=hinv.out.1;omega,hd9.out⟩
    clear hinv
    go_wp2_with fail
    go_loopw [3,5,6] (fun bv dv jv w2=>∃ (j d:Nat) (b':List UInt8) (pb:Option Addr) (nb cb:Nat),jv=.int .i64 j∧j≤9∧dv=.int .u64 d∧bv=.slice pb nb cb∧Hid ((if d=0 then [] else decDigits d)++b'.reverse=decDigits (val B9 l)∧b'.length≤9*i+j∧d<10^(9-j))∧Hid (AccB w.heap.size w w2 bv b')) (fun _ _ jv _=>9-(intOf jv).toNat)
    case atStart=>exact ⟨0,d0,b,_,_,_,rfl,by omega,rfl,rfl,hst,hacc⟩
    case round =>
     obtain ⟨j,d,b',pb,nb,cb,rfl,hj9,rfl,rfl,hrev,hacc2⟩:=hrel
     by_cases h3:d=0
     ·subst h3
      have hinv2:Hid (TextInv l i (i+1) b'):=hiD ⟨by have:=hrev.out.2.1;omega,fun h=>by omega,fun _=>by
       have h4:=hrev.out.1
       rw [if_pos rfl] at h4
       exact h4⟩
      by_cases h4:j<9
      ·have e3:(j:Int)<9:=by omega
       go_wp2_with fail
       go_roundw
       case rel=>exact ⟨i+1,b',_,_,_,by go_num,by omega,rfl,hinv2,hacc2⟩
       case measure=>simp [intOf]
      ·obtain rfl:j=9:=by omega
       go_wp2_with fail
       go_roundw
       case rel=>exact ⟨i+1,b',_,_,_,by go_num,by omega,rfl,hinv2,hacc2⟩
       case measure=>simp [intOf]
     ·have h4:j<9:=by
       apply Nat.lt_of_le_of_ne hj9
       rintro rfl
       have:=hrev.out.2.2
       simp at this;omega
      have e3:(j:Int)<9:=by omega
      have e4:(0:Int)<d:=by omega
      obtain ⟨cd,hcd⟩:∃ cd:UInt8,Hid (cd=UInt8.ofNat (48+d%10)):=⟨_,hiD rfl⟩
      have hcv:(48:Int)+(d:Int)%10=(cd.toNat:Int):=by rw [hcd.out,dig_byte]
      have hdb:(d:Int)≤1000000000:=by
       have h5:=hrev.out.2.2
       have h6:(10:Nat)^(9-j)≤10^9:=Nat.pow_le_pow_right (by omega) (by omega)
       omega
      have hlen:Hid (b'.length+1≤maxLen∧(b'.length+1)*1≤140737488355328∧w.heap.size≤wr.heap.size+1):=hiD (by
       have h4:=hrev.out.2.1
       have h5:=hacc2.out.below.size
       unfold maxLen;omega)
      have hnext:Hid ((if d/10=0 then [] else decDigits (d/10))++(b'++[cd]).reverse=decDigits (val B9 l)∧(b'++[cd]).length≤9*i+(j+1)∧d/10<10^(9-(j+1))):=hiD ⟨by
       rw [List.reverse_append,hcd.out]
       show (if d/10=0 then [] else decDigits (d/10))++(UInt8.ofNat (48+d%10)::b'.reverse)=_
       rw [← top_step d h3];exact hrev.out.1,by have:=hrev.out.2.1;simp;omega,by
       have h5:=hrev.out.2.2
       rw [show 9-j=9-(j+1)+1 from by omega,Nat.pow_succ] at h5
       omega⟩
      clear h3
      go_wp2_with (at_builtin;refine wpList_append_own _ rfl (.tmp 38) (.tmp 43) 128 rfl w.heap.size 5 i0 (.int .u8 0) 1 1 underlying159 hi hz0 hz1 hz2 rfl (by decide) _ _ _ rfl ((hacc2.out.own).alloc _) ⟨_,0,none⟩ 1 1 [.int .u8 (cd.toNat:Int)] rfl rfl (cell_one_new _ _ _) (by intro u hu;simp at hu;subst hu;rfl) hlen.out.1 hlen.out.2.1 (by simp;exact hlen.out.2.2) ?_)
      intro v5 w5 hown5 hgrow5 _
      have hacc5:=hiD (hacc2.out.next hacc2.out.below.size rfl hown5 hgrow5)
      obtain ⟨p5,c5,rfl,-⟩:=hacc5.out.slice
      clear hown5 hgrow5
      go_wp2_with fail
      go_roundw
      case rel=>exact ⟨j+1,d/10,_,_,_,_,by go_num,by omega,rfl,rfl,hnext,hacc5⟩
      case measure=>simp [intOf];omega
  ·obtain rfl:i=k+1:=by omega
   have hrev:Hid (b.reverse=decDigits (val B9 l)):=hiD (hinv.out.2.2 (by omega))
   have hblen:Hid (b.length≤9*(k+1)):=hiD hinv.out.1
   have hbpos:Hid (0<b.length):=hiD (by
    have h:=congrArg List.length hrev.out
    rw [List.length_reverse,decDigits_length] at h
    have:=nDigits_pos (val B9 l);omega)
   obtain ⟨pb',cb',he,hcells⟩:=hacc.out.slice
   obtain ⟨gb,rfl,hgb,hgb2,hcell⟩:=hcells hbpos.out
   cases he
   have Hcell:=hiD hcell
   have hmi:(b.length:Int)≤9000000:=by have:=hblen.out;omega
   have Hb:=hiD hacc.out.below
   have Hgb:=hiD hgb2
   clear hinv hacc hcell hcells hgb2
   obtain ⟨B5,hB5⟩:∃ B5,B5=wr.heap.size:=⟨_,rfl⟩
   have HB5:=hiD hB5
   clear hB5
   go_wp2_with (at_make;refine wpList_make_own _ rfl _ _ 128 rfl wr.heap.size 5 i0 (.int .u8 0) 1 underlying159 hi hz0 hz1 _ _ _ b.length rfl rfl rfl ?d2 ?d3 (Nat.le_refl _) ?_)
   case d2=>rw [hz2];omega
   case d3=>unfold maxLen;omega
   intro w5 hown5 hgrow5
   have hacc5:Hid (AccB B5 wr w5 (.slice (some ⟨wr.heap.size,0,none⟩) 0 b.length) (b.drop b.length).reverse):=hiD (by
    rw [List.drop_eq_nil_of_le (Nat.le_refl _)]
    rw [HB5.out]
    exact ⟨hown5,(Below.refl _ _).grown hgrow5 (Nat.le_refl _) (fun k h=>by cases h)⟩)
   have Hb5:Hid (w.heap.size≤B5):=hiD (by rw [HB5.out];exact Hb.out.size)
   have HgB:Hid (gb<B5):=hiD (by rw [HB5.out];exact Hgb.out)
   clear hown5 hgrow5
   go_wp2_with fail
   go_loopw [7,8] (fun ov iv w2=>∃ (j:Nat) (z:Int) (po:Option Addr) (no co:Nat),j≤b.length∧iv=.int .i64 z∧z+1=j∧ov=.slice po no co∧Hid (AccB B5 wr w2 ov (b.drop j).reverse)) (fun _ iv _=>(intOf iv+1).toNat)
   case atStart=>exact ⟨b.length,(b.length:Int)-1,_,_,_,Nat.le_refl _,rfl,by omega,rfl,hacc5⟩
   case round =>
    obtain ⟨j,z,po,no,co,hjm,rfl,hz,rfl,hac⟩:=hrel
    by_cases h0:j=0
    ·obtain rfl:z=-1:=by omega
     subst h0
     obtain ⟨po',co',he,hoc⟩:=hac.out.slice
     have hol:Hid ((b.drop 0).reverse=decDigits (val B9 l)):=hiD (by rw [List.drop_zero];exact hrev.out)
     obtain ⟨go,rfl,_,_,hocell⟩:=hoc (by rw [hol.out,decDigits_length];exact nDigits_pos _)
     cases he
     have hconv:(convert 128 9 (.slice (some ⟨go,0,none⟩) b.length co)).run Tryz.prog wr=.ok (.string ⟨(decDigits (val B9 l)).toArray⟩) wr:=by
      have e:b.length=(b.drop 0).reverse.length:=by simp
      rw [e,run_convert_bytes_back _ 128 9 5 ⟨go,0,none⟩ co (b.drop 0).reverse underlying159 underlying5 underlying9' (fun j hj=>by
       have e2:(⟨go,0,none⟩:Addr).add j=⟨go,j,none⟩:=by
        simp only [Addr.add];split
        ·rename_i h0;subst h0;rfl
        ·simp
       rw [e2];exact hocell j hj),hol.out]
     have Hconv:=hiD hconv
     have Hfin:=hiD (Hb.out.trans (hac.out.below.mono Hb5.out))
     clear hz hoc hocell hconv hac
     go_wp2_with fail
     rw [Hconv.out]
     go_wp2_with fail
     go_ret
     exact ⟨rfl,Hfin.out⟩
    ·obtain ⟨i,rfl⟩:∃ i:Nat,z=i:=⟨z.toNat,by omega⟩
     obtain rfl:j=i+1:=by omega
     clear hz h0
     have hilt:i<b.length:=by omega
     have hii:(i:Int)<b.length:=by omega
     obtain ⟨cd,hcd⟩:∃ cd:UInt8,Hid (b[i]=cd):=⟨_,hiD rfl⟩
     have hc2:wr.cell? ⟨gb,i,none⟩=some (.int .u8 (cd.toNat:Int)):=by
      rw [← hcd.out,← Hcell.out i hilt]
      exact hac.out.below.cell (p:=⟨gb,i,none⟩) HgB.out
     have hgbs:Hid (b.drop i=cd::b.drop (i+1)):=hiD (by rw [List.drop_eq_getElem_cons hilt,hcd.out])
     have hlen:Hid ((b.drop (i+1)).reverse.length+1≤maxLen∧((b.drop (i+1)).reverse.length+1)*1≤140737488355328):=hiD (by
      rw [List.length_reverse,List.length_drop];unfold maxLen;omega)
     have hsz:Hid (B5≤wr.heap.size∧B5≤wr.heap.size+1):=hiD (by
      have h1:=hac.out.below.size
      have h2:=HB5.out
      omega)
     go_wp2_with (at_builtin;refine wpList_append_own _ rfl (.tmp 58) (.tmp 63) 128 rfl B5 5 i0 (.int .u8 0) 1 1 underlying159 hi hz0 hz1 hz2 rfl (by decide) _ _ _ rfl ((hac.out.own).alloc _) ⟨_,0,none⟩ 1 1 [.int .u8 (cd.toNat:Int)] rfl rfl (cell_one_new _ _ _) (by intro u hu;simp at hu;subst hu;rfl) hlen.out.1 hlen.out.2 (by simp;exact hsz.out.2) ?_)
     intro v6 w6 hown6 hgrow6 _
     have hac6:=hiD (hac.out.next (c:=cd) hsz.out.1 (by simp) hown6 hgrow6)
     have e6:(b.drop (i+1)).reverse++[cd]=(b.drop i).reverse:=by rw [hgbs.out];simp
     rw [e6] at hac6
     obtain ⟨p6,c6,rfl,-⟩:=hac6.out.slice
     clear hown6 hgrow6
     go_wp2_with fail
     go_roundw
     case rel=>exact ⟨i,(i:Int)-1,_,_,_,by omega,rfl,by omega,rfl,hac6⟩
     case measure=>simp [intOf]
theorem natText_any (v:Value) (x K:Nat) (w:World) (hK:K≤900000) (hx:x<B9^K) (hv:Nat9 w v x):Calls Tryz.prog 148 #[v] w fun e w'=>e=.returned (.string ⟨(decDigits x).toArray⟩)∧Below w.heap.size w w':=by
 obtain ⟨p,n,c,l,rfl,h1,h2,h3,h4⟩:=hv
 by_cases h0:n=0
 ·subst h0
  have hl:l=[]:=List.eq_nil_of_length_eq_zero h2.len
  subst hl
  have hx0:x=0:=h4.symm
  subst hx0
  have hd:decDigits 0=[48]:=by rw [decDigits_one (by omega)];rfl
  rw [hd]
  clear h1 h2 h3 h4 hx
  go_enter Tryz.func148,Tryz.ntmps148
  go_wp2_with fail
  go_ret
  exact ⟨rfl,Below.refl _ _⟩
 ·obtain ⟨k,rfl⟩:∃ k,n=k+1:=⟨n-1,by omega⟩
  have:=pow9 h3 h4 hx h2
  rw [← h4]
  exact natText_pos p k c l w (by omega) h2 h3
end Go.Proofs.YtlcpcpmlfegejaaGreatDoor
set_option maxHeartbeats 3200000
set_option maxRecDepth 100000
namespace Go.Proofs.YtlcpcpmlfegejaaGreatDoor
open Go.Lib Big
def cntD (l:List UInt8):Nat:=(l.takeWhile isDig).length
end Go.Proofs.YtlcpcpmlfegejaaGreatDoor
namespace Go.Proofs.YtlcpcpmlfegejaaGreatDoor
open Go.RowKit Go.Lib Big
end Go.Proofs.YtlcpcpmlfegejaaGreatDoor
set_option maxHeartbeats 1600000
set_option maxRecDepth 100000
namespace Go.Proofs.YtlcpcpmlfegejaaGreatDoor
open Go.RowKit Go.Lib Big
abbrev Blk:=Nat × Array Value × TypeId
section
variable {w0 W W' : World} {L : List Blk}
end
theorem tw_len (p:UInt8→Bool) (l:List UInt8) (k:Nat) (hk:k≤l.length) (ha:(l.take k).all p=true) (hs:k=l.length∨∃ h:k<l.length,p l[k]=false):(l.takeWhile p).length=k:=by
 induction l generalizing k with
 | nil=>simp at hk;simp [hk]
 | cons x l ih =>
  cases k with
  | zero =>
   rcases hs with hs|⟨h,hs⟩
   ·simp at hs
   ·have:p x=false:=hs
    simp [this]
  | succ k =>
   rw [List.take_succ_cons,List.all_cons,Bool.and_eq_true] at ha
   rw [List.takeWhile_cons,if_pos ha.1,List.length_cons,ih k (by simpa using hk) ha.2]
   rcases hs with hs|⟨h,hs⟩
   ·exact .inl (by simpa using hs)
   ·exact .inr ⟨by simpa using h,by simpa using hs⟩
theorem all_take_succ' (p:UInt8→Bool) (l:List UInt8) (k:Nat) (h:k<l.length) (ha:(l.take k).all p=true) (hd:p l[k]=true):(l.take (k+1)).all p=true:=by
 rw [List.take_succ_eq_append_getElem h,List.all_append,ha];simp [hd]
end Go.Proofs.YtlcpcpmlfegejaaGreatDoor
