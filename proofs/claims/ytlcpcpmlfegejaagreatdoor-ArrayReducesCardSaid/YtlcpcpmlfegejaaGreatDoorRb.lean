/- The document's NatSub, small. -/
import Derived.Test.YtlcpcpmlfegejaaGreatDoorRa
set_option maxHeartbeats 3200000
set_option maxRecDepth 100000
namespace Go.Proofs.YtlcpcpmlfegejaaGreatDoor
open Go.RowKit Big
structure SubInv9 (x y:List Nat) (k d:Nat) (L:List Nat):Prop where
 len:L.length=k
 dig:Dig B9 L
 owe:d≤1
 eq:val B9 L+val B9 (y.take k)=val B9 (x.take k)+B9^k*d
theorem SubInv9.start (x y:List Nat):SubInv9 x y 0 0 []:=⟨rfl,Dig.nil _,by omega,by simp [val]⟩
theorem SubInv9.step {x y:List Nat} {k d:Nat} {L:List Nat} (h:SubInv9 x y k d L) (_dx:Dig B9 x) (_dy:Dig B9 y) (a b s d':Nat) (ha:x.getD k 0=a) (hb:y.getD k 0=b) (hs:s+b+d=a+1000000000*d') (hd:d'≤1) (hs9:s<1000000000) :
  SubInv9 x y (k+1) d' (L++[s]):=by
 refine ⟨by rw [List.length_append,h.len];rfl,h.dig.append (Dig.one (by rw [B9_eq];exact hs9)),hd,?_⟩
 rw [val_snoc,h.len,val_take_succD,val_take_succD,ha,hb,Nat.pow_succ]
 exact less_step h.eq (by rw [B9_eq];exact hs)
theorem SubInv9.done {x y:List Nat} {k d:Nat} {L:List Nat} (h:SubInv9 x y k d L) (h1:x.length=k) (h2:y.length≤k) (hle:val B9 y≤val B9 x):val B9 L=val B9 x-val B9 y:=by
 have h3:=h.eq
 rw [List.take_of_length_le (by omega),List.take_of_length_le (by omega)] at h3
 have h4:=val_lt L h.dig
 rw [h.len] at h4
 have h5:d=0:=by
  apply Nat.eq_zero_of_not_pos;intro h6
  have:B9^k*1≤B9^k*d:=Nat.mul_le_mul_left _ h6
  omega
 subst h5
 omega
theorem natSub_any (p:Option Addr) (n c0:Nat) (x:List Nat) (q:Option Addr) (m d0:Nat) (y:List Nat) (w:World) (hn0:n≤most) (hmn:m≤n) (hx:Rd w p n x) (hy:Rd w q m y) (dx:Dig B9 x) (dy:Dig B9 y) (hle:val B9 y≤val B9 x) :
  Calls Tryz.prog 122 #[.slice p n c0,.slice q m d0] w (Post9 (val B9 x-val B9 y) w):=by
 obtain ⟨i0,hi,hz0,hz1,hz2⟩:=info_parts info79
 have hn:(n:Int)≤4294967296:=by unfold most at hn0;omega
 have hm:(m:Int)≤n:=by omega
 have HX:=hiD dx
 have HY:=hiD dy
 have Hle:=hiD hle
 clear dx dy hle
 go_enter Tryz.func122,Tryz.ntmps122
 go_wp2_with (at_make;refine wpList_make_own _ rfl _ _ 98 rfl w.heap.size 137 i0 (.int .u64 0) 1 underlying36 hi hz0 hz1 _ _ _ n rfl rfl rfl ?b2 ?b3 (Nat.le_refl _) ?_)
 case b2=>rw [hz2];omega
 case b3=>unfold maxLen;omega
 intro w1 hown hgrow
 have hacc0:Hid (Acc w w1 (.slice (some ⟨w.heap.size,0,none⟩) 0 n) []):=hiD ⟨hown,(Below.refl _ _).grown hgrow (Nat.le_refl _) (fun k h=>by cases h)⟩
 clear hown hgrow
 go_wp2_with fail
 go_loopw [5,6,15] (fun ov dv iv wr=>∃ (k d:Nat) (L:List Nat),dv=.int .u64 d∧iv=.int .i64 k∧Hid (SubInv9 x y k d L∧k≤n)∧Hid (Acc w wr ov L)) (fun _ _ iv _=>n-(intOf iv).toNat)
 case atStart=>exact ⟨0,0,[],rfl,rfl,hiD ⟨SubInv9.start x y,Nat.zero_le _⟩,hacc0⟩
 case round =>
  obtain ⟨k,d,L,rfl,rfl,hinv,hacc⟩:=hrel
  obtain ⟨po,no,co,hov,hno⟩:∃ p n c,u5=.slice p n c∧n=L.length:=by
   obtain ⟨p,c,h,_⟩:=own_rd hacc.out.own;exact ⟨_,_,_,h,rfl⟩
  have hlx:Hid (x.length=n):=hiD hx.len
  have hly:Hid (y.length=m):=hiD hy.len
  have hlen:Hid (L.length+1≤maxLen∧(L.length+1)*8≤140737488355328∧w.heap.size≤wr.heap.size+1):=hiD (by
   have h1:=hinv.out.1.len
   have h2:=hinv.out.2
   have h:=hacc.out.below.size
   unfold maxLen;omega)
  have hkn:(k:Int)≤n:=by have:=hinv.out.2;omega
  by_cases h1:k<n
  ·subst hov
   clear hno
   have e1:(k:Int)<n:=by omega
   have hdb:(d:Int)≤1:=by have:=hinv.out.1.owe;omega
   obtain ⟨b1,o1,a,rfl,hb1,hc1,ha⟩:=hx.at (k:=k) (by omega)
   have g1:wr.cell? ⟨b1,o1+k,none⟩=some (.int .u64 (a:Int)):=(hacc.out.below.cell (p:=⟨b1,o1+k,none⟩) hb1).trans hc1
   have da:(a:Int)≤999999999:=by have h:=HX.out.getD B9_pos k;rw [ha.out,B9_eq] at h;omega
   by_cases h2:k<m
   ·have e2:(k:Int)<m:=by omega
    obtain ⟨b2,o2,b,rfl,hb2,hc2,hb⟩:=hy.at (k:=k) (by omega)
    have g2:wr.cell? ⟨b2,o2+k,none⟩=some (.int .u64 (b:Int)):=(hacc.out.below.cell (p:=⟨b2,o2+k,none⟩) hb2).trans hc2
    have db:(b:Int)≤999999999:=by have h:=HY.out.getD B9_pos k;rw [hb.out,B9_eq] at h;omega
    by_cases h3:a<d+b
    ·have e3:((a:Int)<(d:Int)+b):=by omega
     obtain ⟨s,hs⟩:∃ s:Nat,(s:Int)=(a:Int)+1000000000-((d:Int)+b):=⟨(a+1000000000-(d+b)),by omega⟩
     have hstep:=hiD (hinv.out.1.step HX.out HY.out a b s 1 ha.out hb.out (by omega) (by omega) (by omega))
     have hw1:(a:Int)+1000000000-((d:Int)+b)=(s:Int):=by omega
     clear hs
     go_wp2_with (at_builtin;refine wpList_append_own _ rfl (.tmp 38) (.tmp 42) 98 rfl w.heap.size 137 i0 (.int .u64 0) 1 8 underlying36 hi hz0 hz1 hz2 rfl (by decide) _ _ _ rfl ((hacc.out.own).alloc _) ⟨_,0,none⟩ 1 1 [.int .u64 (s:Int)] rfl rfl (cell_one_new _ _ _) (by intro u hu;simp at hu;subst hu;rfl) hlen.out.1 hlen.out.2.1 (by simp;exact hlen.out.2.2) ?_)
     intro v5 w5 hown5 hgrow5 _
     have hnext:=hiD (hacc.out.next rfl hown5 hgrow5)
     clear hown5 hgrow5
     go_wp2_with fail
     go_roundw
     case rel=>exact ⟨k+1,_,_,rfl,by go_num,hiD ⟨hstep.out,by omega⟩,hnext⟩
     case measure=>simp [intOf];omega
    ·have e3:¬ ((a:Int)<(d:Int)+b):=by omega
     obtain ⟨s,hs⟩:∃ s:Nat,(s:Int)=(a:Int)-((d:Int)+b):=⟨(a-(d+b)),by omega⟩
     have hstep:=hiD (hinv.out.1.step HX.out HY.out a b s 0 ha.out hb.out (by omega) (by omega) (by omega))
     have hw1:(a:Int)-((d:Int)+b)=(s:Int):=by omega
     clear hs
     go_wp2_with (at_builtin;refine wpList_append_own _ rfl (.tmp 38) (.tmp 42) 98 rfl w.heap.size 137 i0 (.int .u64 0) 1 8 underlying36 hi hz0 hz1 hz2 rfl (by decide) _ _ _ rfl ((hacc.out.own).alloc _) ⟨_,0,none⟩ 1 1 [.int .u64 (s:Int)] rfl rfl (cell_one_new _ _ _) (by intro u hu;simp at hu;subst hu;rfl) hlen.out.1 hlen.out.2.1 (by simp;exact hlen.out.2.2) ?_)
     intro v5 w5 hown5 hgrow5 _
     have hnext:=hiD (hacc.out.next rfl hown5 hgrow5)
     clear hown5 hgrow5
     go_wp2_with fail
     go_roundw
     case rel=>exact ⟨k+1,_,_,rfl,by go_num,hiD ⟨hstep.out,by omega⟩,hnext⟩
     case measure=>simp [intOf];omega
   ·have e2:¬ (k:Int)<m:=by omega
    obtain ⟨b,hb,hb0⟩:∃ b,Hid (y.getD k 0=b)∧b=0:=⟨_,hiD rfl,by rw [List.getD_eq_getElem?_getD,List.getElem?_eq_none (by rw [hly.out];omega)];rfl⟩
    by_cases h3:a<d
    ·have e3:((a:Int)<(d:Int)):=by omega
     obtain ⟨s,hs⟩:∃ s:Nat,(s:Int)=(a:Int)+1000000000-((d:Int)):=⟨(a+1000000000-(d)),by omega⟩
     have hstep:=hiD (hinv.out.1.step HX.out HY.out a b s 1 ha.out hb.out (by omega) (by omega) (by omega))
     clear hb0
     have hw1:(a:Int)+1000000000-((d:Int))=(s:Int):=by omega
     clear hs
     go_wp2_with (at_builtin;refine wpList_append_own _ rfl (.tmp 38) (.tmp 42) 98 rfl w.heap.size 137 i0 (.int .u64 0) 1 8 underlying36 hi hz0 hz1 hz2 rfl (by decide) _ _ _ rfl ((hacc.out.own).alloc _) ⟨_,0,none⟩ 1 1 [.int .u64 (s:Int)] rfl rfl (cell_one_new _ _ _) (by intro u hu;simp at hu;subst hu;rfl) hlen.out.1 hlen.out.2.1 (by simp;exact hlen.out.2.2) ?_)
     intro v5 w5 hown5 hgrow5 _
     have hnext:=hiD (hacc.out.next rfl hown5 hgrow5)
     clear hown5 hgrow5
     go_wp2_with fail
     go_roundw
     case rel=>exact ⟨k+1,_,_,rfl,by go_num,hiD ⟨hstep.out,by omega⟩,hnext⟩
     case measure=>simp [intOf];omega
    ·have e3:¬ ((a:Int)<(d:Int)):=by omega
     obtain ⟨s,hs⟩:∃ s:Nat,(s:Int)=(a:Int)-((d:Int)):=⟨(a-(d)),by omega⟩
     have hstep:=hiD (hinv.out.1.step HX.out HY.out a b s 0 ha.out hb.out (by omega) (by omega) (by omega))
     clear hb0
     have hw1:(a:Int)-((d:Int))=(s:Int):=by omega
     clear hs
     go_wp2_with (at_builtin;refine wpList_append_own _ rfl (.tmp 38) (.tmp 42) 98 rfl w.heap.size 137 i0 (.int .u64 0) 1 8 underlying36 hi hz0 hz1 hz2 rfl (by decide) _ _ _ rfl ((hacc.out.own).alloc _) ⟨_,0,none⟩ 1 1 [.int .u64 (s:Int)] rfl rfl (cell_one_new _ _ _) (by intro u hu;simp at hu;subst hu;rfl) hlen.out.1 hlen.out.2.1 (by simp;exact hlen.out.2.2) ?_)
     intro v5 w5 hown5 hgrow5 _
     have hnext:=hiD (hacc.out.next rfl hown5 hgrow5)
     clear hown5 hgrow5
     go_wp2_with fail
     go_roundw
     case rel=>exact ⟨k+1,_,_,rfl,by go_num,hiD ⟨hstep.out,by omega⟩,hnext⟩
     case measure=>simp [intOf];omega
  ·have hkeq:k=n:=by omega
   have ht:Hid (Calls Tryz.prog 151 #[.slice po no co] wr (Post9 (val B9 x-val B9 y) w)):=hiD (by
    obtain ⟨p',c',h,hnc,hr,hf⟩:=own_rd hacc.out.own
    rw [hov] at h
    cases h
    have hval:=hinv.out.1.done (by rw [hlx.out];omega) (by rw [hly.out];omega) Hle.out
    rw [← hval]
    exact (trim_any _ _ _ L wr (by have:=hlen.out.1;omega) hnc.1 hr).mono fun _ _ h=>trim_post9 hnc hf hr hinv.out.1.dig hacc.out.below h)
   subst hov
   clear hno
   go_wp2_with fail
   refine ht.out.mono ?_
   rintro e w4 ⟨v,rfl,hv⟩
   go_wp2_with fail
   go_ret
   exact ⟨v,rfl,hv⟩
theorem natSub_nat (u v:Value) (a b K:Nat) (w:World) (hK:K≤most) (ha:a<B9^K) (hle:b≤a) (hu:Nat9 w u a) (hv:Nat9 w v b):Calls Tryz.prog 122 #[u,v] w (Post9 (a-b) w):=by
 obtain ⟨p,n,c,x,rfl,h1,h2,h3,h4⟩:=hu
 obtain ⟨q,m,d,y,rfl,g1,g2,g3,g4⟩:=hv
 have hn:=pow9 h3 h4 ha h2
 have hm:m≤n:=by
  have:=Canon.length_le g3 h3.1 (by rw [h4,g4];exact hle)
  rw [h2.len,g2.len] at this;exact this
 subst h4 g4
 exact natSub_any p n c x q m d y w (by omega) hm h2 g2 h3.1 g3.1 hle
theorem small_step {q w r r' a X Y B:Nat} (h:q*w+r'=r*B+a) (hX:Y*w+r=X):(q+B*Y)*w+r'=a+B*X:=by
 subst hX;grind
def SmallPost (x d:Nat) (w:World) (e:Ending) (w':World):Prop :=
 ∃ v,e=.returned (.tuple #[v,.int .u64 ((x%d:Nat):Int)])∧Nat9 w' v (x/d)∧Below w.heap.size w w'∧Fresh w.heap.size v
theorem small_any (p:Option Addr) (n c:Nat) (x:List Nat) (d:Nat) (w:World) (hn0:n≤most) (hx:Rd w p n x) (dx:Dig B9 x) (hd:0<d) (hdB:d<B9) :
  Calls Tryz.prog 182 #[.slice p n c,.int .u64 d] w (SmallPost (val B9 x) d w):=by
 obtain ⟨i0,hi,hz0,hz1,hz2⟩:=info_parts info79
 have hn:(n:Int)≤4294967296:=by unfold most at hn0;omega
 go_enter Tryz.func182,Tryz.ntmps182
 go_wp2_with (at_make;refine wpList_make_full _ rfl _ _ 98 rfl w.heap.size 137 i0 (.int .u64 0) 1 underlying36 hi hz0 hz1 _ _ _ _ n rfl rfl (by omega) (by omega) ?b2 ?b3 (Nat.le_refl _) ?_)
 case b2=>rw [hz2];unfold most at hn0;omega
 case b3=>unfold maxLen;unfold most at hn0;omega
 intro w1 hown hgrow
 have hr1:Row w1 w.heap.size 137 (List.replicate n 0):=row_of_made hown
 have hb1:Below w.heap.size w w1:=(Below.refl _ _).grown hgrow (Nat.le_refl _) (fun k h=>by cases h)
 clear hown hgrow
 have hlx:Hid (x.length=n):=hiD hx.len
 have hd9:(d:Int)≤999999999:=by rw [B9_eq] at hdB;omega
 have hd0:(1:Int)≤d:=by omega
 have hdne:((d:Int)==0)=false:=by simp;omega
 go_wp2_with fail
 go_loopw [7,8] (fun rv i wr=>∃ (k:Nat) (z:Int) (r:Nat) (L:List Nat),k≤n∧i=.int .i64 z∧z+1=k∧rv=.int .u64 r∧Hid (r<d∧L.length=n∧Dig B9 (L.drop k)∧val B9 (L.drop k)*d+r=val B9 (x.drop k))∧Row wr w.heap.size 137 L∧Below w.heap.size w wr) (fun _ i _=>(intOf i+1).toNat)
 case atStart=>exact ⟨n,(n:Int)-1,0,_,Nat.le_refl _,rfl,by omega,rfl,hiD ⟨hd,by simp,by rw [List.drop_of_length_le (by simp)];exact Dig.nil _,by rw [List.drop_of_length_le (by simp),List.drop_of_length_le (by rw [hlx.out];omega)];simp [val]⟩,hr1,hb1⟩
 case round =>
  obtain ⟨k,z,r,L,hk,rfl,hz,rfl,hinv,hr,hb⟩:=hrel
  by_cases h0:k=0
  ·obtain rfl:z=-1:=by omega
   subst h0
   have hfin:Hid (val B9 L=val B9 x/d∧r=val B9 x%d∧Dig B9 L∧L.length=n):=by
    obtain ⟨g1,g2,g3,g4⟩:=hinv.out
    rw [List.drop_zero] at g3 g4
    rw [List.drop_zero] at g4
    refine ⟨?_,?_,g3,g2⟩
    ·rw [← g4,Nat.mul_comm,Nat.mul_add_div hd,Nat.div_eq_of_lt g1];rfl
    ·rw [← g4,Nat.mul_comm,Nat.mul_add_mod,Nat.mod_eq_of_lt g1]
   have hrd:=hr.rd0 n hfin.out.2.2.2.symm
   have ht:Hid (Calls Tryz.prog 151 #[.slice (some ⟨w.heap.size,0,none⟩) n n] wr (Post9 (val B9 L) w)):=hiD ((trim_any _ n n L wr (by unfold maxLen;omega) (Nat.le_refl _) hrd).mono fun _ _ h=>trim_post9 ⟨Nat.le_refl _,fun h=>by cases h⟩ (fun b o h=>by cases h;exact Nat.le_refl _) hrd hfin.out.2.2.1 hb h)
   clear hz hrd
   go_wp2_with fail
   refine ht.out.mono ?_
   rintro e w4 ⟨v,rfl,hv,hb4⟩
   rw [hfin.out.1] at hv
   rw [hfin.out.2.1]
   go_wp2_with fail
   go_ret2
   exact ⟨v,rfl,hv,hb4⟩
  ·obtain ⟨j,rfl⟩:∃ j:Nat,z=j:=⟨z.toNat,by omega⟩
   obtain rfl:k=j+1:=by omega
   clear hz h0
   obtain ⟨b1,o1,a,rfl,hb1',hc1,ha⟩:=hx.at (k:=j) (by omega)
   have hc:wr.cell? ⟨b1,o1+j,none⟩=some (.int .u64 (a:Int)):=(hb.cell (p:=⟨b1,o1+j,none⟩) hb1').trans hc1
   have hf:=hr.free j
   have hcell:=hr.cell j (by rw [hinv.out.2.1];omega)
   have da:(a:Int)≤999999999:=by have h:=dx.getD B9_pos j;rw [ha.out,B9_eq] at h;omega
   have hrb:(r:Int)≤999999998:=by have:=hinv.out.1;omega
   obtain ⟨q,hq⟩:∃ q:Nat,Hid (q=(r*1000000000+a)/d):=⟨_,hiD rfl⟩
   obtain ⟨r',hr'⟩:∃ r':Nat,Hid (r'=(r*1000000000+a)%d):=⟨_,hiD rfl⟩
   have he:q*d+r'=r*B9+a:=by rw [hq.out,hr'.out,B9_eq,Nat.mul_comm];exact Nat.div_add_mod _ _
   have hlt:r'<d:=by rw [hr'.out];exact Nat.mod_lt _ hd
   have hqB:q<B9:=by
    apply Nat.lt_of_mul_lt_mul_right (a:=d)
    have h1:=hinv.out.1
    have h2:(r+1)*B9≤d*B9:=Nat.mul_le_mul_right _ h1
    have h3:(r+1)*B9=r*B9+B9:=by grind
    have h4:B9*d=d*B9:=Nat.mul_comm _ _
    have h5:=B9_eq
    omega
   have hw1:((r:Int)*1000000000+a)/d=(q:Int):=by rw [hq.out,Int.natCast_ediv,Int.natCast_add,Int.natCast_mul];rfl
   have hw2:((r:Int)*1000000000+a)%d=(r':Int):=by rw [hr'.out,Int.natCast_emod,Int.natCast_add,Int.natCast_mul];rfl
   have hj:(j:Int)<n:=by omega
   have hinv':Hid (r'<d∧(L.set j q).length=n∧Dig B9 ((L.set j q).drop j)∧val B9 ((L.set j q).drop j)*d+r'=val B9 (x.drop j)):=by
    obtain ⟨g1,g2,g3,g4⟩:=hinv.out
    have hjl:j<(L.set j q).length:=by rw [List.length_set];omega
    have hd1:(L.set j q).drop (j+1)=L.drop (j+1):=by rw [List.drop_set_of_lt (by omega)]
    have hgj:(L.set j q).getD j 0=q:=by rw [List.getD_eq_getElem?_getD,List.getElem?_set_self (by omega)];rfl
    refine ⟨hlt,by rw [List.length_set];exact g2,?_,?_⟩
    ·rw [List.drop_eq_getElem_cons hjl,hd1]
     have:(L.set j q)[j]=q:=by simp
     rw [this]
     exact (Dig.one hqB).append g3
    ·rw [val_drop_D,hd1,hgj,val_drop_D B9 x j,ha.out]
     exact small_step he g4
   clear he hlt hqB hc1
   go_wp2_with fail
   go_roundw
   case rel=>exact ⟨j,(j:Int)-1,r',_,by omega,rfl,by omega,by rw [hw2],hinv',hr.set _ _,hb.setCell (Nat.le_refl _) _⟩
   case measure=>simp [intOf]
structure MulIn9 (L0:List Nat) (i x:Nat) (y:List Nat) (k c:Nat) (L:List Nat):Prop where
 put:Put L0 i k L
 dig:Dig B9 L
 car:c<B9
 eq:val B9 (seg L i k)+B9^k*c=val B9 (seg L0 i k)+val B9 (y.take k)*x
theorem MulIn9.start {L0:List Nat} (h:Dig B9 L0) (i x:Nat) (y:List Nat):MulIn9 L0 i x y 0 0 L0 :=
 ⟨Put.refl _ _,h,B9_pos,by simp [seg_zero,val]⟩
theorem MulIn9.step {L0 L:List Nat} {i x k c:Nat} {y:List Nat} (h:MulIn9 L0 i x y k c L) (hk:i+k<L0.length) (a b:Nat) (ha:L.getD (i+k) 0=a) (hb:y.getD k 0=b) (dx:x<B9) (db:b<B9) :
  MulIn9 L0 i x y (k+1) ((a+x*b+c)/B9) (L.set (i+k) ((a+x*b+c)%B9)):=by
 have hlen:=h.put.length
 have ha9:a<B9:=by rw [← ha];exact h.dig.getD B9_pos _
 have ha0:L0.getD (i+k) 0=a:=by rw [← h.put.getD (i+k) (Nat.le_refl _)];exact ha
 have hm:(a+x*b+c)%B9+B9*((a+x*b+c)/B9)=a+b*x+c:=by
  rw [Nat.mod_add_div,Nat.mul_comm x b]
 refine ⟨h.put.set _,h.dig.set _ _ (Nat.mod_lt _ B9_pos),?_,?_⟩
 ·rw [Nat.div_lt_iff_lt_mul B9_pos]
  have h1:x*b≤(B9-1)*(B9-1):=Nat.mul_le_mul (by omega) (by omega)
  have h2:(B9-1)*(B9-1)+2*(B9-1)<B9*B9:=by rw [B9_eq];decide
  have h3:=h.car
  omega
 ·rw [h.put.seg_set (by omega),val_snoc,seg_length _ _ _ (by omega),seg_succ L0 i k hk,val_snoc,seg_length _ _ _ (by omega),ha0,val_take_succD,hb,Nat.pow_succ]
  exact addmul_step h.eq hm
structure MulInv9 (x y:List Nat) (i:Nat) (L:List Nat):Prop where
 len:L.length=x.length+y.length
 dig:Dig B9 L
 eq:val B9 (seg L 0 (y.length+i))=val B9 y*val B9 (x.take i)
 zero:∀ j,y.length+i≤j→j<x.length+y.length→L.getD j 0=0
theorem MulInv9.start (x y:List Nat):MulInv9 x y 0 (List.replicate (x.length+y.length) 0) :=
 ⟨by simp,Dig.zeros B9_pos _,by simp [seg,val,val_zeros],fun j _ h=>by simp [List.getD_eq_getElem?_getD,h]⟩
theorem seg_split (M:List Nat) (a b:Nat):seg M 0 (a+b)=seg M 0 a++seg M a b:=by
 simp only [seg,List.drop_zero];rw [List.take_add]
theorem MulInv9.step {x y:List Nat} {i c:Nat} {L L':List Nat} (h:MulInv9 x y i L) (hi:i<x.length) (a:Nat) (ha:x.getD i 0=a) (hin:MulIn9 L i a y y.length c L') :
  MulInv9 x y (i+1) (L'.set (i+y.length) c):=by
 have hput2:=hin.put.set c
 have hlen:(L'.set (i+y.length) c).length=L.length:=hput2.length
 have hL:=h.len
 have h1:seg (L'.set (i+y.length) c) 0 (y.length+(i+1))=seg L 0 i++(seg L' i y.length++[c]):=by
  rw [show y.length+(i+1)=i+(y.length+1) from by omega,seg_split,hput2.before_seg 0 i (by omega),hin.put.seg_set (by omega)]
 have h2:seg L 0 (y.length+i)=seg L 0 i++seg L i y.length:=by rw [show y.length+i=i+y.length from by omega,seg_split]
 have hl0:(seg L 0 i).length=i:=seg_length _ _ _ (by omega)
 have hl1:(seg L' i y.length).length=y.length:=seg_length _ _ _ (by rw [hin.put.length];omega)
 refine ⟨by rw [hlen];exact hL,hin.dig.set _ _ hin.car,?_,?_⟩
 ·have h3:=h.eq
  have h4:=hin.eq
  rw [List.take_of_length_le (Nat.le_refl _)] at h4
  rw [h1,val_append,val_snoc,hl0,hl1,h4,val_take_succD,ha]
  rw [h2,val_append,hl0] at h3
  rw [Nat.mul_add,Nat.mul_add,← h3]
  grind
 ·intro j h3 h4
  rw [hput2.getD j (by omega)];exact h.zero j (by omega) h4
theorem MulInv9.done {x y:List Nat} {L:List Nat} (h:MulInv9 x y x.length L):val B9 L=val B9 x*val B9 y:=by
 have h1:=h.eq
 rw [seg_all L _ (by rw [h.len];omega),List.take_of_length_le (Nat.le_refl _)] at h1
 rw [h1,Nat.mul_comm]
theorem natMul_any (p:Option Addr) (n c0:Nat) (x:List Nat) (q:Option Addr) (m d0:Nat) (y:List Nat) (w:World) (hn0:n≤most) (hm0:m≤most) (hx:Rd w p n x) (hy:Rd w q m y) (dx:Dig B9 x) (dy:Dig B9 y) :
  Calls Tryz.prog 115 #[.slice p n c0,.slice q m d0] w (Post9 (val B9 x*val B9 y) w):=by
 obtain ⟨i0,hi,hz0,hz1,hz2⟩:=info_parts info79
 have hn:(n:Int)≤4294967296:=by unfold most at hn0;omega
 have hm:(m:Int)≤4294967296:=by unfold most at hm0;omega
 have HX:=hiD dx
 have HY:=hiD dy
 have hlx:Hid (x.length=n):=hiD hx.len
 have hly:Hid (y.length=m):=hiD hy.len
 clear dx dy
 go_enter Tryz.func115,Tryz.ntmps115
 go_wp2_with (at_make;refine wpList_make_full _ rfl _ _ 98 rfl w.heap.size 137 i0 (.int .u64 0) 1 underlying36 hi hz0 hz1 _ _ _ _ (n+m) rfl rfl (by omega) (by omega) ?b2 ?b3 (Nat.le_refl _) ?_)
 case b2=>rw [hz2];omega
 case b3=>unfold maxLen;omega
 intro w1 hown hgrow
 have hr1:Row w1 w.heap.size 137 (List.replicate (n+m) 0):=row_of_made hown
 have hb1:Below w.heap.size w w1:=(Below.refl _ _).grown hgrow (Nat.le_refl _) (fun k h=>by cases h)
 have hst:Hid (MulInv9 x y 0 (List.replicate (n+m) 0)):=hiD (by have:=MulInv9.start x y;rw [hlx.out,hly.out] at this;exact this)
 clear hown hgrow
 go_wp2_with fail
 go_loopw [20] (fun iv wr=>∃ (i:Nat) (L:List Nat),iv=.int .i64 i∧i≤n∧Hid (MulInv9 x y i L)∧Row wr w.heap.size 137 L∧Below w.heap.size w wr) (fun iv _=>n-(intOf iv).toNat)
 case atStart=>exact ⟨0,_,rfl,Nat.zero_le _,hst,hr1,hb1⟩
 case round =>
  obtain ⟨i,L,rfl,hin,hinv,hr,hb⟩:=hrel
  by_cases h1:i<n
  ·have e1:(i:Int)<n:=by omega
   obtain ⟨b1,o1,a,rfl,hb1',hc1,ha⟩:=hx.at (k:=i) (by omega)
   have g1:wr.cell? ⟨b1,o1+i,none⟩=some (.int .u64 (a:Int)):=(hb.cell (p:=⟨b1,o1+i,none⟩) hb1').trans hc1
   have da:a<B9:=by rw [← ha.out];exact HX.out.getD B9_pos i
   have da9:(a:Int)≤999999999:=by rw [B9_eq] at da;omega
   have Da:=hiD da
   have hst2:Hid (MulIn9 L i a y 0 0 L):=hiD (MulIn9.start hinv.out.dig i a y)
   clear da hc1
   go_wp2_with fail
   go_loopw [8,27] (fun cv kv w2=>∃ (k c:Nat) (L':List Nat),cv=.int .u64 c∧kv=.int .i64 k∧k≤m∧Hid (MulIn9 L i a y k c L')∧Row w2 w.heap.size 137 L'∧Below w.heap.size w w2) (fun _ kv _=>m-(intOf kv).toNat)
   case atStart=>exact ⟨0,0,L,rfl,rfl,Nat.zero_le _,hst2,hr,hb⟩
   case round =>
    obtain ⟨k,c,L',rfl,rfl,hkm,hin2,hr2,hb2⟩:=hrel
    have hl':Hid (L'.length=n+m):=hiD (by rw [hin2.out.put.length,hinv.out.len,hlx.out,hly.out])
    have hcb:(c:Int)≤999999999:=by have:=hin2.out.car;rw [B9_eq] at this;omega
    by_cases h2:k<m
    ·have e2:(k:Int)<m:=by omega
     obtain ⟨b3,o3,b,rfl,hb3',hc3,hbd⟩:=hy.at (k:=k) (by omega)
     have g2:wr.cell? ⟨b3,o3+k,none⟩=some (.int .u64 (b:Int)):=(hb2.cell (p:=⟨b3,o3+k,none⟩) hb3').trans hc3
     have db:b<B9:=by rw [← hbd.out];exact HY.out.getD B9_pos k
     have db9:(b:Int)≤999999999:=by rw [B9_eq] at db;omega
     obtain ⟨z,hz⟩:∃ z,Hid (L'.getD (i+k) 0=z):=⟨_,hiD rfl⟩
     have hcell:=hr2.cell (i+k) (by rw [hl'.out];omega)
     rw [hz.out] at hcell
     have hfree:=hr2.free (i+k)
     have hz9:(z:Int)≤999999999:=by have:=hin2.out.dig.getD B9_pos (i+k);rw [hz.out,B9_eq] at this;omega
     obtain ⟨ab,habn⟩:∃ ab:Nat,Hid (ab=a*b):=⟨_,hiD rfl⟩
     have hab:(a:Int)*b=(ab:Int):=by rw [habn.out];simp
     have hab2:(ab:Int)≤999999998000000001:=by
      have h5:a*b≤999999999*999999999:=Nat.mul_le_mul (by omega) (by omega)
      rw [habn.out];omega
     have hstep:=hiD (hin2.out.step (by rw [hinv.out.len,hlx.out,hly.out];omega) z b hz.out hbd.out Da.out db)
     rw [← habn.out] at hstep
     obtain ⟨s1,hs1⟩:∃ s1:Nat,Hid (s1=(z+ab+c)%B9):=⟨_,hiD rfl⟩
     obtain ⟨s2,hs2⟩:∃ s2:Nat,Hid (s2=(z+ab+c)/B9):=⟨_,hiD rfl⟩
     rw [← hs1.out,← hs2.out] at hstep
     have hw1:((z:Int)+ab+c)%1000000000=(s1:Int):=by rw [hs1.out,B9_eq];omega
     have hw2:((z:Int)+ab+c)/1000000000=(s2:Int):=by rw [hs2.out,B9_eq];omega
     clear db hc3
     go_wp2_with fail
     go_roundw
     case rel=>exact ⟨k+1,s2,_,by rw [hw2],by go_num,by omega,hstep,hr2.set _ _,hb2.setCell (Nat.le_refl _) _⟩
     case measure=>simp [intOf];omega
    ·obtain rfl:k=m:=by omega
     have hcell:=hr2.cell (i+k) (by rw [hl'.out];omega)
     have hfree:=hr2.free (i+k)
     have hstep:=hiD (hinv.out.step (by rw [hlx.out];omega) a ha.out (by rw [hly.out];exact hin2.out))
     rw [hly.out] at hstep
     go_wp2_with fail
     go_roundw
     case rel=>exact ⟨i+1,_,by go_num,by omega,hstep,hr2.set _ _,hb2.setCell (Nat.le_refl _) _⟩
     case measure=>simp [intOf];omega
  ·obtain rfl:i=n:=by omega
   have hrd:=hr.rd0 (i+m) (by rw [hinv.out.len,hlx.out,hly.out])
   have ht:Hid (Calls Tryz.prog 151 #[.slice (some ⟨w.heap.size,0,none⟩) (i+m) (i+m)] wr (Post9 (val B9 x*val B9 y) w)):=hiD (by
    have hd:=hinv.out
    rw [← hlx.out] at hd
    rw [← hd.done]
    exact (trim_any _ _ _ L wr (by unfold maxLen;omega) (Nat.le_refl _) hrd).mono fun _ _ h=>trim_post9 ⟨Nat.le_refl _,fun h=>by cases h⟩ (fun b o h=>by cases h;exact Nat.le_refl _) hrd hinv.out.dig hb h)
   clear hrd
   go_wp2_with fail
   refine ht.out.mono ?_
   rintro e w4 ⟨v,rfl,hv⟩
   go_wp2_with fail
   go_ret
   exact ⟨v,rfl,hv⟩
theorem natMul_nat (u v:Value) (a b K L:Nat) (w:World) (hK:K≤most) (hL:L≤most) (ha:a<B9^K) (hb:b<B9^L) (hu:Nat9 w u a) (hv:Nat9 w v b):Calls Tryz.prog 115 #[u,v] w (Post9 (a*b) w):=by
 obtain ⟨p,n,c,x,rfl,h1,h2,h3,h4⟩:=hu
 obtain ⟨q,m,d,y,rfl,g1,g2,g3,g4⟩:=hv
 have hn:=pow9 h3 h4 ha h2
 have hm:=pow9 g3 g4 hb g2
 rw [← h4,← g4]
 exact natMul_any p n c x q m d y w (by omega) (by omega) h2 g2 h3.1 g3.1
def Apart (g:Nat) (v:Value):Prop:=∀ b o n c,v=.slice (some ⟨b,o,none⟩) n c→b≠g
theorem Nat9.set {w:World} {v:Value} {x g:Nat} (h:Nat9 w v x) (ha:Apart g v) (k:Nat) (u:Value):Nat9 (w.setCell ⟨g,k,none⟩ u) v x:=by
 obtain ⟨p,n,c,l,rfl,h2,h3,h4⟩:=h
 exact ⟨p,n,c,l,rfl,h2,((Only.refl g w).setCell k u).rd h3 (.inr fun b o hp=>ha b o n c (by rw [hp])),h4⟩
theorem Nat9.apart {w:World} {v:Value} {x g:Nat} (h:Nat9 w v x) (hg:w.heap.size≤g) (hx:x≠0):Apart g v:=by
 obtain ⟨p,n,c,l,rfl,h2,h3,h4,h5⟩:=h
 intro b o n' c' e
 cases e
 have hn:0<n:=by
  apply Nat.pos_of_ne_zero;rintro rfl
  have:=h3.len
  rw [List.eq_nil_of_length_eq_zero this] at h5
  exact hx h5.symm
 obtain ⟨b',o',e',hb,_⟩:=h3.opened hn
 cases e'
 omega
theorem Fresh.apart {g B:Nat} {v:Value} (h:Fresh B v) (hg:g<B):Apart g v:=fun b o n c e=>by have:=h b o n c e;omega
theorem Nat9.pos {w:World} {v:Value} {x:Nat} (h:Nat9 w v x) (hx:x≠0):∃ b o k c l,v=.slice (some ⟨b,o,none⟩) (k+1) c∧k+1≤c∧Rd w (some ⟨b,o,none⟩) (k+1) l∧Canon B9 l∧val B9 l=x∧b<w.heap.size:=by
 obtain ⟨p,n,c,l,rfl,h2,h3,h4,h5⟩:=h
 have hn:0<n:=by
  apply Nat.pos_of_ne_zero;rintro rfl
  have:=h3.len
  rw [List.eq_nil_of_length_eq_zero this] at h5
  exact hx h5.symm
 obtain ⟨k,rfl⟩:∃ k,n=k+1:=⟨n-1,by omega⟩
 obtain ⟨b',o',e',hb,_⟩:=h3.opened hn
 cases e'
 exact ⟨b',o',k,c,l,rfl,h2.1,h3,h4,h5,hb⟩
theorem heap_new9 (W:World) (o:Obj):(W.alloc o).heap[W.heap.size]?=some o:=by show (W.heap.push _)[_]?=_;simp
def DivPost9 (a b:Nat) (w:World) (e:Ending) (w':World):Prop :=
 ∃ v r,e=.returned (.tuple #[v,r])∧Nat9 w' v (a/b)∧Nat9 w' r (a%b)∧Below w.heap.size w w'
theorem Rd.news {w w':World} {p:Option Addr} {n:Nat} {l:List Nat} (h:Rd w p n l) (hb:Below w.heap.size w w'):∀ ad,p=some ad→∀ j v,(u64s l)[j]?=some v→w'.cell? (ad.add j)=some v:=by
 intro ad hp j v hv
 have hlt:j<(u64s l).length:=(List.getElem?_eq_some_iff.1 hv).1
 obtain ⟨ad',e,hc⟩:=(h.below hb).cells (by omega)
 rw [hp] at e;cases e
 exact hc j v hv
theorem natDiv_lt (p:Option Addr) (n c0:Nat) (x:List Nat) (v:Value) (a b K:Nat) (w:World) (hK:K≤1000000) (ha:a<B9^K) (hb:b<B9^K) (hlt:a<b) (hnc:n≤c0∧(p=none→c0=0)) (hx:Rd w p n x) (cx:Canon B9 x) (hxa:val B9 x=a) (hv:Nat9 w v b) :
  Calls Tryz.prog 150 #[.slice p n c0,v] w (DivPost9 a b w):=by
 obtain ⟨i0,hi,hz0,hz1,hz2⟩:=info_parts info79
 have hcmp:Hid (∀ W,Below w.heap.size w W→Calls Tryz.prog 121 #[.slice p n c0,v] W fun e w'=>e=.returned (.int .i64 (-1))∧Below w.heap.size w w'):=hiD fun W hW=>by
  have hx2:Nat9 W (.slice p n c0) a:=Nat9.below ⟨p,n,c0,x,rfl,hnc,hx,cx,hxa⟩ hW
  have h:=natCmp_nat (.slice p n c0) v a b K W (by unfold most;omega) ha hb hx2 (hv.below hW)
  refine h.mono fun e w' h=>?_
  obtain ⟨h1,t,h2⟩:=h
  refine ⟨by rw [h1];unfold cmp3;rw [if_pos hlt],?_⟩
  rw [← h2];exact hW.trans (below_drewN _ _ _)
 have hnp:=pow9 cx hxa ha hx
 have hn1:Hid (n≤1000000):=hiD (by omega)
 obtain ⟨b1,o1,k,c1,l,rfl,hk1,-,-,-,-⟩:=hv.pos (by omega)
 have hk0:((((k+1:Nat):Int))==0)=false:=by simp;omega
 have hfin:Hid (∀ W v,W.ownsRow w.heap.size 137 1 v n (u64s x)→Below w.heap.size w W→DivPost9 a b w (.returned (.tuple #[.slice none 0 0,v])) W):=hiD fun W v hown hW=>by
  have hl:=hx.len
  rw [← hl] at hown
  obtain ⟨v',h1,h2,h3,h4⟩:=(Acc.mk hown hW).nat cx
  cases h1
  refine ⟨_,v,rfl,?_,?_,hW⟩
  ·rw [Nat.div_eq_of_lt hlt];exact Nat9.zero _
  ·rw [Nat.mod_eq_of_lt hlt,← hxa];exact h2
 have hxl:=hiD hx.len
 have Hx:=hiD hx
 have Hpc:=hiD hnc.2
 clear ha hb hlt hv cx hxa hnp hnc
 go_enter Tryz.func150,Tryz.ntmps150
 go_wp2_with fail
 refine (hcmp.out _ (Below.refl _ _)).mono ?_
 rintro e w1 ⟨rfl,hb1⟩
 have Hb1:=hiD hb1
 clear hb1
 have hown0:Hid ((w1.alloc (.cells #[] 137)).ownsRow w.heap.size 137 1 (.slice (some ⟨w1.heap.size,0,none⟩) 0 0) 0 (u64s [])):=hiD ⟨rfl,.inr ⟨w1.heap.size,0,#[],rfl,Hb1.out.size,heap_new9 _ _,Nat.le_refl _,Nat.zero_le _,rfl,rfl⟩⟩
 cases p with
 | none =>
  obtain rfl:c0=0:=Hpc.out rfl
  obtain rfl:n=0:=by
   rcases Hx.out.cell with h|⟨_,_,h,_⟩
   ·exact h
   ·cases h
  have hx0:x=[]:=List.eq_nil_of_length_eq_zero hxl.out
  have hend:=hiD (hfin.out _ _ (by rw [hx0];exact hown0.out) (Hb1.out.alloc Hb1.out.size _))
  go_wp2_with fail
  go_ret2
  exact hend.out
 | some ad =>
  have hlen:Hid (0+n≤maxLen∧(0+n)*8≤140737488355328∧w.heap.size≤(w1.alloc (.cells #[] 137)).heap.size):=hiD (by
   have:=hn1.out
   have h:=Hb1.out.size
   refine ⟨by unfold maxLen;omega,by omega,?_⟩
   simp;omega)
  have hnews:=hiD (Hx.out.news (Hb1.out.alloc Hb1.out.size (.cells #[] 137)) ad rfl)
  have hul:Hid ((u64s x).length=n*1):=hiD (by rw [u64s_length,hxl.out,Nat.mul_one])
  go_wp2_with (at_builtin;refine wpList_append_own _ rfl (.tmp 26) (.tmp 27) 98 rfl w.heap.size 137 i0 (.int .u64 0) 1 8 underlying36 hi hz0 hz1 hz2 rfl (by decide) _ _ _ rfl hown0.out ad n _ (u64s x) rfl hul.out hnews.out (u64s_one x) hlen.out.1 hlen.out.2.1 hlen.out.2.2 ?_)
  intro v5 w5 hown5 hgrow5 _
  have hend:=hiD (hfin.out w5 v5 (by simpa [u64s] using hown5) ((Hb1.out.alloc Hb1.out.size _).grown hgrow5 (by have:=Hb1.out.size;simp;omega) (fun k hk=>by cases hk;exact Hb1.out.size)))
  clear hown5 hgrow5
  go_wp2_with fail
  go_ret2
  exact hend.out
theorem natDiv_one (p:Option Addr) (n c0:Nat) (x:List Nat) (q:Option Addr) (m0 d0:Nat) (y:List Nat) (a b K:Nat) (w:World) (hK:K≤1000000) (ha:a<B9^K) (hb0:0<b) (hb:b<B9) (hle:b≤a) (hnc:n≤c0∧(p=none→c0=0)) (hx:Rd w p n x) (cx:Canon B9 x) (hxa:val B9 x=a)
  (hmc:m0≤d0∧(q=none→d0=0)) (hy:Rd w q m0 y) (cy:Canon B9 y) (hyb:val B9 y=b) :
  Calls Tryz.prog 150 #[.slice p n c0,.slice q m0 d0] w (DivPost9 a b w):=by
 have hm1:m0=1:=by
  have h1:=pow9 cy hyb (K:=1) (by rw [Nat.pow_one];exact hb) hy
  have h2:m0≠0:=by
   rintro rfl
   have:=hy.len
   rw [List.eq_nil_of_length_eq_zero this] at hyb
   simp [val] at hyb;omega
  omega
 subst hm1
 have hyl:=hy.len
 obtain ⟨bd,rfl⟩:∃ z,y=[z]:=by
  match y,hyl with
  | [z],_=>exact ⟨z,rfl⟩
 have hbd:bd=b:=by simpa [val] using hyb
 subst hbd
 obtain ⟨b1,o1,d,rfl,hb1,hc1,hd⟩:=hy.at (k:=0) (by omega)
 have hdb:d=bd:=by rw [← hd.out];rfl
 subst hdb
 have hcmp:Hid (∀ W,Below w.heap.size w W→Calls Tryz.prog 121 #[.slice p n c0,.slice (some ⟨b1,o1,none⟩) 1 d0] W fun e w'=>∃ z:Int,0≤z∧e=.returned (.int .i64 z)∧Below w.heap.size w w'):=hiD fun W hW=>by
  have hx2:Nat9 W (.slice p n c0) a:=Nat9.below ⟨p,n,c0,x,rfl,hnc,hx,cx,hxa⟩ hW
  have h:=natCmp_nat (.slice p n c0) (.slice (some ⟨b1,o1,none⟩) 1 d0) a d (K+1) W (by unfold most;omega) (by rw [Nat.pow_succ,B9_eq] at *;omega) (by
   have:B9^1≤B9^(K+1):=Nat.pow_le_pow_right B9_pos (by omega)
   rw [Nat.pow_one] at this;omega) hx2 (Nat9.below ⟨_,1,d0,[d],rfl,hmc,hy,cy,hyb⟩ hW)
  refine h.mono fun e w' h=>?_
  obtain ⟨h1,t,h2⟩:=h
  refine ⟨cmp3 a d,?_,h1,?_⟩
  ·unfold cmp3;rw [if_neg (by omega)];split<;>omega
  ·rw [← h2];exact hW.trans (below_drewN _ _ _)
 have hsm:Hid (∀ W,Below w.heap.size w W→Calls Tryz.prog 182 #[.slice p n c0,.int .u64 (d:Int)] W (SmallPost a d W)):=hiD fun W hW=>by
  have h:=small_any p n c0 x d W (by have:=pow9 cx hxa ha hx;unfold most;omega) (hx.below hW) cx.1 hb0 hb
  rw [hxa] at h;exact h
 have hno:Hid (∀ W,Calls Tryz.prog 117 #[.int .u64 ((a%d:Nat):Int)] W (Post9 (a%d) W)):=hiD fun W=>natOf_any _ W (by
  have:=Nat.mod_lt a hb0
  rw [B9_eq] at hb;omega)
 have hcell:Hid (∀ W,Below w.heap.size w W→W.cell? ⟨b1,o1+0,none⟩=some (.int .u64 (d:Int))):=hiD fun W hW=>(hW.cell (p:=⟨b1,o1+0,none⟩) hb1).trans hc1
 obtain ⟨rr,hrr⟩:∃ rr,Hid (rr=a%d):=⟨_,hiD rfl⟩
 rw [← hrr.out] at hno
 clear ha hb0 hb hle hnc hx cx hxa hmc hy cy hyb hyl hb1 hc1
 go_enter Tryz.func150,Tryz.ntmps150
 go_wp2_with fail
 refine (hcmp.out _ (Below.refl _ _)).mono ?_
 rintro e w1 ⟨z,hz,rfl,hb1⟩
 have hzl:decide (z<0)=false:=by simp;exact hz
 have Hb1:=hiD hb1
 have hc:=hcell.out w1 hb1
 rw [Nat.add_zero] at hc
 have hs1:=hsm.out w1 hb1
 have Hs1:=hiD hs1
 clear hb1 hs1 hz
 go_wp2_with fail
 refine Hs1.out.mono ?_
 rintro e w2 ⟨v,rfl,hv,hb2,_⟩
 obtain ⟨pv,nv,cv,rfl⟩:=hv.slice
 rw [← hrr.out]
 have Hv:=hiD hv
 have Hb2:=hiD (Hb1.out.trans (hb2.mono Hb1.out.size))
 clear hv hb2
 go_wp2_with fail
 refine (hno.out _).mono ?_
 rintro e w3 ⟨v3,rfl,hv3,hb3,_⟩
 obtain ⟨pv3,nv3,cv3,rfl⟩:=hv3.slice
 have hend:Hid (DivPost9 a d w (.returned (.tuple #[.slice pv nv cv,.slice pv3 nv3 cv3])) w3):=hiD ⟨_,_,rfl,Hv.out.below hb3,by rw [← hrr.out];exact hv3,Hb2.out.trans (hb3.mono Hb2.out.size)⟩
 clear hv3 hb3
 go_wp2_with fail
 go_ret2
 exact hend.out
theorem natDiv_small (u v:Value) (a b K:Nat) (w:World) (hK:K≤1000000) (hK1:1≤K) (ha:a<B9^K) (hb0:0<b) (hb:b<B9) (hu:Nat9 w u a) (hv:Nat9 w v b) :
  Calls Tryz.prog 150 #[u,v] w (DivPost9 a b w):=by
 obtain ⟨p,n,c,x,rfl,h1,h2,h3,h4⟩:=hu
 by_cases h:a<b
 ·exact natDiv_lt p n c x v a b K w hK ha (by
   have:B9^1≤B9^K:=Nat.pow_le_pow_right B9_pos hK1
   rw [Nat.pow_one] at this;omega) h h1 h2 h3 h4 hv
 ·obtain ⟨q,m,d,y,rfl,g1,g2,g3,g4⟩:=hv
  exact natDiv_one p n c x q m d y a b K w hK ha hb0 hb (by omega) h1 h2 h3 h4 g1 g2 g3 g4
end Go.Proofs.YtlcpcpmlfegejaaGreatDoor
