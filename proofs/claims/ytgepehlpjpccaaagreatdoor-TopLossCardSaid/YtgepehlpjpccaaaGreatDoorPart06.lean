/- Contracts. -/
import Derived.Test.YtgepehlpjpccaaaGreatDoorPart04
import Derived.Deep.RegionHeld3
set_option maxHeartbeats 3200000
set_option maxRecDepth 100000
namespace Go.Proofs.YtgepehlpjpccaaaGreatDoor
open Go.RowKit Big
theorem ypC {l:List Nat} (h:yU yB l) (k:Nat):l.length≤k↔val yB l<yB^k:=by
 constructor
 ·intro h1
  have h2:=vE l h.1
  have h3:yB^l.length≤yB^k:=Nat.pow_le_pow_right yR h1
  omega
 ·intro h1;exact ykI h rfl h1
def yam (a b lim:Nat) (w:World) (e:Ending) (w':World):Prop :=
 Below w.heap.size w w' ∧
 ((a/Nat.gcd a b<yB^lim∧b/Nat.gcd a b<yB^lim∧∃ v u,e=.returned (.tuple #[v,u,.bool true])∧yH w' v (a/Nat.gcd a b)∧yH w' u (b/Nat.gcd a b)) ∨
  (¬ (a/Nat.gcd a b<yB^lim∧b/Nat.gcd a b<yB^lim)∧e=.returned (.tuple #[.slice none 0 0,.slice none 0 0,.bool false])))
structure Frac (a b lim K X Y T LT U LU:Nat):Prop where
 top:a=T*X+LT*Y
 bot:b=U*X+LU*Y
 gcd:Nat.gcd X Y=Nat.gcd a b
 hX:X<yB^K
 hY:Y<yB^K
 hT:T<yB^lim
 hLT:LT<yB^lim
 hU:U<yB^lim
 hLU:LU<yB^lim
theorem Frac.start {a b lim K:Nat} (ha:a<yB^K) (hb:b<yB^K) (hl:1≤lim):Frac a b lim K a b 1 0 0 1:=by
 have h1:1<yB^lim:=by
  have:yB^1≤yB^lim:=Nat.pow_le_pow_right yR hl
  rw [Nat.pow_one,yM] at this;rw [yM];omega
 exact ⟨by omega,by omega,rfl,ha,hb,h1,by omega,by omega,h1⟩
theorem Frac.done {a b lim K X T LT U LU:Nat} (h:Frac a b lim K X 0 T LT U LU) (hb:0<b):a/Nat.gcd a b=T∧b/Nat.gcd a b=U:=by
 have hg:=h.gcd
 rw [Nat.gcd_zero_right] at hg
 have h1:=h.top
 have h2:=h.bot
 rw [Nat.mul_zero,Nat.add_zero] at h1 h2
 rw [← hg]
 have hX:0<X:=by
  apply Nat.pos_of_ne_zero;rintro rfl;omega
 exact ⟨by rw [h1,Nat.mul_div_cancel _ hX],by rw [h2,Nat.mul_div_cancel _ hX]⟩
theorem Frac.step {a b lim K X Y T LT U LU:Nat} (h:Frac a b lim K X Y T LT U LU):a=(X/Y*T+LT)*Y+T*(X%Y)∧b=(X/Y*U+LU)*Y+U*(X%Y)∧Nat.gcd Y (X%Y)=Nat.gcd a b:=by
 have hx:X=X/Y*Y+X%Y:=(Nat.div_add_mod' X Y).symm
 refine ⟨yhY h.top hx,yhY h.bot hx,?_⟩
 rw [← h.gcd,Nat.gcd_comm X Y,Nat.gcd_rec Y X,Nat.gcd_comm]
theorem Frac.next {a b lim K X Y T LT U LU:Nat} (h:Frac a b lim K X Y T LT U LU) (hY:0<Y) (h1:X/Y*T+LT<yB^lim) (h2:X/Y*U+LU<yB^lim):Frac a b lim K Y (X%Y) (X/Y*T+LT) T (X/Y*U+LU) U:=by
 obtain ⟨s1,s2,s3⟩:=h.step
 have:=Nat.mod_lt X hY
 have:=h.hY
 exact ⟨s1,s2,s3,h.hY,by omega,h1,h.hT,h2,h.hU⟩
theorem Frac.long {a b lim K X Y T LT U LU:Nat} (h:Frac a b lim K X Y T LT U LU) (hY:0<Y) (hn:¬ (X/Y*T+LT<yB^lim∧X/Y*U+LU<yB^lim)):¬ (a/Nat.gcd a b<yB^lim∧b/Nat.gcd a b<yB^lim):=by
 obtain ⟨s1,s2,s3⟩:=h.step
 have hgY:Nat.gcd a b≤Y:=by rw [← s3];exact Nat.gcd_le_left _ hY
 have hgp:0<Nat.gcd a b:=by rw [← s3];exact Nat.gcd_pos_of_pos_left _ hY
 have key:∀ c V R:Nat,c=V*Y+R→V≤c/Nat.gcd a b:=by
  intro c V R hc
  rw [Nat.le_div_iff_mul_le hgp]
  have:V*Nat.gcd a b≤V*Y:=Nat.mul_le_mul_left _ hgY
  omega
 have k1:=key a _ _ s1
 have k2:=key b _ _ s2
 intro hc;apply hn;omega
theorem yH.len {w:World} {p:Option Addr} {n c x:Nat} (h:yH w (.slice p n c) x) (k:Nat):n≤k↔x<yB^k:=by
 obtain ⟨p',n',c',l,h1,h2,h3,h4,h5⟩:=h
 cases h1
 rw [← h5,← h3.len];exact ypC h4 k
theorem yH.slice {w:World} {v:Value} {x:Nat} (h:yH w v x):∃ p n c,v=.slice p n c:=by
 obtain ⟨p,n,c,l,h1,_⟩:=h;exact ⟨p,n,c,h1⟩
theorem zI {q t l K lim:Nat} (hq:q<yB^K) (ht:t<yB^lim) (hl:l<yB^lim):q*t<yB^(K+lim)∧l<yB^(K+lim):=by
 rw [Nat.pow_add]
 have hK:0<yB^K:=Nat.pow_pos yR
 constructor
 ·exact Nat.mul_lt_mul'' hq ht
 ·have:1*yB^lim≤yB^K*yB^lim:=Nat.mul_le_mul_right _ hK
  omega
theorem uS (w:World) (d:Nat) (t:TypeId) (h0:0<d) (hd:d<yB):yH (w.alloc (.cells #[.int .u64 (d:Int)] t)) (.slice (some ⟨w.heap.size,0,none⟩) 1 1) d :=
 ⟨_,1,1,[d],rfl,Nat.le_refl _,ymp w d t,⟨yP.one hd,by simp;omega⟩,by simp [val]⟩
theorem ylB (u v:Value) (a b lim K:Nat) (w:World) (hK:K+lim≤1073741824) (hlim:1≤lim) (ha:a<yB^K) (hb:b<yB^K) (hb0:0<b) (hu:yH w u a) (hv:yH w v b)
  (hne:∀ p n c q m d,u=.slice p n c→v=.slice q m d→¬ (n=1∧m=1)):Calls Tryz.prog 212 #[u,v,.int .i64 lim] w (yam a b lim w):=by
 obtain ⟨p,n,c,rfl⟩:=hu.slice
 obtain ⟨q,m,d,rfl⟩:=hv.slice
 have hn1:=hne p n c q m d rfl rfl
 have HK:=yA hK
 clear hne hK
 have yaO:((n:Int)==1)=false∨(((n:Int)==1)=true∧((m:Int)==1)=false):=by
  by_cases h:n=1
  ·subst h;exact .inr ⟨rfl,by rw [beq_eq_false_iff_ne];omega⟩
  ·exact .inl (by rw [beq_eq_false_iff_ne];omega)
 clear hn1
 have hst:Hid (∃ X T LT U LU:Nat,yH ((w.alloc (Obj.cells #[Value.int IntKind.u64 1] 86)).alloc (Obj.cells #[Value.int IntKind.u64 1] 86)) (.slice p n c) X∧yH ((w.alloc (Obj.cells #[Value.int IntKind.u64 1] 86)).alloc (Obj.cells #[Value.int IntKind.u64 1] 86)) (.slice q m d) b ∧
   yH ((w.alloc (Obj.cells #[Value.int IntKind.u64 1] 86)).alloc (Obj.cells #[Value.int IntKind.u64 1] 86)) (.slice (some ⟨w.heap.size,0,none⟩) 1 1) T∧yH ((w.alloc (Obj.cells #[Value.int IntKind.u64 1] 86)).alloc (Obj.cells #[Value.int IntKind.u64 1] 86)) (.slice none 0 0) LT ∧
   yH ((w.alloc (Obj.cells #[Value.int IntKind.u64 1] 86)).alloc (Obj.cells #[Value.int IntKind.u64 1] 86)) (.slice none 0 0) U∧yH ((w.alloc (Obj.cells #[Value.int IntKind.u64 1] 86)).alloc (Obj.cells #[Value.int IntKind.u64 1] 86)) (.slice (some ⟨w.heap.size+1,0,none⟩) 1 1) LU ∧
   Hid (Frac a b lim K X b T LT U LU)∧Below w.heap.size w ((w.alloc (Obj.cells #[Value.int IntKind.u64 1] 86)).alloc (Obj.cells #[Value.int IntKind.u64 1] 86))):=yA (by
  have hb1:Below w.heap.size w (w.alloc (Obj.cells #[Value.int IntKind.u64 1] 86)):=(Below.refl _ _).alloc (Nat.le_refl _) _
  have hb2:Below (w.alloc (Obj.cells #[Value.int IntKind.u64 1] 86)).heap.size (w.alloc (Obj.cells #[Value.int IntKind.u64 1] 86)) ((w.alloc (Obj.cells #[Value.int IntKind.u64 1] 86)).alloc (Obj.cells #[Value.int IntKind.u64 1] 86)):=(Below.refl _ _).alloc (Nat.le_refl _) _
  have h12:=hb1.trans (hb2.mono (by simp))
  have hB1:1<yB:=by rw [yM];omega
  have n1:=uS w 1 86 (by omega) hB1
  have n2:=uS (w.alloc (Obj.cells #[Value.int IntKind.u64 1] 86)) 1 86 (by omega) hB1
  rw [World.size_alloc] at n2
  exact ⟨a,1,0,0,1,hu.below h12,hv.below h12,n1.below hb2,yH.zero _,yH.zero _,n2,yA (Frac.start ha hb hlim),h12⟩)
 clear hu hv ha hb
 go_enter Tryz.func212,Tryz.ntmps212
 rcases yaO with e1|⟨e1,e2⟩
 ·go_wp2_with fail
  go_loopg [0,1,10,11,12,13] b (fun k xv yv tv ltv uv luv wr=>∃ X T LT U LU:Nat,yH wr xv X∧yH wr yv k∧yH wr tv T∧yH wr ltv LT∧yH wr uv U∧yH wr luv LU∧Hid (Frac a b lim K X k T LT U LU)∧Below w.heap.size w wr)
  case atStart=>exact hst.out
  case round =>
   obtain ⟨X,T,LT,U,LU,hX,hY,hT,hLT,hU,hLU,hF,hB⟩:=hrel
   obtain ⟨px,nx,cx,rfl⟩:=hX.slice
   obtain ⟨py,ny,cy,rfl⟩:=hY.slice
   have HX:=yA hX
   have HY:=yA hY
   have HT:=yA hT
   have HLT:=yA hLT
   have HU:=yA hU
   have HLU:=yA hLU
   clear hX hY hT hLT hU hLU
   by_cases h0:gk=0
   ·subst h0
    have hny:ny=0:=by
     have:=(HY.out.len 0).2 (by simp);omega
    subst hny
    have yD:Hid (∀ tv uv,yH wr tv T→yH wr uv U→yam a b lim w (.returned (.tuple #[tv,uv,.bool true])) wr):=yA (by
     intro tv uv h1 h2
     obtain ⟨e1,e2⟩:=hF.out.done hb0
     refine ⟨hB,.inl ⟨by rw [e1];exact hF.out.hT,by rw [e2];exact hF.out.hU,tv,uv,rfl,by rw [e1];exact h1,by rw [e2];exact h2⟩⟩)
    go_wp2_with fail
    refine (jC _ _ _ _).mono ?_
    rintro e w1 ⟨rfl,rfl⟩
    go_wp2_with fail
    go_ret3
    exact yD.out _ _ HT.out HU.out
   ·have hny:ny≠0:=by
     intro h;apply h0
     have:=(HY.out.len 0).1 (by omega);simp at this;exact this
    have hnz:((ny:Int)==0)=false:=by rw [beq_eq_false_iff_ne];omega
    clear hny
    go_wp2_with fail
    refine (jC _ _ _ _).mono ?_
    rintro e w1 ⟨rfl,rfl⟩
    rw [hnz]
    go_wp2_with fail
    have hdv:Hid (Calls Tryz.prog 140 #[.slice px nx cx,.slice py ny cy] wr (ya1 X gk wr)):=yA (yc9 _ _ X gk K wr (by have:=HK.out;unfold yC;omega) hF.out.hX hF.out.hY (by omega) HX.out HY.out)
    refine hdv.out.mono ?_
    rintro e w2 ⟨vq,vr,rfl,hvq,hvr,hb2⟩
    have hq:Hid (X/gk<yB^K):=yA (Nat.lt_of_le_of_lt (Nat.div_le_self _ _) hF.out.hX)
    obtain ⟨Q,hQ⟩:∃ Q,Hid (Q=X/gk):=⟨_,yA rfl⟩
    obtain ⟨R,hR⟩:∃ R,Hid (R=X%gk):=⟨_,yA rfl⟩
    rw [← hQ.out] at hvq hq
    rw [← hR.out] at hvr
    have hm1:Hid (Calls Tryz.prog 133 #[vq,u10] w2 (zB (Q*T) w2)):=yA (uF _ _ Q T (K+lim) w2 (by have:=HK.out;omega)
     (by have:=(zI hq.out hF.out.hT hF.out.hT).2;have h2:yB^K≤yB^(K+lim):=Nat.pow_le_pow_right yR (by omega);have:=hq.out;omega)
     (zI hq.out hF.out.hT hF.out.hT).2 hvq (HT.out.below hb2))
    go_wp2_with fail
    refine hm1.out.mono ?_
    rintro e w3 ⟨v3,rfl,hv3,hb3⟩
    have hm2:Hid (Calls Tryz.prog 138 #[v3,u11] w3 (zB (Q*T+LT) w3)):=yA (ybq _ _ _ LT (K+lim) w3 (by have:=HK.out;unfold yC;omega)
     (zI hq.out hF.out.hT hF.out.hLT).1 (zI hq.out hF.out.hT hF.out.hLT).2 hv3 ((HLT.out.below hb2).below hb3))
    go_wp2_with fail
    refine hm2.out.mono ?_
    rintro e w4 ⟨v4,rfl,hv4,hb4⟩
    have ye3:Below w2.heap.size w2 w4:=hb3.trans (hb4.mono hb3.size)
    have hm3:Hid (Calls Tryz.prog 133 #[vq,u12] w4 (zB (Q*U) w4)):=yA (uF _ _ Q U (K+lim) w4 (by have:=HK.out;omega)
     (by have:=(zI hq.out hF.out.hU hF.out.hU).2;have h2:yB^K≤yB^(K+lim):=Nat.pow_le_pow_right yR (by omega);have:=hq.out;omega)
     (zI hq.out hF.out.hU hF.out.hU).2 (hvq.below ye3) ((HU.out.below hb2).below ye3))
    go_wp2_with fail
    refine hm3.out.mono ?_
    rintro e w5 ⟨v5,rfl,hv5,hb5⟩
    have yhf:Below w2.heap.size w2 w5:=ye3.trans (hb5.mono ye3.size)
    have hm4:Hid (Calls Tryz.prog 138 #[v5,u13] w5 (zB (Q*U+LU) w5)):=yA (ybq _ _ _ LU (K+lim) w5 (by have:=HK.out;unfold yC;omega)
     (zI hq.out hF.out.hU hF.out.hLU).1 (zI hq.out hF.out.hU hF.out.hLU).2 hv5 ((HLU.out.below hb2).below yhf))
    go_wp2_with fail
    refine hm4.out.mono ?_
    rintro e w6 ⟨v6,rfl,hv6,hb6⟩
    have yhg:Below w2.heap.size w2 w6:=yhf.trans (hb6.mono yhf.size)
    have ykz:Below w4.heap.size w4 w6:=hb5.trans (hb6.mono hb5.size)
    have ydK:Below w.heap.size w w6:=hB.trans ((hb2.trans (yhg.mono hb2.size)).mono hB.size)
    have yhh:Below wr.heap.size wr w6:=hb2.trans (yhg.mono hb2.size)
    obtain ⟨pt,nt,ct,rfl⟩:=hv4.slice
    obtain ⟨pu,nu,cu,rfl⟩:=hv6.slice
    have ykn:Hid (nt≤lim↔Q*T+LT<yB^lim):=yA (hv4.len lim)
    have yfI:Hid (nu≤lim↔Q*U+LU<yB^lim):=yA (hv6.len lim)
    have yrh:Hid (Q*T+LT<yB^lim→Q*U+LU<yB^lim→Frac a b lim K gk R (Q*T+LT) T (Q*U+LU) U):=yA (by
     rw [hQ.out,hR.out];exact fun h1 h2=>hF.out.next (by omega) h1 h2)
    have yko:Hid (¬ (Q*T+LT<yB^lim∧Q*U+LU<yB^lim)→yam a b lim w (.returned (.tuple #[.slice none 0 0,.slice none 0 0,.bool false])) w6):=yA (by
     rw [hQ.out];exact fun h=>⟨ydK,.inr ⟨hF.out.long (by omega) h,rfl⟩⟩)
    have yqI:Hid (R<gk):=yA (by rw [hR.out];exact Nat.mod_lt _ (by omega))
    have H1:=yA ((HY.out).below yhh)
    have H2:=yA (hvr.below yhg)
    have H3:=yA (hv4.below ykz)
    have H4:=yA (HT.out.below yhh)
    have H5:=yA hv6
    have H6:=yA (HU.out.below yhh)
    have hfk:(Hid (¬ nt≤lim)∧decide (lim<nt)=true)∨(Hid (nt≤lim)∧decide (lim<nt)=false∧((Hid (¬ nu≤lim)∧decide (lim<nu)=true)∨(Hid (nu≤lim)∧decide (lim<nu)=false))):=by
     by_cases h1:nt≤lim
     ·refine .inr ⟨yA h1,decide_eq_false (by omega),?_⟩
      by_cases h2:nu≤lim
      ·exact .inr ⟨yA h2,decide_eq_false (by omega)⟩
      ·exact .inl ⟨yA h2,decide_eq_true (by omega)⟩
     ·exact .inl ⟨yA h1,decide_eq_true (by omega)⟩
    clear hv3 hv4 hv5 hv6 hvq hvr hb2 hb3 hb4 hb5 hb6 ye3 yhf yhg ykz yhh h0 hB
    rcases hfk with ⟨f1,f2⟩|⟨f1,f2,⟨f3,f4⟩|⟨f3,f4⟩⟩
    ·go_wp2_with fail
     go_ret3
     exact yko.out (fun h=>f1.out (ykn.out.2 h.1))
    ·go_wp2_with fail
     go_ret3
     exact yko.out (fun h=>f3.out (yfI.out.2 h.2))
    ·go_wp2_with fail
     go_roundg R
     case measure=>exact yqI.out
     case rel=>exact ⟨gk,Q*T+LT,T,Q*U+LU,U,H1.out,H2.out,H3.out,H4.out,H5.out,H6.out,yA (yrh.out (ykn.out.1 f1.out) (yfI.out.1 f3.out)),ydK⟩
 ·go_wp2_with fail
  go_loopg [0,1,10,11,12,13] b (fun k xv yv tv ltv uv luv wr=>∃ X T LT U LU:Nat,yH wr xv X∧yH wr yv k∧yH wr tv T∧yH wr ltv LT∧yH wr uv U∧yH wr luv LU∧Hid (Frac a b lim K X k T LT U LU)∧Below w.heap.size w wr)
  case atStart=>exact hst.out
  case round =>
   obtain ⟨X,T,LT,U,LU,hX,hY,hT,hLT,hU,hLU,hF,hB⟩:=hrel
   obtain ⟨px,nx,cx,rfl⟩:=hX.slice
   obtain ⟨py,ny,cy,rfl⟩:=hY.slice
   have HX:=yA hX
   have HY:=yA hY
   have HT:=yA hT
   have HLT:=yA hLT
   have HU:=yA hU
   have HLU:=yA hLU
   clear hX hY hT hLT hU hLU
   by_cases h0:gk=0
   ·subst h0
    have hny:ny=0:=by
     have:=(HY.out.len 0).2 (by simp);omega
    subst hny
    have yD:Hid (∀ tv uv,yH wr tv T→yH wr uv U→yam a b lim w (.returned (.tuple #[tv,uv,.bool true])) wr):=yA (by
     intro tv uv h1 h2
     obtain ⟨e1,e2⟩:=hF.out.done hb0
     refine ⟨hB,.inl ⟨by rw [e1];exact hF.out.hT,by rw [e2];exact hF.out.hU,tv,uv,rfl,by rw [e1];exact h1,by rw [e2];exact h2⟩⟩)
    go_wp2_with fail
    refine (jC _ _ _ _).mono ?_
    rintro e w1 ⟨rfl,rfl⟩
    go_wp2_with fail
    go_ret3
    exact yD.out _ _ HT.out HU.out
   ·have hny:ny≠0:=by
     intro h;apply h0
     have:=(HY.out.len 0).1 (by omega);simp at this;exact this
    have hnz:((ny:Int)==0)=false:=by rw [beq_eq_false_iff_ne];omega
    clear hny
    go_wp2_with fail
    refine (jC _ _ _ _).mono ?_
    rintro e w1 ⟨rfl,rfl⟩
    rw [hnz]
    go_wp2_with fail
    have hdv:Hid (Calls Tryz.prog 140 #[.slice px nx cx,.slice py ny cy] wr (ya1 X gk wr)):=yA (yc9 _ _ X gk K wr (by have:=HK.out;unfold yC;omega) hF.out.hX hF.out.hY (by omega) HX.out HY.out)
    refine hdv.out.mono ?_
    rintro e w2 ⟨vq,vr,rfl,hvq,hvr,hb2⟩
    have hq:Hid (X/gk<yB^K):=yA (Nat.lt_of_le_of_lt (Nat.div_le_self _ _) hF.out.hX)
    obtain ⟨Q,hQ⟩:∃ Q,Hid (Q=X/gk):=⟨_,yA rfl⟩
    obtain ⟨R,hR⟩:∃ R,Hid (R=X%gk):=⟨_,yA rfl⟩
    rw [← hQ.out] at hvq hq
    rw [← hR.out] at hvr
    have hm1:Hid (Calls Tryz.prog 133 #[vq,u10] w2 (zB (Q*T) w2)):=yA (uF _ _ Q T (K+lim) w2 (by have:=HK.out;omega)
     (by have:=(zI hq.out hF.out.hT hF.out.hT).2;have h2:yB^K≤yB^(K+lim):=Nat.pow_le_pow_right yR (by omega);have:=hq.out;omega)
     (zI hq.out hF.out.hT hF.out.hT).2 hvq (HT.out.below hb2))
    go_wp2_with fail
    refine hm1.out.mono ?_
    rintro e w3 ⟨v3,rfl,hv3,hb3⟩
    have hm2:Hid (Calls Tryz.prog 138 #[v3,u11] w3 (zB (Q*T+LT) w3)):=yA (ybq _ _ _ LT (K+lim) w3 (by have:=HK.out;unfold yC;omega)
     (zI hq.out hF.out.hT hF.out.hLT).1 (zI hq.out hF.out.hT hF.out.hLT).2 hv3 ((HLT.out.below hb2).below hb3))
    go_wp2_with fail
    refine hm2.out.mono ?_
    rintro e w4 ⟨v4,rfl,hv4,hb4⟩
    have ye3:Below w2.heap.size w2 w4:=hb3.trans (hb4.mono hb3.size)
    have hm3:Hid (Calls Tryz.prog 133 #[vq,u12] w4 (zB (Q*U) w4)):=yA (uF _ _ Q U (K+lim) w4 (by have:=HK.out;omega)
     (by have:=(zI hq.out hF.out.hU hF.out.hU).2;have h2:yB^K≤yB^(K+lim):=Nat.pow_le_pow_right yR (by omega);have:=hq.out;omega)
     (zI hq.out hF.out.hU hF.out.hU).2 (hvq.below ye3) ((HU.out.below hb2).below ye3))
    go_wp2_with fail
    refine hm3.out.mono ?_
    rintro e w5 ⟨v5,rfl,hv5,hb5⟩
    have yhf:Below w2.heap.size w2 w5:=ye3.trans (hb5.mono ye3.size)
    have hm4:Hid (Calls Tryz.prog 138 #[v5,u13] w5 (zB (Q*U+LU) w5)):=yA (ybq _ _ _ LU (K+lim) w5 (by have:=HK.out;unfold yC;omega)
     (zI hq.out hF.out.hU hF.out.hLU).1 (zI hq.out hF.out.hU hF.out.hLU).2 hv5 ((HLU.out.below hb2).below yhf))
    go_wp2_with fail
    refine hm4.out.mono ?_
    rintro e w6 ⟨v6,rfl,hv6,hb6⟩
    have yhg:Below w2.heap.size w2 w6:=yhf.trans (hb6.mono yhf.size)
    have ykz:Below w4.heap.size w4 w6:=hb5.trans (hb6.mono hb5.size)
    have ydK:Below w.heap.size w w6:=hB.trans ((hb2.trans (yhg.mono hb2.size)).mono hB.size)
    have yhh:Below wr.heap.size wr w6:=hb2.trans (yhg.mono hb2.size)
    obtain ⟨pt,nt,ct,rfl⟩:=hv4.slice
    obtain ⟨pu,nu,cu,rfl⟩:=hv6.slice
    have ykn:Hid (nt≤lim↔Q*T+LT<yB^lim):=yA (hv4.len lim)
    have yfI:Hid (nu≤lim↔Q*U+LU<yB^lim):=yA (hv6.len lim)
    have yrh:Hid (Q*T+LT<yB^lim→Q*U+LU<yB^lim→Frac a b lim K gk R (Q*T+LT) T (Q*U+LU) U):=yA (by
     rw [hQ.out,hR.out];exact fun h1 h2=>hF.out.next (by omega) h1 h2)
    have yko:Hid (¬ (Q*T+LT<yB^lim∧Q*U+LU<yB^lim)→yam a b lim w (.returned (.tuple #[.slice none 0 0,.slice none 0 0,.bool false])) w6):=yA (by
     rw [hQ.out];exact fun h=>⟨ydK,.inr ⟨hF.out.long (by omega) h,rfl⟩⟩)
    have yqI:Hid (R<gk):=yA (by rw [hR.out];exact Nat.mod_lt _ (by omega))
    have H1:=yA ((HY.out).below yhh)
    have H2:=yA (hvr.below yhg)
    have H3:=yA (hv4.below ykz)
    have H4:=yA (HT.out.below yhh)
    have H5:=yA hv6
    have H6:=yA (HU.out.below yhh)
    have hfk:(Hid (¬ nt≤lim)∧decide (lim<nt)=true)∨(Hid (nt≤lim)∧decide (lim<nt)=false∧((Hid (¬ nu≤lim)∧decide (lim<nu)=true)∨(Hid (nu≤lim)∧decide (lim<nu)=false))):=by
     by_cases h1:nt≤lim
     ·refine .inr ⟨yA h1,decide_eq_false (by omega),?_⟩
      by_cases h2:nu≤lim
      ·exact .inr ⟨yA h2,decide_eq_false (by omega)⟩
      ·exact .inl ⟨yA h2,decide_eq_true (by omega)⟩
     ·exact .inl ⟨yA h1,decide_eq_true (by omega)⟩
    clear hv3 hv4 hv5 hv6 hvq hvr hb2 hb3 hb4 hb5 hb6 ye3 yhf yhg ykz yhh h0 hB
    rcases hfk with ⟨f1,f2⟩|⟨f1,f2,⟨f3,f4⟩|⟨f3,f4⟩⟩
    ·go_wp2_with fail
     go_ret3
     exact yko.out (fun h=>f1.out (ykn.out.2 h.1))
    ·go_wp2_with fail
     go_ret3
     exact yko.out (fun h=>f3.out (yfI.out.2 h.2))
    ·go_wp2_with fail
     go_roundg R
     case measure=>exact yqI.out
     case rel=>exact ⟨gk,Q*T+LT,T,Q*U+LU,U,H1.out,H2.out,H3.out,H4.out,H5.out,H6.out,yA (yrh.out (ykn.out.1 f1.out) (yfI.out.1 f3.out)),ydK⟩
theorem yjE (p q:Option Addr) (c d a b lim:Nat) (w:World) (hlim:1≤lim) (hu:yH w (.slice p 1 c) a) (hv:yH w (.slice q 1 d) b):Calls Tryz.prog 212 #[.slice p 1 c,.slice q 1 d,.int .i64 lim] w (yam a b lim w):=by
 obtain ⟨p',n',c',x,h1,h2,h3,h4,h5⟩:=hu
 obtain ⟨q',m',d',y,g1,g2,g3,g4,g5⟩:=hv
 cases h1
 cases g1
 obtain ⟨bx,ox,a',rfl,hbx,hcx,hax⟩:=h3.at (k:=0) (by omega)
 obtain ⟨by',oy,b',rfl,hby,hcy,hay⟩:=g3.at (k:=0) (by omega)
 obtain ⟨a0,hx⟩:=ygr h3.len
 obtain ⟨b0,hy⟩:=ygr g3.len
 subst hx hy
 have ea:a0=a':=hax.out
 have eb:b0=b':=hay.out
 subst ea eb
 have ea:a0=a:=by rw [← h5];simp [val]
 have eb:b0=b:=by rw [← g5];simp [val]
 subst ea eb
 have ha0:0<a0:=by have:=h4.2;simp at this;omega
 have hb0:0<b0:=by have:=g4.2;simp at this;omega
 have haB:a0<yB:=h4.1 _ (by simp)
 have hbB:b0<yB:=g4.1 _ (by simp)
 have ytD:=fun W=>ybU a0 b0 W
 have hg0:0<Nat.gcd a0 b0:=Nat.gcd_pos_of_pos_left _ ha0
 obtain ⟨g,hg⟩:∃ g,Hid (g=Nat.gcd a0 b0):=⟨_,yA rfl⟩
 have hgg:∀ W,Calls Tryz.prog 243 #[.int .u64 a0,.int .u64 b0] W fun e w'=>e=.returned (.int .u64 ((g:Nat):Int))∧∃ k,W.drewN k=w':=fun W=>by rw [hg.out];exact ybU a0 b0 W
 rw [← hg.out] at hg0
 have Hgg:=yA hgg
 obtain ⟨qa,hqa⟩:∃ qa,Hid (qa=a0/g):=⟨_,yA rfl⟩
 obtain ⟨qb,hqb⟩:∃ qb,Hid (qb=b0/g):=⟨_,yA rfl⟩
 have ea:(a0:Int)/g=(qa:Int):=by rw [hqa.out];exact (Int.natCast_ediv _ _).symm
 have eb:(b0:Int)/g=(qb:Int):=by rw [hqb.out];exact (Int.natCast_ediv _ _).symm
 have wa:IntKind.u64.wrap (qa:Int)=qa:=jL _ (by rw [hqa.out];have:=Nat.div_le_self a0 g;omega)
 have wb:IntKind.u64.wrap (qb:Int)=qb:=jL _ (by rw [hqb.out];have:=Nat.div_le_self b0 g;omega)
 have hx0:∀ k,(w.drewN k).cell? ⟨bx,ox,none⟩=some (.int .u64 (a0:Int)):=fun k=>hcx
 have hy0:∀ k,(w.drewN k).cell? ⟨by',oy,none⟩=some (.int .u64 (b0:Int)):=fun k=>hcy
 have hx1:∀ k o,((w.drewN k).alloc o).cell? ⟨bx,ox,none⟩=some (.int .u64 (a0:Int)):=fun k o=>(((Below.refl _ (w.drewN k)).alloc (Nat.le_refl _) o).cell (p:=⟨bx,ox,none⟩) hbx).trans hcx
 have hy1:∀ k o,((w.drewN k).alloc o).cell? ⟨by',oy,none⟩=some (.int .u64 (b0:Int)):=fun k o=>(((Below.refl _ (w.drewN k)).alloc (Nat.le_refl _) o).cell (p:=⟨by',oy,none⟩) hby).trans hcy
 have hgne:¬ g=0:=by omega
 have i1:(1:Int)≤g:=by omega
 have i2:(0:Int)≤a0:=by omega
 have i3:(0:Int)≤b0:=by omega
 have ymL:0<qa:=by rw [hqa.out,hg.out];exact Nat.div_pos (Nat.gcd_le_left _ ha0) (by rw [← hg.out];exact hg0)
 have ymM:0<qb:=by rw [hqb.out,hg.out];exact Nat.div_pos (Nat.gcd_le_right _ hb0) (by rw [← hg.out];exact hg0)
 have yvV:qa<yB:=by rw [hqa.out];have:=Nat.div_le_self a0 g;omega
 have yvW:qb<yB:=by rw [hqb.out];have:=Nat.div_le_self b0 g;omega
 have ykw:yB≤yB^lim:=by
  have:=Nat.pow_le_pow_right yR hlim
  rwa [Nat.pow_one] at this
 have hf:∀ v u w',Below w.heap.size w w'→yH w' v qa→yH w' u qb→yam a0 b0 lim w (.returned (.tuple #[v,u,.bool true])) w':=by
  intro v u w' k1 k2 k3
  have e1:a0/Nat.gcd a0 b0=qa:=by rw [hqa.out,hg.out]
  have e2:b0/Nat.gcd a0 b0=qb:=by rw [hqb.out,hg.out]
  exact ⟨k1,.inl ⟨by rw [e1];omega,by rw [e2];omega,v,u,rfl,by rw [e1];exact k2,by rw [e2];exact k3⟩⟩
 have hbb:∀ k (o1 o2:Obj),Below w.heap.size w (((w.drewN k).alloc o1).alloc o2):=fun k o1 o2 =>
  ((yG w.heap.size w k).alloc (Nat.le_refl _) o1).alloc (by simp) o2
 have hab:∀ (W:World) (o:Obj),Below W.heap.size W (W.alloc o):=fun W o=>(Below.refl _ _).alloc (Nat.le_refl _) o
 have hfin1:Hid (∀ k,yam a0 b0 lim w (.returned (.tuple #[.slice (some ⟨w.heap.size,0,none⟩) 1 1,.slice (some ⟨w.heap.size+1,0,none⟩) 1 1,.bool true])) (((w.drewN k).alloc (.cells #[.int .u64 (qa:Int)] 86)).alloc (.cells #[.int .u64 (qb:Int)] 86))):=yA (by
  intro k
  have n1:=uS (w.drewN k) qa 86 ymL yvV
  have n2:=uS ((w.drewN k).alloc (.cells #[.int .u64 (qa:Int)] 86)) qb 86 ymM yvW
  rw [World.size_alloc] at n2
  exact hf _ _ _ (hbb _ _ _) (n1.below (hab _ _)) n2)
 have hfin2:Hid (∀ k,yam a0 b0 lim w (.returned (.tuple #[.slice (some ⟨w.heap.size+1,0,none⟩) 1 1,.slice (some ⟨w.heap.size,0,none⟩) 1 1,.bool true])) (((w.drewN k).alloc (.cells #[.int .u64 (qb:Int)] 86)).alloc (.cells #[.int .u64 (qa:Int)] 86))):=yA (by
  intro k
  have n1:=uS (w.drewN k) qb 86 ymM yvW
  have n2:=uS ((w.drewN k).alloc (.cells #[.int .u64 (qb:Int)] 86)) qa 86 ymL yvV
  rw [World.size_alloc] at n2
  exact hf _ _ _ (hbb _ _ _) n2 (n1.below (hab _ _)))
 clear ymL ymM yvV yvW ykw hf hbb hab
 clear ytD hgg h2 g2 h3 g3 h4 g4 h5 g5 hax hay haB hbB ha0 hb0 hg0
 go_enter Tryz.func212,Tryz.ntmps212
 go_wp2_with fail
 go_quiet ((go_at_call 243;exact Calls.quiet_of ((Hgg.out _).mono fun _ _ h=>⟨h.1,h.2.elim fun k hk=>⟨k,hk.symm⟩⟩)))
 go_wp2_with fail
 go_region
 ·go_wp2_with fail
  go_ret3
  exact hfin1.out _
 ·go_wp2_with fail
  go_ret3
  exact hfin2.out _
theorem ynt (u v:Value) (a b lim K:Nat) (w:World) (hK:K+lim≤1073741824) (hlim:1≤lim) (ha:a<yB^K) (hb:b<yB^K) (hb0:0<b) (hu:yH w u a) (hv:yH w v b):Calls Tryz.prog 212 #[u,v,.int .i64 lim] w (yam a b lim w):=by
 obtain ⟨p,n,c,rfl⟩:=hu.slice
 obtain ⟨q,m,d,rfl⟩:=hv.slice
 by_cases h:n=1∧m=1
 ·obtain ⟨rfl,rfl⟩:=h
  exact yjE p q c d a b lim w hlim hu hv
 ·refine ylB _ _ a b lim K w hK hlim ha hb hb0 hu hv ?_
  intro p' n' c' q' m' d' h1 h2 h3
  cases h1;cases h2;exact h h3
def ynu (s:Bool) (n:Nat) (u v:Value) (w:World) (e:Ending) (w':World):Prop :=
 e=.returned (.agg #[.bool (s&&!((n:Int)==0)),u,v])∧Below w.heap.size w w'
theorem ynv (s:Bool) (p q:Option Addr) (n c m d:Nat) (w:World) :
  Calls Tryz.prog 132 #[.bool s,.slice p n c,.slice q m d] w (ynu s n (.slice p n c) (.slice q m d) w):=by
 cases s with
 | false =>
  go_enter Tryz.func132,Tryz.ntmps132
  go_wp2_with fail
  refine bodyPost_ret (v:=.agg #[.bool false,.slice p n c,.slice q m d]) (by simp [results,Tryz.results132,go_sem]) rfl ?_
  exact ⟨rfl,(Below.refl _ _).alloc (Nat.le_refl _) _⟩
 | true =>
  go_enter Tryz.func132,Tryz.ntmps132
  go_wp2_with fail
  refine (jC _ _ _ _).mono ?_
  rintro e w1 ⟨rfl,rfl⟩
  go_wp2_with fail
  refine bodyPost_ret (v:=.agg #[.bool (!((n:Int)==0)),.slice p n c,.slice q m d]) (by simp [results,Tryz.results132,go_sem]) rfl ?_
  exact ⟨rfl,(Below.refl _ _).alloc (Nat.le_refl _) _⟩
def jU (w:World) (x:Value) (s:Bool) (a b:Nat):Prop:=∃ u v,x=.agg #[.bool s,u,v]∧yH w u a∧yH w v b∧(s=true→0<a)
theorem jU.below {w w':World} {x:Value} {s:Bool} {a b:Nat} (h:jU w x s a b) (hb:Below w.heap.size w w'):jU w' x s a b:=by
 obtain ⟨u,v,h1,h2,h3,h4⟩:=h
 exact ⟨u,v,h1,h2.below hb,h3.below hb,h4⟩
theorem zW {w:World} {p:Option Addr} {n c x:Nat} (h:yH w (.slice p n c) x):n=0↔x=0:=by
 have:=h.len 0
 rw [Nat.pow_zero] at this
 omega
theorem vI (s:Bool) (u v:Value) (a b:Nat) (w:World) (hu:yH w u a) (hv:yH w v b) :
  Calls Tryz.prog 132 #[.bool s,u,v] w fun e w'=>e=.returned (.agg #[.bool (s&&!(a==0)),u,v])∧Below w.heap.size w w':=by
 obtain ⟨p,n,c,rfl⟩:=hu.slice
 obtain ⟨q,m,d,rfl⟩:=hv.slice
 refine (ynv s p q n c m d w).mono ?_
 rintro e w' ⟨rfl,hb⟩
 refine ⟨?_,hb⟩
 have:=zW hu
 have e:(((n:Int)==0):Bool)=(a==0):=by
  rw [Bool.eq_iff_iff,beq_iff_eq,beq_iff_eq];omega
 rw [e]
def uJ (s:Bool) (a b:Nat) (w:World) (e:Ending) (w':World):Prop:=∃ x,e=.returned x∧jU w' x (s&&!(a==0)) a b∧Below w.heap.size w w'
def vQ (v:Value):Prop:=∀ k n,v≠.int k n
theorem zD (b:Bool):vQ (.bool b):=fun _ _ h=>by cases h
theorem yK (p:Option Addr) (n c:Nat):vQ (.slice p n c):=fun _ _ h=>by cases h
structure Two (B:Nat) (s:Bool) (u1 v1:Value) (t:Bool) (u2 v2:Value) (w0 W:World):Prop where
 size:B+3≤W.heap.size
 below:Below w0.heap.size w0 W
 x:W.heap[B]?=some (.cells #[.bool s,u1,v1] 98 (0,0))
 y:W.heap[B+1]?=some (.cells #[.bool t,u2,v2] 98 (0,0))
 z:∃ z0 z1 z2,W.heap[B+1+1]?=some (.cells #[z0,z1,z2] 98 (0,0))∧vQ z0∧vQ z1∧vQ z2
variable {B : Nat} {s : Bool} {u1 v1 : Value} {t : Bool} {u2 v2 : Value} {w0 W W' : World}
theorem Two.next (h:Two B s u1 v1 t u2 v2 w0 W) (hb:Below W.heap.size W W'):Two B s u1 v1 t u2 v2 w0 W':=by
 have hs:=h.size
 exact ⟨Nat.le_trans hs hb.size,h.below.trans (hb.mono h.below.size),(hb.block _ (by omega)).trans h.x,(hb.block _ (by omega)).trans h.y,h.z.elim fun z0 k=>k.elim fun z1 k=>k.elim fun z2 k=>⟨z0,z1,z2,(hb.block _ (by omega)).trans k.1,k.2⟩⟩
theorem Two.drew (h:Two B s u1 v1 t u2 v2 w0 W):Two B s u1 v1 t u2 v2 w0 W.drew:=⟨h.size,h.below.drew,h.x,h.y,h.z⟩
theorem yY (W:World) (o:Obj):(W.alloc o).heap[W.heap.size]?=some o:=by show (W.heap.push _)[_]?=_;simp
theorem yaQ (W:World) (o:Obj) (b:Nat) (h:b<W.heap.size):(W.alloc o).heap[b]?=W.heap[b]?:=Below.heap_alloc _ _ _ h
theorem Two.start (w:World) (s:Bool) (u1 v1:Value) (t:Bool) (u2 v2:Value) :
  Two w.heap.size s u1 v1 t u2 v2 w (((w.alloc (.cells #[.bool s,u1,v1] 98)).alloc (.cells #[.bool t,u2,v2] 98)).alloc (.cells #[.bool false,.slice none 0 0,.slice none 0 0] 98)):=by
 have hb:∀ (W:World) (o:Obj),Below W.heap.size W (W.alloc o):=fun W o=>(Below.refl _ _).alloc (Nat.le_refl _) o
 refine ⟨by simp,((hb _ _).trans ((hb _ _).mono (by simp))).trans ((hb _ _).mono (by simp;omega)),?_,?_,⟨.bool false,.slice none 0 0,.slice none 0 0,?_,zD _,yK _ _ _,yK _ _ _⟩⟩
 ·rw [yaQ _ _ _ (by simp;omega),yaQ _ _ _ (by simp),yY]
 ·rw [yaQ _ _ _ (by simp),show w.heap.size+1=(w.alloc (.cells #[.bool s,u1,v1] 98)).heap.size from by simp,yY]
 ·rw [show w.heap.size+1+1=((w.alloc (.cells #[.bool s,u1,v1] 98)).alloc (.cells #[.bool t,u2,v2] 98)).heap.size from by simp,yY]
theorem zU {b:Nat} {c:Array Value} {T:TypeId} (h:W.heap[b]?=some (.cells c T (0,0))) (i:Nat):W.cell? ⟨b,i,none⟩=c[i]?:=by
 unfold World.cell?;rw [h];rfl
theorem foh {b:Nat} {c:Array Value} {T:TypeId} (h:W.heap[b]?=some (.cells c T (0,0))) (i:Nat):W.frozen? ⟨b,i,none⟩=false:=by
 unfold World.frozen?;rw [h];simp
theorem Two.all (h:Two B s u1 v1 t u2 v2 w0 W):Two B s u1 v1 t u2 v2 w0 W∧W.cell? ⟨B,0,none⟩=some (.bool s)∧W.cell? ⟨B,1,none⟩=some u1∧W.cell? ⟨B,2,none⟩=some v1 ∧
  W.cell? ⟨B+1,0,none⟩=some (.bool t)∧W.cell? ⟨B+1,1,none⟩=some u2∧W.cell? ⟨B+1,2,none⟩=some v2 :=
 ⟨h,zU h.x 0,zU h.x 1,zU h.x 2,zU h.y 0,zU h.y 1,zU h.y 2⟩
theorem Two.slots (h:Two B s u1 v1 t u2 v2 w0 W):∃ z0 z1 z2,W.cell? ⟨B+1+1,0,none⟩=some z0∧W.cell? ⟨B+1+1,1,none⟩=some z1∧W.cell? ⟨B+1+1,2,none⟩=some z2 ∧
  W.frozen? ⟨B+1+1,0,none⟩=false∧W.frozen? ⟨B+1+1,1,none⟩=false∧W.frozen? ⟨B+1+1,2,none⟩=false:=by
 obtain ⟨z0,z1,z2,hz,-⟩:=h.z
 exact ⟨z0,z1,z2,zU hz 0,zU hz 1,zU hz 2,foh hz 0,foh hz 1,foh hz 2⟩
theorem jW (g k:Nat) (c:Array Value) (T:TypeId) (v:Value) (h:W.heap[g]?=some (.cells c T (0,0))):(W.setCell ⟨g,k,none⟩ v).heap[g]?=some (.cells (c.setIfInBounds k v) T (0,0)):=by
 have hlt:=(Array.getElem?_eq_some_iff.1 h).1
 have hv:=(Array.getElem?_eq_some_iff.1 h).2
 unfold World.setCell
 rw [Array.getElem?_eq_getElem (by simpa using hlt),Array.getElem_modify]
 simp [hv]
theorem Two.put1 (h:Two B s u1 v1 t u2 v2 w0 W) (hB:w0.heap.size≤B) (k:Nat) (hk:k<3) (a:Value) (ha:vQ a):Two B s u1 v1 t u2 v2 w0 (W.setCell ⟨B+1+1,k,none⟩ a):=by
 obtain ⟨z0,z1,z2,hz,n0,n1,n2⟩:=h.z
 refine ⟨by rw [World.size_setCell];exact h.size,h.below.setCell (by simp;omega) _,(Below.heap_setCell _ _ _ _ (by simp;omega)).trans h.x,(Below.heap_setCell _ _ _ _ (by simp)).trans h.y,?_⟩
 have h1:=jW (B+1+1) k _ 98 a hz
 match k,hk with
 | 0,_=>exact ⟨_,_,_,h1,ha,n1,n2⟩
 | 1,_=>exact ⟨_,_,_,h1,n0,ha,n2⟩
 | 2,_=>exact ⟨_,_,_,h1,n0,n1,ha⟩
theorem Two.put3 (h:Two B s u1 v1 t u2 v2 w0 W) (hB:w0.heap.size≤B) (a:Bool) (p q:Option Addr) (n c m d:Nat):Two B s u1 v1 t u2 v2 w0 (((W.setCell ⟨B+1+1,0,none⟩ (.bool a)).setCell ⟨B+1+1,1,none⟩ (.slice p n c)).setCell ⟨B+1+1,2,none⟩ (.slice q m d)) :=
 ((h.put1 hB 0 (by omega) _ (zD _)).put1 hB 1 (by omega) _ (yK _ _ _)).put1 hB 2 (by omega) _ (yK _ _ _)
theorem Two.rd (h:Two B s u1 v1 t u2 v2 w0 W) {p:Option Addr} {n:Nat} {l:List Nat} (hr:Rd W p n l) (k:Nat) (a:Value):Rd (W.setCell ⟨B+1+1,k,none⟩ a) p n l:=by
 refine ⟨hr.len,?_⟩
 rcases hr.cell with h0|⟨b,off,hp,hlt,hc⟩
 ·exact .inl h0
 ·by_cases hn:n=0
  ·exact .inl hn
  refine .inr ⟨b,off,hp,by rw [World.size_setCell];exact hlt,fun j hj=>?_⟩
  have hne:b≠B+1+1:=by
   rintro rfl
   obtain ⟨z0,z1,z2,hz,n0,n1,n2⟩:=h.z
   have h1:=hc 0 (by omega)
   rw [zU hz] at h1
   match yvX:off+0,h1 with
   | 0,h1=>simp at h1;exact n0 _ _ h1
   | 1,h1=>simp at h1;exact n1 _ _ h1
   | 2,h1=>simp at h1;exact n2 _ _ h1
   | k+3,h1=>simp at h1
  rw [← hc j hj]
  exact World.cell?_of_block (w:=W) (Below.heap_setCell _ _ _ _ hne)
theorem Two.nat1 (h:Two B s u1 v1 t u2 v2 w0 W) {v:Value} {x:Nat} (hx:yH W v x) (k:Nat) (a:Value):yH (W.setCell ⟨B+1+1,k,none⟩ a) v x:=by
 obtain ⟨p,n,c,l,h1,h2,h3,h4⟩:=hx
 exact ⟨p,n,c,l,h1,h2,h.rd h3 k a,h4⟩
theorem Two.nat3 (h:Two B s u1 v1 t u2 v2 w0 W) (hB:w0.heap.size≤B) {v:Value} {x:Nat} (hx:yH W v x) (a:Bool) (p q:Option Addr) (n c m d:Nat):yH (((W.setCell ⟨B+1+1,0,none⟩ (.bool a)).setCell ⟨B+1+1,1,none⟩ (.slice p n c)).setCell ⟨B+1+1,2,none⟩ (.slice q m d)) v x :=
 ((h.put1 hB 0 (by omega) _ (zD _)).put1 hB 1 (by omega) _ (yK _ _ _)).nat1 ((h.put1 hB 0 (by omega) _ (zD _)).nat1 (h.nat1 hx _ _) _ _) _ _
end Go.Proofs.YtgepehlpjpccaaaGreatDoor
namespace Big
def yL (s:Bool) (a b:Nat):Rat:=(if s then -(a:Rat) else (a:Rat))/(b:Rat)
end Big
set_option maxHeartbeats 6400000
set_option maxRecDepth 100000
namespace Go.Proofs.YtgepehlpjpccaaaGreatDoor
open Go.RowKit Big
structure One (B:Nat) (s:Bool) (u1 v1:Value) (w0 W:World):Prop where
 size:B+2≤W.heap.size
 below:Below w0.heap.size w0 W
 x:W.heap[B]?=some (.cells #[.bool s,u1,v1] 98 (0,0))
 z:∃ z0 z1 z2,W.heap[B+1]?=some (.cells #[z0,z1,z2] 98 (0,0))∧vQ z0∧vQ z1∧vQ z2
section
variable {B : Nat} {s : Bool} {u1 v1 : Value} {w0 W W' : World}
theorem One.next (h:One B s u1 v1 w0 W) (hb:Below W.heap.size W W'):One B s u1 v1 w0 W':=by
 have hs:=h.size
 exact ⟨Nat.le_trans hs hb.size,h.below.trans (hb.mono h.below.size),(hb.block _ (by omega)).trans h.x,h.z.elim fun z0 k=>k.elim fun z1 k=>k.elim fun z2 k=>⟨z0,z1,z2,(hb.block _ (by omega)).trans k.1,k.2⟩⟩
theorem One.start (w:World) (s:Bool) (u1 v1:Value):One w.heap.size s u1 v1 w ((w.alloc (.cells #[.bool s,u1,v1] 98)).alloc (.cells #[.bool false,.slice none 0 0,.slice none 0 0] 98)):=by
 have hb:∀ (W:World) (o:Obj),Below W.heap.size W (W.alloc o):=fun W o=>(Below.refl _ _).alloc (Nat.le_refl _) o
 refine ⟨by simp,(hb _ _).trans ((hb _ _).mono (by simp)),?_,⟨.bool false,.slice none 0 0,.slice none 0 0,?_,zD _,yK _ _ _,yK _ _ _⟩⟩
 ·rw [yaQ _ _ _ (by simp),yY]
 ·rw [show w.heap.size+1=(w.alloc (.cells #[.bool s,u1,v1] 98)).heap.size from by simp,yY]
theorem One.cells (h:One B s u1 v1 w0 W):W.cell? ⟨B,0,none⟩=some (.bool s)∧W.cell? ⟨B,1,none⟩=some u1∧W.cell? ⟨B,2,none⟩=some v1:=⟨zU h.x 0,zU h.x 1,zU h.x 2⟩
theorem One.slots (h:One B s u1 v1 w0 W):∃ z0 z1 z2,W.cell? ⟨B+1,0,none⟩=some z0∧W.cell? ⟨B+1,1,none⟩=some z1∧W.cell? ⟨B+1,2,none⟩=some z2 ∧
  W.frozen? ⟨B+1,0,none⟩=false∧W.frozen? ⟨B+1,1,none⟩=false∧W.frozen? ⟨B+1,2,none⟩=false:=by
 obtain ⟨z0,z1,z2,hz,-⟩:=h.z
 exact ⟨z0,z1,z2,zU hz 0,zU hz 1,zU hz 2,foh hz 0,foh hz 1,foh hz 2⟩
theorem One.put1 (h:One B s u1 v1 w0 W) (hB:w0.heap.size≤B) (k:Nat) (hk:k<3) (a:Value) (ha:vQ a):One B s u1 v1 w0 (W.setCell ⟨B+1,k,none⟩ a):=by
 obtain ⟨z0,z1,z2,hz,n0,n1,n2⟩:=h.z
 refine ⟨by rw [World.size_setCell];exact h.size,h.below.setCell (by simp;omega) _,(Below.heap_setCell _ _ _ _ (by simp)).trans h.x,?_⟩
 have h1:=jW (B+1) k _ 98 a hz
 match k,hk with
 | 0,_=>exact ⟨_,_,_,h1,ha,n1,n2⟩
 | 1,_=>exact ⟨_,_,_,h1,n0,ha,n2⟩
 | 2,_=>exact ⟨_,_,_,h1,n0,n1,ha⟩
theorem One.put3 (h:One B s u1 v1 w0 W) (hB:w0.heap.size≤B) (a:Bool) (p q:Option Addr) (n c m d:Nat):One B s u1 v1 w0 (((W.setCell ⟨B+1,0,none⟩ (.bool a)).setCell ⟨B+1,1,none⟩ (.slice p n c)).setCell ⟨B+1,2,none⟩ (.slice q m d)) :=
 ((h.put1 hB 0 (by omega) _ (zD _)).put1 hB 1 (by omega) _ (yK _ _ _)).put1 hB 2 (by omega) _ (yK _ _ _)
theorem yoO {g:Nat} {z0 z1 z2:Value} (hz:W.heap[g]?=some (.cells #[z0,z1,z2] 98 (0,0))) (n0:vQ z0) (n1:vQ z1) (n2:vQ z2) {v:Value} {x:Nat} (hx:yH W v x) (k:Nat) (a:Value):yH (W.setCell ⟨g,k,none⟩ a) v x:=by
 obtain ⟨p,n,c,l,h1,h2,hr,h4⟩:=hx
 refine ⟨p,n,c,l,h1,h2,⟨hr.len,?_⟩,h4⟩
 rcases hr.cell with h0|⟨b,off,hp,hlt,hc⟩
 ·exact .inl h0
 ·by_cases hn:n=0
  ·exact .inl hn
  refine .inr ⟨b,off,hp,by rw [World.size_setCell];exact hlt,fun j hj=>?_⟩
  have hne:b≠g:=by
   rintro rfl
   have h1:=hc 0 (by omega)
   rw [zU hz] at h1
   match yvX:off+0,h1 with
   | 0,h1=>simp at h1;exact n0 _ _ h1
   | 1,h1=>simp at h1;exact n1 _ _ h1
   | 2,h1=>simp at h1;exact n2 _ _ h1
   | k+3,h1=>simp at h1
  rw [← hc j hj]
  exact World.cell?_of_block (w:=W) (Below.heap_setCell _ _ _ _ hne)
theorem One.nat1 (h:One B s u1 v1 w0 W) {v:Value} {x:Nat} (hx:yH W v x) (k:Nat) (a:Value):yH (W.setCell ⟨B+1,k,none⟩ a) v x:=by
 obtain ⟨z0,z1,z2,hz,n0,n1,n2⟩:=h.z
 exact yoO hz n0 n1 n2 hx k a
theorem One.nat3 (h:One B s u1 v1 w0 W) (hB:w0.heap.size≤B) {v:Value} {x:Nat} (hx:yH W v x) (a:Bool) (p q:Option Addr) (n c m d:Nat):yH (((W.setCell ⟨B+1,0,none⟩ (.bool a)).setCell ⟨B+1,1,none⟩ (.slice p n c)).setCell ⟨B+1,2,none⟩ (.slice q m d)) v x :=
 ((h.put1 hB 0 (by omega) _ (zD _)).put1 hB 1 (by omega) _ (yK _ _ _)).nat1 ((h.put1 hB 0 (by omega) _ (zD _)).nat1 (h.nat1 hx _ _) _ _) _ _
end
structure Res (B:Nat) (w0 W:World):Prop where
 size:B+1≤W.heap.size
 below:Below w0.heap.size w0 W
 z:∃ z0 z1 z2,W.heap[B]?=some (.cells #[z0,z1,z2] 98 (0,0))∧vQ z0∧vQ z1∧vQ z2
section
variable {B : Nat} {w0 W W' : World}
theorem Res.next (h:Res B w0 W) (hb:Below W.heap.size W W'):Res B w0 W':=by
 have hs:=h.size
 exact ⟨Nat.le_trans hs hb.size,h.below.trans (hb.mono h.below.size),h.z.elim fun z0 k=>k.elim fun z1 k=>k.elim fun z2 k=>⟨z0,z1,z2,(hb.block _ (by omega)).trans k.1,k.2⟩⟩
theorem Res.slots (h:Res B w0 W):∃ z0 z1 z2,W.cell? ⟨B,0,none⟩=some z0∧W.cell? ⟨B,1,none⟩=some z1∧W.cell? ⟨B,2,none⟩=some z2∧W.frozen? ⟨B,0,none⟩=false∧W.frozen? ⟨B,1,none⟩=false∧W.frozen? ⟨B,2,none⟩=false:=by
 obtain ⟨z0,z1,z2,hz,-⟩:=h.z
 exact ⟨z0,z1,z2,zU hz 0,zU hz 1,zU hz 2,foh hz 0,foh hz 1,foh hz 2⟩
theorem Res.put1 (h:Res B w0 W) (hB:w0.heap.size≤B) (k:Nat) (hk:k<3) (a:Value) (ha:vQ a):Res B w0 (W.setCell ⟨B,k,none⟩ a):=by
 obtain ⟨z0,z1,z2,hz,n0,n1,n2⟩:=h.z
 refine ⟨by rw [World.size_setCell];exact h.size,h.below.setCell (by simp;omega) _,?_⟩
 have h1:=jW B k _ 98 a hz
 match k,hk with
 | 0,_=>exact ⟨_,_,_,h1,ha,n1,n2⟩
 | 1,_=>exact ⟨_,_,_,h1,n0,ha,n2⟩
 | 2,_=>exact ⟨_,_,_,h1,n0,n1,ha⟩
theorem Res.put3 (h:Res B w0 W) (hB:w0.heap.size≤B) (a:Bool) (p q:Option Addr) (n c m d:Nat):Res B w0 (((W.setCell ⟨B,0,none⟩ (.bool a)).setCell ⟨B,1,none⟩ (.slice p n c)).setCell ⟨B,2,none⟩ (.slice q m d)) :=
 ((h.put1 hB 0 (by omega) _ (zD _)).put1 hB 1 (by omega) _ (yK _ _ _)).put1 hB 2 (by omega) _ (yK _ _ _)
theorem Res.nat1 (h:Res B w0 W) {v:Value} {x:Nat} (hx:yH W v x) (k:Nat) (a:Value):yH (W.setCell ⟨B,k,none⟩ a) v x:=by
 obtain ⟨z0,z1,z2,hz,n0,n1,n2⟩:=h.z
 exact yoO hz n0 n1 n2 hx k a
theorem Res.nat3 (h:Res B w0 W) (hB:w0.heap.size≤B) {v:Value} {x:Nat} (hx:yH W v x) (a:Bool) (p q:Option Addr) (n c m d:Nat):yH (((W.setCell ⟨B,0,none⟩ (.bool a)).setCell ⟨B,1,none⟩ (.slice p n c)).setCell ⟨B,2,none⟩ (.slice q m d)) v x :=
 ((h.put1 hB 0 (by omega) _ (zD _)).put1 hB 1 (by omega) _ (yK _ _ _)).nat1 ((h.put1 hB 0 (by omega) _ (zD _)).nat1 (h.nat1 hx _ _) _ _) _ _
theorem Res.start (w:World):Res w.heap.size w (w.alloc (.cells #[.bool false,.slice none 0 0,.slice none 0 0] 98)) :=
 ⟨by simp,(Below.refl _ _).alloc (Nat.le_refl _) _,.bool false,.slice none 0 0,.slice none 0 0,yY _ _,zD _,yK _ _ _,yK _ _ _⟩
end
theorem GB (W:World) (o:Obj):Below W.heap.size W (W.alloc o):=(Below.refl _ _).alloc (Nat.le_refl _) o
end Go.Proofs.YtgepehlpjpccaaaGreatDoor
