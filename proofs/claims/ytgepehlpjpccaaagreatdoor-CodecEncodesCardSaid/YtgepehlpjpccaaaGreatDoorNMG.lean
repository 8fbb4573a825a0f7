/- Contracts. -/
import Derived.Test.YtgepehlpjpccaaaGreatDoorGDQ
set_option maxHeartbeats 4000000
set_option maxRecDepth 100000
namespace Go.Proofs.YtgepehlpjpccaaaGreatDoor
section
open Go.RowKit
open Go.Lib
theorem yei (p:Oa) (len c:Nat) (l:Lb) (w:World) (hl:len≤20000) (h:Came w p len c l) :
  Calls Tryz.prog 162 #[.slice p len c] w (App w.heap.size w (.slice none 0 0) (spL l)):=by
 have H0:=h_ h
 have HG0:Hid (Grew w.heap.size w (.slice none 0 0) [] w (.slice none 0 0)):=h_ (Grew.refl (l:=[]) (World.ownsRow_nil w w.heap.size 5 1))
 obtain ⟨R,HR⟩:=ey (spL l)
 rw [← HR.out]
 clear h
 go_in
 go_wp2
 go_loopw [0,3] (fun bv ov wr=>∃ (q:Oa) (len1 c1:Nat) (l1 D:Lb),bv=.slice q len1 c1∧len1≤20000∧Hid (Came w q len1 c1 l1)∧Hid (D++spL l1=R)∧Hid (D.length≤20020000-1001*len1)∧Hid (Grew w.heap.size w (.slice none 0 0) D wr ov)) (fun bv _ _=>match bv with | .slice _ n _=>n|_=>0)
 case atStart=>exact ⟨p,len,c,l,[],rfl,hl,H0,h_ HR.out.symm,h_ (Nat.zero_le _),HG0⟩
 case round =>
  obtain ⟨q,len1,c1,l1,D,rfl,hl1,HC,HD,HDL,HG⟩:=hrel
  by_cases h0:0<len1
  ·obtain ⟨b0,off,rfl,-,-⟩:=ybl HC.out.lies (t:=0) (by rw [HC.out.hl];exact h0)
   have hbw:Hid (Be w wr):=h_ (HG.out.below nl (by intro k hk;cases hk))
   obtain ⟨m,HM⟩:=ey (min len1 128)
   have hm1:1≤m:=by rw [HM.out];omega
   have hm2:m≤len1:=by rw [HM.out];omega
   have hm3:m≤128:=by rw [HM.out];omega
   have yjs:(if 128<(len1:Int) then (128:Int) else (len1:Int))=(m:Int):=by rw [HM.out];split<;>omega
   have ynI:min (128:Int) (len1:Int)=(m:Int):=by rw [HM.out];omega
   have hmin3:min (len1:Int) 128=(m:Int):=by rw [HM.out];omega
   have h0':0<(len1:Int):=by omega
   have hi1:1≤(m:Int):=by omega
   have hi2:(m:Int)≤(len1:Int):=by omega
   have hi3:(m:Int)≤128:=by omega
   have hil:(len1:Int)≤20000:=by omega
   have hic:(len1:Int)≤(c1:Int):=by have:=HC.out.hc;omega
   have hic2:(m:Int)≤(c1:Int):=by omega
   obtain ⟨y,HY⟩:∃ y:UInt8,Hid (y=UInt8.ofNat (m-1)):=⟨_,rfl⟩
   have hyn:y.toNat=m-1:=by rw [HY.out,UInt8.toNat_ofNat'];omega
   have hyi:(m:Int)-1=((y.toNat:Nat):Int):=by rw [hyn];omega
   have hyl:((y.toNat:Nat):Int)≤127:=by rw [hyn];omega
   have jE:Hid (spL l1=y::(l1.take m++spL (l1.drop m))):=h_ (by rw [ydp (by rw [HC.out.hl];exact h0),HC.out.hl,← HM.out,← HY.out])
   have HG1:=h_ (HG.out.trans (Grew.of_below HG.out.own ((Below.refl _ wr).alloc nl (.cells #[.int .u8 ((y.toNat:Nat):Int)] 5))))
   have zX:=h_ (ypX wr y)
   have hDl:D.length≤20020000:=Nat.le_trans HDL.out (by omega)
   have hbl:Hid (D.length+1≤140737488355328∧w.heap.size≤(wr.alloc (.cells #[.int .u8 ((y.toNat:Nat):Int)] 5)).heap.size):=h_ ⟨by omega,by have:=hbw.out.size;simp;omega⟩
   clear hyn
   go_wp2_with (at_builtin;refine yG rfl (.tmp 11) (.tmp 15) rfl w.heap.size _ D.length D rfl rfl HG1.out.own _ 1 1 [y] rfl rfl zX.out hbl.out.1 hbl.out.2 ?_)
   intro v4 w4 hg4
   obtain ⟨D4,HD4⟩:∃ D4,Hid (D4=D++[y]):=⟨D++[y],h_ rfl⟩
   rw [← HD4.out] at hg4
   have G4:=h_ (HG1.out.trans hg4)
   clear hg4
   have hB4:Hid (Be w w4):=h_ (G4.out.below nl (by intro k hk;cases hk))
   have hD4:Hid (D4.length=D.length+1):=h_ (by rw [HD4.out,List.length_append];rfl)
   have hbs4:Hid (Bs w4 (some ⟨b0,off,none⟩) (l1.take m)):=h_ (by
    have h:=yaB (HC.out.lies.below hB4.out) 0 m (by rw [HC.out.hl];omega) (Nat.add_zero off).symm
    rwa [List.drop_zero] at h)
   have htl:(l1.take m).length=m:=by rw [List.length_take,HC.out.hl];omega
   have yju:Hid (D4.length+m≤140737488355328∧w.heap.size≤w4.heap.size):=h_ ⟨by rw [hD4.out];omega,hB4.out.size⟩
   go_wp2_with (at_builtin;refine yG rfl (.tmp 17) (.tmp 20) rfl w.heap.size v4 D4.length D4 rfl rfl G4.out.own _ m _ (l1.take m) rfl htl hbs4.out yju.out.1 yju.out.2 ?_)
   intro v5 w5 hg5
   have G5:=h_ (G4.out.trans hg5)
   clear hg5 htl
   have HD5:Hid ((D4++l1.take m)++spL (l1.drop m)=R):=h_ (by rw [← HD.out,jE.out,HD4.out];simp)
   have ynK:Hid ((D4++l1.take m).length≤20020000-1001*(len1-m)):=h_ (by
    have h1:=HDL.out
    rw [List.length_append,hD4.out,List.length_take];omega)
   by_cases hcm:c1=m
   ·subst hcm
    have hlc:len1=c1:=by have:=HC.out.hc;omega
    subst hlc
    have hd0:l1.drop len1=[]:=List.drop_of_length_le (by rw [HC.out.hl];exact Nat.le_refl _)
    rw [hd0] at HD5
    have HC5:Hid (Came w (some ⟨b0,off,none⟩) 0 0 []):=h_ ⟨rfl,Nat.le_refl _,Bs.nil _ _⟩
    have hDL6:Hid ((D4++l1.take len1).length≤20020000-1001*0):=h_ (by have:=ynK.out;rwa [Nat.sub_self] at this)
    go_wp2
    go_roundw
    case rel=>exact ⟨_,0,0,[],_,rfl,by decide,HC5,HD5,hDL6,G5⟩
    case measure=>simp;omega
   ·have hcm':m<c1:=by have:=HC.out.hc;omega
    have HC5:=h_ (HC.out.rest hm2 hcm')
    go_wp2
    go_roundw
    case rel=>exact ⟨_,len1-m,c1-m,l1.drop m,_,rfl,by omega,HC5,HD5,ynK,G5⟩
    case measure=>simp;omega
  ·obtain rfl:len1=0:=by omega
   have hl0:l1=[]:=List.eq_nil_of_length_eq_zero HC.out.hl
   subst hl0
   have e:=HD.out
   rw [ygs,List.append_nil] at e
   rw [e] at HG
   go_wp2
   go_ret
   exact ⟨_,rfl,HG.out⟩
def yu1 (l:Lb) (a d:Nat) (w:World) (e:Ending) (w':World):Prop:=Be w w'∧∃ n:Nat,IsRun l a d n∧e=.returned (.int .i64 (n:Int))
theorem ytu (b0 off len c a d:Nat) (l:Lb) (w:World) (hl:len≤20000) (h1:1≤d) (h2:d≤a) (h3:a<len) (h:Came w (some ⟨b0,off,none⟩) len c l) :
  Calls Tryz.prog 196 #[.slice (some ⟨b0,off,none⟩) len c,.int .i64 (a:Int),.int .i64 (d:Int)] w (yu1 l a d w):=by
 have H:=h_ h
 have il:(len:Int)≤20000:=by omega
 have ia:(a:Int)<(len:Int):=by omega
 have id:1≤(d:Int):=by omega
 have ida:(d:Int)≤(a:Int):=by omega
 clear h
 go_in
 go_wp2
 go_loopw [7] (fun nv wr=>∃ n:Nat,n≤131∧nv=.int .i64 n∧Hid (∀ j,j<n→yai l a d j)∧Hid (Be w wr)) (fun nv _=>131-(Go.RowKit.intOf nv).toNat)
 case atStart=>exact ⟨0,by decide,rfl,h_ (fun j hj=>by omega),h_ bR⟩
 case round =>
  obtain ⟨n,hn,rfl,HA,HB⟩:=hrel
  have hni:(n:Int)≤131:=by omega
  by_cases hn1:n<131
  ·have g9:decide ((n:Int)<131)=true:=decide_eq_true (by omega)
   have g9':(n:Int)<131:=by omega
   obtain ⟨an,HAN⟩:=ey (a+n)
   have han:(a:Int)+(n:Int)=(an:Int):=by rw [HAN.out];omega
   have yxA:(an:Int)≤20131:=by rw [HAN.out];omega
   by_cases hlt:an<len
   ·have g16:decide (an<len)=true:=decide_eq_true hlt
    have g16':(an:Int)<(len:Int):=by omega
    obtain ⟨bk,HBK⟩:=ey (an-d)
    have hbk:(an:Int)-(d:Int)=(bk:Int):=by rw [HBK.out,HAN.out];omega
    have hbkl:(bk:Int)<(len:Int):=by rw [HBK.out];omega
    obtain ⟨b1,o1,x,e1,-,hc1,hx,hxi⟩:=(H.out.lies.below HB.out).at (k:=an) (by rw [H.out.hl];exact hlt)
    cases e1
    obtain ⟨b1,o1,y,e1,-,hc2,hy,hyi⟩:=(H.out.lies.below HB.out).at (k:=bk) (by rw [H.out.hl,HBK.out];omega)
    cases e1
    by_cases hxy:x=y
    ·have hag:Hid (yai l a d n):=h_ ⟨by rw [H.out.hl,← HAN.out];exact hlt,by
      have hx':=hx.out
      have hy':=hy.out
      rw [HAN.out] at hx'
      rw [HBK.out,HAN.out] at hy'
      exact UInt8.toNat_inj.1 (by rw [hx',hy',hxy])⟩
     subst hxy
     have HA2:Hid (∀ j,j<n+1→yai l a d j):=h_ (fun j hj=>by
      by_cases e:j=n
      ·rw [e];exact hag.out
      ·exact HA.out j (by omega))
     go_wp2_with fail
     go_quiet (fail)
     go_wp2
     go_roundw
     case rel=>exact ⟨n+1,by omega,by go_num,HA2,h_ (GT HB.out _)⟩
     case measure=>simp [Go.RowKit.intOf];omega
    ·have hag:Hid (¬ yai l a d n):=h_ (fun h=>hxy (by
      have hx':=hx.out
      have hy':=hy.out
      rw [HAN.out] at hx'
      rw [HBK.out,HAN.out] at hy'
      rw [← hx',← hy',h.2]))
     have hxi2:((x:Int)==(y:Int))=false:=by rw [beq_eq_false_iff_ne];omega
     have hxi3:¬ (x:Int)=(y:Int):=by omega
     have yD:Hid (∀ nq,yu1 l a d w (.returned (.int .i64 (n:Int))) (wr.drewN nq)):=h_ (fun nq=>⟨GT HB.out _,n,⟨hn,HA.out,.inr hag.out⟩,rfl⟩)
     go_wp2_with fail
     go_quiet (fail)
     go_wp2
     go_ret
     exact yD.out _
   ·have g16:decide (an<len)=false:=decide_eq_false hlt
    have g16':¬ (an:Int)<(len:Int):=by omega
    have yD:Hid (∀ nq,yu1 l a d w (.returned (.int .i64 (n:Int))) (wr.drewN nq)):=h_ (fun nq=>⟨GT HB.out _,n,⟨hn,HA.out,.inr (fun h=>hlt (by have:=h.1;rw [H.out.hl] at this;rw [HAN.out];exact this))⟩,rfl⟩)
    go_wp2_with fail
    go_quiet (fail)
    go_wp2
    go_ret
    exact yD.out _
  ·obtain rfl:n=131:=by omega
   have yD:Hid (∀ nq,yu1 l a d w (.returned (.int .i64 131)) (wr.drewN nq)):=h_ (fun nq=>⟨GT HB.out _,131,⟨hn,HA.out,.inl rfl⟩,rfl⟩)
   go_wp2_with fail
   go_quiet (fail)
   go_wp2
   go_ret
   exact yD.out _
theorem ymf (b0 off len c a:Nat) (l:Lb) (w:World) (hl:len≤20000) (h3:a<len) (h:Came w (some ⟨b0,off,none⟩) len c l) :
  Calls Tryz.prog 161 #[.slice (some ⟨b0,off,none⟩) len c,.int .i64 (a:Int)] w fun e w'=>Be w w'∧e=.returned (.tuple #[.int .i64 ((jH l a a).1:Int),.int .i64 ((jH l a a).2:Int)]):=by
 have H:=h_ h
 have ia:(a:Int)≤20000:=by omega
 have HL:=h_ hl
 have H3:=h_ h3
 clear h hl h3
 go_in
 go_wp2
 go_loopw [6,7,8] (fun nv dv iv wr=>∃ D:Nat,D≤a∧iv=.int .i64 ((D:Int)+1)∧nv=.int .i64 ((jH l a D).1:Int)∧dv=.int .i64 ((jH l a D).2:Int)∧Hid (Be w wr)) (fun _ _ iv _=>a+1-(Go.RowKit.intOf iv).toNat)
 case atStart=>exact ⟨0,Nat.zero_le _,rfl,rfl,rfl,h_ bR⟩
 case round =>
  obtain ⟨D,hD,rfl,rfl,rfl,HB⟩:=hrel
  obtain ⟨D1,HD1⟩:=ey (D+1)
  have hd1:(D:Int)+1=(D1:Int):=by rw [HD1.out];omega
  rw [hd1]
  obtain ⟨n0,HN0⟩:=ey ((jH l a D).1)
  obtain ⟨d0,HD0⟩:=ey ((jH l a D).2)
  rw [← HN0.out,← HD0.out]
  have hn0:(n0:Int)≤131:=by rw [HN0.out];have:=(ycO l a D).1;omega
  have hd0:(d0:Int)≤20000:=by rw [HD0.out];have:=(ycO l a D).2;omega
  by_cases hDa:D<a
  ·have g1:(D1:Int)≤(a:Int):=by rw [HD1.out];omega
   have g1d:decide (D1≤a)=true:=decide_eq_true (by omega)
   have g2:(D1:Int)≤65535:=by omega
   have g2d:decide ((D1:Int)≤65535)=true:=decide_eq_true g2
   have HR:=h_ (ytu b0 off len c a D1 l wr HL.out (by rw [HD1.out];omega) (by omega) H3.out ⟨H.out.hl,H.out.hc,H.out.lies.below HB.out⟩)
   go_wp2_with fail
   refine (HR.out).mono ?_
   rintro e w2 ⟨hb2,n,hn,rfl⟩
   have en:n=rn l a D1:=hn.one (ye6 l a D1)
   have jQ:=th HB hb2
   have hni:(n:Int)≤131:=by have:=hn.le;omega
   clear hb2 hn
   by_cases hgt:n0<n
   ·have hgt':(n0:Int)<(n:Int):=by omega
    have eb:jH l a D1=(n,D1):=by rw [HD1.out,jH,← HN0.out,← HD1.out,← en,if_pos hgt]
    clear en
    go_wp2
    go_roundw
    case rel=>exact ⟨D1,by omega,by go_num,by rw [eb],by rw [eb],jQ⟩
    case measure=>simp [Go.RowKit.intOf];omega
   ·have hgt':¬ (n0:Int)<(n:Int):=by omega
    have eb:jH l a D1=(n0,d0):=by rw [HD1.out,jH,← HN0.out,← HD1.out,← en,if_neg hgt,HN0.out,HD0.out]
    clear en
    go_wp2
    go_roundw
    case rel=>exact ⟨D1,by omega,by go_num,by rw [eb],by rw [eb],jQ⟩
    case measure=>simp [Go.RowKit.intOf];omega
  ·obtain rfl:D=a:=by omega
   have g1:¬ (D1:Int)≤(D:Int):=by rw [HD1.out];omega
   have g1d:decide (D1≤D)=false:=decide_eq_false (by rw [HD1.out];omega)
   go_wp2
   go_ret2
   exact ⟨HB.out,by rw [← HN0.out,← HD0.out];rfl⟩
theorem yoj (b0 off len c:Nat) (l:Lb) (w:World) (hl:len≤20000) (h:Came w (some ⟨b0,off,none⟩) len c l) :
  Calls Tryz.prog 107 #[.slice (some ⟨b0,off,none⟩) len c] w (zR (ybP l) w):=by
 have H:=h_ h
 have il:(len:Int)≤20000:=by omega
 have HL:=h_ hl
 have hc:=h.hc
 have ic:(len:Int)≤(c:Int):=by omega
 have hlen:=h_ h.hl
 obtain ⟨R,HR⟩:=ey (ybP l)
 rw [← HR.out]
 have HG0:Hid (Grew w.heap.size w (.slice none 0 0) [] w (.slice none 0 0)):=h_ (Grew.refl (l:=[]) (World.ownsRow_nil w w.heap.size 5 1))
 clear h hl
 go_in
 go_wp2
 go_loopw [4,5,6] (fun ov fv av wr=>∃ (f fr a:Nat) (D:Lb),fr≤a∧a≤len∧fv=.int .i64 fr∧av=.int .i64 a∧Hid (len-a≤f)∧Hid (D++dcF l f fr a=R)∧Hid (D.length≤2*fr)∧Hid (Grew w.heap.size w (.slice none 0 0) D wr ov)) (fun _ _ av _=>len-(Go.RowKit.intOf av).toNat)
 case atStart=>exact ⟨len,0,0,[],Nat.le_refl _,Nat.zero_le _,rfl,rfl,h_ nl,h_ (by rw [HR.out,ybP,hlen.out];rfl),h_ (Nat.zero_le _),HG0⟩
 case round =>
  obtain ⟨f,fr,a,D,hfa,hal,rfl,rfl,HF,HD,HDL,HG⟩:=hrel
  have hbw:Hid (Be w wr):=h_ (HG.out.below nl (by intro k hk;cases hk))
  have ia:(a:Int)≤(len:Int):=by omega
  have ifr:(fr:Int)≤(a:Int):=by omega
  have hCa:=h_ (Came.mk (w:=wr) (p:=some ⟨b0,off,none⟩) (c:=c) H.out.hl H.out.hc (H.out.lies.below hbw.out))
  by_cases hlt:a<len
  ·have ilt:(a:Int)<(len:Int):=by omega
   obtain ⟨n,HN⟩:=ey ((jH l a a).1)
   obtain ⟨d,HDd⟩:=ey ((jH l a a).2)
   have ysi:n≤131:=by rw [HN.out];exact (ycO l a a).1
   have hda:d≤a:=by rw [HDd.out];exact (ycO l a a).2
   have ycd:a+n≤len:=by rw [HN.out,← hlen.out];exact ycC l a (by rw [hlen.out];exact hal) a
   have HLg:=h_ (ymf b0 off len c a l wr HL.out hlt hCa.out)
   rw [← HN.out,← HDd.out] at HLg
   obtain ⟨f1,rfl⟩:∃ f1,f=f1+1:=⟨f-1,by have:=HF.out;omega⟩
   have in131:(n:Int)≤131:=by omega
   have id1000:(d:Int)≤20000:=by have:=HL.out;omega
   go_wp2_with fail
   refine (HLg.out).mono ?_
   rintro e w2 ⟨hb2,rfl⟩
   have G2:=h_ (HG.out.trans (Grew.of_below HG.out.own hb2))
   have hB2:=th hbw hb2
   clear hb2
   by_cases hn4:n<4
   ·have in4:(n:Int)<4:=by omega
    have jE:Hid (D++dcF l f1 fr (a+1)=R):=h_ (by rw [← HD.out,dcF,if_pos (by rw [hlen.out];exact hlt),← HN.out,if_pos hn4])
    go_wp2
    go_roundw
    case rel=>exact ⟨f1,fr,a+1,D,by omega,by omega,rfl,by go_num,h_ (by have:=HF.out;omega),jE,HDL,G2⟩
    case measure=>simp [Go.RowKit.intOf];omega
   ·have in4:¬ (n:Int)<4:=by omega
    obtain ⟨k,HK⟩:=ey (a-fr)
    have fk:a-fr=k:=HK.out.symm
    have ifc:(fr:Int)<(c:Int):=by omega
    have iac:(a:Int)≤(c:Int):=by omega
    obtain ⟨s1,HS1⟩:=ey ((l.drop fr).take k)
    have hs1:Came w2 (some ⟨b0,off+fr,none⟩) k (c-fr) s1:=⟨by rw [HS1.out,List.length_take,List.length_drop,hlen.out,HK.out];omega,by rw [HK.out];omega,by rw [HS1.out];exact yaB (H.out.lies.below hB2.out) fr k (by rw [hlen.out,HK.out];omega) rfl⟩
    have HSp:=h_ (yei (some ⟨b0,off+fr,none⟩) k (c-fr) s1 w2 (by rw [HK.out];have:=HL.out;omega) hs1)
    have yhX:Hid ((spL s1).length≤2*k):=h_ (by have:=ygt k s1 (by rw [hs1.hl];exact Nat.le_refl _);rwa [hs1.hl] at this)
    have jE:Hid (D++(spL s1++(tok n d++dcF l f1 (a+n) (a+n)))=R):=h_ (by rw [← HD.out,dcF,if_pos (by rw [hlen.out];exact hlt),← HN.out,if_neg hn4,← HDd.out,HS1.out,HK.out])
    clear hs1
    go_wp2_with fail
    refine (HSp.out).mono ?_
    rintro e w3 ⟨v3,rfl,hg3⟩
    have hb3:Be w2 w3:=hg3.below nl (by intro k hk;cases hk)
    obtain ⟨p3,c3,rfl,hs3,-⟩:=yS hg3.own
    obtain ⟨S,HS⟩:=ey (spL s1)
    rw [← HS.out] at hs3 yhX jE ⊢
    obtain ⟨m3,HM3⟩:=ey (S.length)
    rw [← HM3.out]
    have HS3:=h_ hs3
    have G3:=h_ (G2.out.trans (Grew.of_below G2.out.own hb3))
    have hB3:=th hB2 hb3
    have hDl:D.length≤40000:=by have:=HDL.out;have:=HL.out;omega
    have hm3:m3≤40000:=by have:=yhX.out;have:=HL.out;rw [HM3.out];rw [HK.out] at *;omega
    have ycI:Hid (D.length+m3≤140737488355328∧w.heap.size≤w3.heap.size):=h_ ⟨by omega,hB3.out.size⟩
    clear hg3 hb3 hs3
    go_wp2_with (at_builtin;refine yG rfl (.tmp 26) (.tmp 31) rfl w.heap.size _ D.length D rfl rfl G3.out.own p3 m3 c3 S rfl HM3.out.symm HS3.out ycI.out.1 ycI.out.2 ?_)
    intro v4 w4 hg4
    obtain ⟨D4,HD4⟩:=ey (D++S)
    rw [← HD4.out] at hg4
    have G4:=h_ (G3.out.trans hg4)
    clear hg4
    have hB4:Hid (Be w w4):=h_ (G4.out.below nl (by intro k hk;cases hk))
    have hD4:Hid (D4.length≤2*a):=h_ (by
     have h1:=HDL.out
     have h2:=yhX.out
     rw [HD4.out,List.length_append];rw [HK.out] at h2;omega)
    obtain ⟨x,HX⟩:∃ x:UInt8,Hid (x=UInt8.ofNat (124+n)):=⟨_,rfl⟩
    obtain ⟨y,HY⟩:∃ y:UInt8,Hid (y=UInt8.ofNat (d/256)):=⟨_,rfl⟩
    obtain ⟨z,HZ⟩:∃ z:UInt8,Hid (z=UInt8.ofNat (d%256)):=⟨_,rfl⟩
    have hx:x.toNat=124+n:=by rw [HX.out,UInt8.toNat_ofNat'];omega
    have hy:y.toNat=d/256:=by rw [HY.out,UInt8.toNat_ofNat'];omega
    have hz:z.toNat=d%256:=by rw [HZ.out,UInt8.toNat_ofNat'];omega
    have G4a:=h_ (G4.out.trans (Grew.of_below G4.out.own ((Below.refl _ w4).alloc nl (.cells #[.int .u8 (128+(n:Int)-4),.int .u8 ((d:Int)/256),.int .u8 ((d:Int)%256)] 5))))
    have htk:Hid (Bs (w4.alloc (.cells #[.int .u8 (128+(n:Int)-4),.int .u8 ((d:Int)/256),.int .u8 ((d:Int)%256)] 5)) (some ⟨w4.heap.size,0,none⟩) [x,y,z]):=h_ (by
     have h:=ysS w4 x y z
     rwa [show ((x.toNat:Nat):Int)=128+(n:Int)-4 by omega,show ((y.toNat:Nat):Int)=(d:Int)/256 by omega,show ((z.toNat:Nat):Int)=(d:Int)%256 by omega] at h)
    have yju:Hid (D4.length+3≤140737488355328∧w.heap.size≤(w4.alloc (.cells #[.int .u8 (128+(n:Int)-4),.int .u8 ((d:Int)/256),.int .u8 ((d:Int)%256)] 5)).heap.size):=h_ ⟨by have:=hD4.out;have:=HL.out;omega,by have:=hB4.out.size;simp;omega⟩
    have yxB:Hid (tok n d=[x,y,z]):=h_ (by rw [tok,HX.out,HY.out,HZ.out])
    clear hx hy hz
    go_wp2_with (at_builtin;refine yG rfl (.tmp 33) (.tmp 43) rfl w.heap.size v4 D4.length D4 rfl rfl G4a.out.own _ 3 3 [x,y,z] rfl rfl htk.out yju.out.1 yju.out.2 ?_)
    intro v5 w5 hg5
    have G5:=h_ (G4a.out.trans hg5)
    clear hg5
    obtain ⟨an,HAN⟩:=ey (a+n)
    have han:(a:Int)+(n:Int)=(an:Int):=by rw [HAN.out];omega
    have yu7:an≤len:=by rw [HAN.out];exact ycd
    have yxA:(an:Int)≤20000:=by omega
    have hD5:Hid ((D4++[x,y,z])++dcF l f1 an an=R):=h_ (by rw [← jE.out,HD4.out,yxB.out,HAN.out];simp only [List.append_assoc])
    have ynK:Hid ((D4++[x,y,z]).length≤2*an):=h_ (by
     have h1:=hD4.out
     rw [List.length_append];show D4.length+3≤_
     rw [HAN.out];omega)
    go_wp2
    go_roundw
    case rel=>exact ⟨f1,an,an,D4++[x,y,z],Nat.le_refl _,yu7,rfl,rfl,h_ (by have:=HF.out;rw [HAN.out];omega),hD5,ynK,G5⟩
    case measure=>simp [Go.RowKit.intOf];rw [HAN.out];omega
  ·obtain rfl:a=len:=by omega
   have hnl:¬ a<l.length:=by rw [hlen.out];omega
   have e:=HD.out
   rw [ygu hnl] at e
   have ilt:¬ (a:Int)<(a:Int):=by omega
   have ifc:(fr:Int)≤(c:Int):=by omega
   obtain ⟨k,HK⟩:=ey (a-fr)
   have fk:a-fr=k:=HK.out.symm
   obtain ⟨s1,HS1⟩:=ey (l.drop fr)
   rw [← HS1.out] at e
   have HSp:Hid (∀ q c1,Came wr q k c1 s1→Calls Tryz.prog 162 #[.slice q k c1] wr (App wr.heap.size wr (.slice none 0 0) (spL s1))):=h_ (fun q c1 hq=>yei q k c1 s1 wr (by rw [HK.out];have:=HL.out;omega) hq)
   have hsl:s1.length=k:=by rw [HS1.out,List.length_drop,hlen.out,HK.out]
   have yhX:Hid ((spL s1).length≤2*k):=h_ (by have:=ygt k s1 (by rw [hsl];exact Nat.le_refl _);rwa [hsl] at this)
   obtain ⟨S,HS⟩:=ey (spL s1)
   rw [← HS.out] at HSp e yhX
   have hDl:D.length≤40000:=by have:=HDL.out;have:=HL.out;omega
   have hSl:S.length≤40000:=by have:=yhX.out;have:=HL.out;rw [HK.out] at *;omega
   have HE:=h_ e
   clear e
   by_cases hcf:c=fr
   ·have hk0:k=0:=by rw [HK.out];omega
    have hCm:Hid (Came wr (some ⟨b0,off,none⟩) 0 0 s1):=h_ ⟨by rw [hsl];exact hk0,Nat.le_refl _,.inl (by rw [hsl];exact hk0)⟩
    rw [hk0] at HSp
    subst hcf
    obtain rfl:a=c:=by omega
    clear fk
    go_wp2_with fail
    refine (HSp.out _ _ hCm.out).mono ?_
    rintro e w3 ⟨v3,rfl,hg3⟩
    have hb3:Be wr w3:=hg3.below nl (by intro k hk;cases hk)
    obtain ⟨p3,c3,rfl,hs3,-⟩:=yS hg3.own
    obtain ⟨m3,HM3⟩:=ey (S.length)
    rw [← HM3.out]
    have HS3:=h_ hs3
    have G3:=h_ (HG.out.trans (Grew.of_below HG.out.own hb3))
    have hB3:=th hbw hb3
    have ycI:Hid (D.length+m3≤140737488355328∧w.heap.size≤w3.heap.size):=h_ ⟨by rw [HM3.out];omega,hB3.out.size⟩
    clear hg3 hb3 hs3
    go_wp2_with (at_builtin;refine yG rfl (.tmp 49) (.tmp 53) rfl w.heap.size _ D.length D rfl rfl G3.out.own p3 m3 c3 S rfl HM3.out.symm HS3.out ycI.out.1 ycI.out.2 ?_)
    intro v4 w4 hg4
    have G4:=h_ (G3.out.trans hg4)
    rw [HE.out] at G4
    clear hg4
    have hB4:Hid (Be w w4):=h_ (G4.out.below nl (by intro k hk;cases hk))
    go_wp2
    go_ret2
    exact ⟨hB4.out,_,rfl,G4.out.own⟩
   ·have ifc':(fr:Int)<(c:Int):=by omega
    have hCm:Hid (Came wr (some ⟨b0,off+fr,none⟩) k (c-fr) s1):=h_ ⟨hsl,by rw [HK.out];omega,by rw [HS1.out];exact GZ hCa.out.lies fr (by rw [hlen.out];omega) rfl⟩
    go_wp2_with fail
    refine (HSp.out _ _ hCm.out).mono ?_
    rintro e w3 ⟨v3,rfl,hg3⟩
    have hb3:Be wr w3:=hg3.below nl (by intro k hk;cases hk)
    obtain ⟨p3,c3,rfl,hs3,-⟩:=yS hg3.own
    obtain ⟨m3,HM3⟩:=ey (S.length)
    rw [← HM3.out]
    have HS3:=h_ hs3
    have G3:=h_ (HG.out.trans (Grew.of_below HG.out.own hb3))
    have hB3:=th hbw hb3
    have ycI:Hid (D.length+m3≤140737488355328∧w.heap.size≤w3.heap.size):=h_ ⟨by rw [HM3.out];omega,hB3.out.size⟩
    clear hg3 hb3 hs3
    go_wp2_with (at_builtin;refine yG rfl (.tmp 49) (.tmp 53) rfl w.heap.size _ D.length D rfl rfl G3.out.own p3 m3 c3 S rfl HM3.out.symm HS3.out ycI.out.1 ycI.out.2 ?_)
    intro v4 w4 hg4
    have G4:=h_ (G3.out.trans hg4)
    rw [HE.out] at G4
    clear hg4
    have hB4:Hid (Be w w4):=h_ (G4.out.below nl (by intro k hk;cases hk))
    go_wp2
    go_ret2
    exact ⟨hB4.out,_,rfl,G4.out.own⟩
end
section
open Go.RowKit Go.Shelf Go.Maps
open Go.Lib
attribute [local go_sem] Oper.semAt_some
theorem ytv (p:Oa) (c:Nat) (w:World):Came w p 0 c []:=⟨rfl,Nat.zero_le _,.inl rfl⟩
theorem yqA (p:Oa) (c:Nat) (w:World):Calls Tryz.prog 107 #[.slice p 0 c] w (zR (ybP []) w):=by
 have HSp:=h_ (yei p 0 c [] w (by omega) (ytv p c w))
 have HE:Hid (ybP []=spL []):=h_ rfl
 rw [HE.out]
 obtain ⟨S,HS⟩:=ey (spL ([]:Lb))
 rw [← HS.out] at HSp ⊢
 have hSl:Hid (S.length=0):=h_ (by rw [HS.out];rfl)
 clear HE
 go_in
 go_wp2
 go_loopw [4,5,6] (fun ov fv av wr=>ov=.slice none 0 0∧fv=.int .i64 0∧av=.int .i64 0∧wr=w) (fun _ _ _ _=>0)
 case atStart=>exact ⟨rfl,rfl,rfl,rfl⟩
 case round =>
  obtain ⟨rfl,rfl,rfl,rfl⟩:=hrel
  go_wp2_with fail
  refine (HSp.out).mono ?_
  rintro e w3 ⟨v3,rfl,hg3⟩
  have hb3:Be wr w3:=hg3.below nl (by intro k hk;cases hk)
  obtain ⟨p3,c3,rfl,hs3,-⟩:=yS hg3.own
  rw [hSl.out]
  have HS3:=h_ hs3
  have G3:=h_ (Grew.of_below (l:=[]) (World.ownsRow_nil wr wr.heap.size 5 1) hb3)
  have ycI:Hid (([]:Lb).length+0≤140737488355328∧wr.heap.size≤w3.heap.size):=h_ ⟨by decide,hb3.size⟩
  clear hg3 hb3 hs3
  go_wp2_with (at_builtin;refine yG rfl (.tmp 49) (.tmp 53) rfl wr.heap.size _ 0 [] rfl rfl G3.out.own p3 0 c3 S rfl hSl.out HS3.out ycI.out.1 ycI.out.2 ?_)
  intro v4 w4 hg4
  have G4:=h_ (G3.out.trans hg4)
  clear hg4
  have hB4:Hid (Be wr w4):=h_ (G4.out.below nl (by intro k hk;cases hk))
  go_wp2
  go_ret2
  exact ⟨hB4.out,_,rfl,G4.out.own⟩
theorem yqB (p:Oa) (c:Nat) (l:Lb) (w:World) (hl:l.length≤20000) (hc:l.length≤c) (hb:Bs w p l):Calls Tryz.prog 107 #[.slice p l.length c] w (zR (ybP l) w):=by
 by_cases h0:0<l.length
 ·obtain ⟨b0,off,rfl⟩:∃ b off,p=some ⟨b,off,none⟩:=by
   obtain ⟨b,off,hp,-⟩:=ybl hb h0
   exact ⟨b,off,hp⟩
  exact yoj b0 off l.length c l w hl ⟨rfl,hc,hb⟩
 ·obtain rfl:=List.eq_nil_of_length_eq_zero (Nat.eq_zero_of_not_pos h0)
  exact yqA p c w
end
section
open Go.RowKit
open Go.Lib
theorem ymg (p:Oa) (c n:Nat) (l:Lb) (w:World) (h1:1≤n) (h2:n≤8) (hl:l.length≤20000) (hc:l.length≤c) (hpc:p=none→c=0) (hb:Bs w p l) :
  Calls Tryz.prog 105 #[.slice p l.length c,.int .i64 (n:Int)] w (zR (yaj l n) w):=by
 obtain ⟨i0,hi,hz0,hz1,hz2⟩:=info_parts GE
 have HA:=h_ (ygU p l.length c n w h1 h2 (by omega))
 obtain ⟨k,HK⟩:=ey (l.length/n)
 have HKN:Hid (k*n≤l.length):=h_ (by rw [HK.out];exact Nat.div_mul_le_self _ _)
 have hkl:k≤l.length:=by rw [HK.out];exact Nat.div_le_self _ _
 have hq0:(l.length:Int)/(n:Int)=(k:Int):=by rw [HK.out];simp
 obtain ⟨len,HL⟩:=ey (l.length)
 have Hb:=h_ hb
 have Hpc:=h_ hpc
 rw [← HL.out] at hl hc HA hq0 hkl ⊢
 have hn1:1≤(n:Int):=by omega
 have hn8:(n:Int)≤8:=by omega
 have hlen:(len:Int)≤20000:=by omega
 have hki:(k:Int)≤20000:=by omega
 clear hb h1 h2 hpc
 go_in
 go_wp2_with fail
 refine (HA.out).mono ?_
 rintro e w' ⟨rfl,rfl⟩
 go_wp2_with (at_make;refine wpList_make_own _ rfl _ _ 39 rfl w.heap.size 5 i0 (.int .u8 0) 1 Tryz.underlying39 hi hz0 hz1 _ _ _ len rfl rfl ?b1 ?b2 ?b3 nl ?_)
 case b1=>omega
 case b2=>rw [hz2];omega
 case b3=>unfold maxLen;omega
 intro w1 yR yZ
 have HG0:Hid (Grew w.heap.size w (.slice none 0 0) [] w1 (.slice (some ⟨w.heap.size,0,none⟩) 0 len)):=h_ ⟨yR,yZ,.inr ⟨_,rfl,Nat.le_refl _⟩⟩
 clear yR yZ
 go_wp2
 go_loopw [8,9] (fun vr jv wr=>∃ (j:Nat) (X:Lb),j≤n∧jv=.int .i64 j∧Hid (X=ycw l n k j)∧Hid (Grew w.heap.size w (.slice none 0 0) X wr vr)) (fun _ jv _=>n-(intOf jv).toNat)
 case atStart=>exact ⟨0,[],Nat.zero_le _,rfl,rfl,HG0⟩
 case round =>
  obtain ⟨j,X,hj,rfl,hX,HG⟩:=hrel
  by_cases hjn:j<n
  ·have hX0:Hid (X=ycw l n k j++yfE l n j 0):=h_ (by rw [yfE,List.append_nil];exact hX.out)
   have hjn':(j:Int)<n:=by omega
   go_wp2
   go_loopw [8,10] (fun vr iv wr=>∃ (i:Nat) (Y:Lb),i≤k∧iv=.int .i64 i∧Hid (Y=ycw l n k j++yfE l n j i)∧Hid (Grew w.heap.size w (.slice none 0 0) Y wr vr)) (fun _ iv _=>k-(intOf iv).toNat)
   case atStart=>exact ⟨0,X,Nat.zero_le _,rfl,hX0,HG⟩
   case round =>
    obtain ⟨i,Y,hik,rfl,hY,HGi⟩:=hrel
    by_cases GP:i<k
    ·have hcl:i*n+j<l.length:=Nat.lt_of_lt_of_le (ybm GP hjn) HKN.out
     obtain ⟨b1,o1,rfl,hb1,hc1⟩:=ybl (Hb.out.below (HGi.out.below nl (by intro k hk;cases hk))) hcl
     obtain ⟨x,HX⟩:∃ x:UInt8,Hid (x=l.getD (i*n+j) 0):=⟨_,rfl⟩
     obtain ⟨t,HT⟩:∃ t:Nat,Hid (t=i*n):=⟨_,rfl⟩
     rw [← HX.out,← HT.out] at hc1
     have hti:(i:Int)*(n:Int)=(t:Int):=by rw [HT.out];simp
     have htl:t+j<len:=by rw [HT.out,HL.out];exact hcl
     have hbl:Hid (Y.length+1≤maxLen∧(Y.length+1)*1≤140737488355328∧w.heap.size≤wr.heap.size+1):=h_ (by
      have h3:=HGi.out.grown.size
      rw [hY.out,List.length_append,jD,yaL]
      have h4:j*k≤8*20000:=Nat.mul_le_mul (by omega) (by omega)
      unfold maxLen;omega)
     go_wp2_with (at_builtin;refine wpList_append_own_at _ rfl (.tmp 34) (.tmp 43) 39 rfl w.heap.size 5 i0 (.int .u8 0) 1 1 Tryz.underlying39 hi hz0 hz1 hz2 rfl (by decide) _ _ _ rfl ((HGi.out.own).alloc _) ⟨_,0,none⟩ 1 1 [.int .u8 (x.toNat:Int)] rfl rfl (cell_one_new _ _ _) (by intro u hu;simp at hu;subst hu;rfl) hbl.out.1 hbl.out.2.1 (by simp;exact hbl.out.2.2) ?_)
     intro v5 w5 yP yL _ yby
     have HG5:=h_ (HGi.out.next rfl yP yL yby)
     have hY5:Hid (Y++[x]=ycw l n k j++yfE l n j (i+1)):=h_ (by rw [hY.out,List.append_assoc,HX.out,yfE])
     clear yP yL yby
     go_wp2
     go_roundw
     case rel=>exact ⟨i+1,Y++[x],by omega,by go_num,hY5,HG5⟩
     case measure=>simp [intOf];omega
    ·obtain rfl:i=k:=by omega
     go_wp2
     go_roundw
     case rel=>exact ⟨j+1,Y,by omega,by go_num,hY,HGi⟩
     case measure=>simp [intOf];omega
  ·obtain rfl:j=n:=by omega
   obtain ⟨t,HT⟩:∃ t:Nat,Hid (t=k*j):=⟨_,rfl⟩
   have hti:(k:Int)*(j:Int)=(t:Int):=by rw [HT.out];simp
   have htl:t≤len:=by rw [HT.out,HL.out];exact HKN.out
   have hsh:Hid (X++l.drop t=yaj l j):=h_ (by rw [hX.out,HT.out,HK.out];rfl)
   have hbw:Hid (Be w wr):=h_ (HG.out.below nl (by intro k hk;cases hk))
   have Hb2:=h_ (Hb.out.below hbw.out)
   have hXl:Hid (X.length≤160000):=h_ (by
    rw [hX.out,jD]
    exact Nat.le_trans (Nat.mul_le_mul (show j≤8 by omega) (show k≤20000 by omega)) (by decide))
   obtain ⟨qo,co,rfl,-,-⟩:=yS HG.out.own
   obtain ⟨xl,hxl⟩:=ey (X.length)
   have hxi:(xl:Int)≤160000:=by have:=hXl.out;rw [hxl.out];omega
   rw [← hxl.out] at HG ⊢
   have yR:=h_ HG.out.own
   rw [← hxl.out] at yR
   have yD:Hid (∀ v' w',Grew w.heap.size wr (.slice qo xl co) (X++l.drop t) w' v'→zR (yaj l j) w (.returned (.tuple #[v',.int .i64 0])) w'):=h_ (fun v' w' hg=>by
    rw [← hsh.out]
    exact ⟨(HG.out.trans hg).below nl (by intro k hk;cases hk),_,rfl,hg.own⟩)
   have hdl:Hid ((l.drop t).length=len-t):=h_ (by rw [List.length_drop,HL.out])
   have hlm:Hid (xl+(len-t)≤140737488355328∧w.heap.size≤wr.heap.size):=h_ ⟨by omega,hbw.out.size⟩
   cases p with
   | none =>
    obtain rfl:c=0:=Hpc.out rfl
    obtain rfl:len=0:=by omega
    obtain rfl:t=0:=by omega
    have hbs:Hid (Bs wr none (l.drop 0)):=h_ (by rw [List.eq_nil_of_length_eq_zero HL.out.symm];exact Bs.nil _ _)
    go_wp2_with (at_builtin;refine yG rfl (.tmp 45) (.tmp 50) rfl w.heap.size _ xl X rfl hxl.out yR.out none 0 0 (l.drop 0) rfl hdl.out hbs.out hlm.out.1 hlm.out.2 ?_)
    intro v5 w5 hg5
    have HE:=h_ (yD.out v5 w5 hg5)
    clear hg5
    go_wp2
    go_ret2
    exact HE.out
   | some ad =>
    by_cases hl0:len=0
    ·subst hl0
     obtain rfl:t=0:=by omega
     obtain ⟨b0,off,sp⟩:=ad
     have hd0:Hid (l.drop 0=[]):=h_ (by rw [List.eq_nil_of_length_eq_zero HL.out.symm];rfl)
     rw [hd0.out,List.append_nil] at yD
     rw [hd0.out] at hdl
     go_wp2_with (at_builtin;refine yG rfl (.tmp 45) (.tmp 50) rfl w.heap.size _ xl X rfl hxl.out yR.out _ 0 _ [] rfl hdl.out (Bs.nil _ _) hlm.out.1 hlm.out.2 ?_)
     intro v5 w5 hg5
     have HE:=h_ (yD.out v5 w5 hg5)
     clear hg5
     go_wp2
     go_ret2
     exact HE.out
    ·obtain ⟨b0,off,had,-,-⟩:=ybl Hb2.out (t:=0) (by rw [← HL.out];omega)
     cases had
     by_cases hct:c=t
     ·subst hct
      obtain rfl:len=c:=by omega
      have hd0:Hid (l.drop len=[]):=h_ (by rw [HL.out];exact List.drop_length)
      rw [hd0.out,List.append_nil] at yD
      rw [hd0.out] at hdl
      go_wp2_with (at_builtin;refine yG rfl (.tmp 45) (.tmp 50) rfl w.heap.size _ xl X rfl hxl.out yR.out _ 0 _ [] rfl rfl (Bs.nil _ _) (by have:=hlm.out.1;omega) hlm.out.2 ?_)
      intro v5 w5 hg5
      have HE:=h_ (yD.out v5 w5 hg5)
      clear hg5
      go_wp2
      go_ret2
      exact HE.out
     ·have hbs:Hid (Bs wr (some ⟨b0,off+t,none⟩) (l.drop t)):=h_ (GZ Hb2.out t (by rw [← HL.out];exact htl) rfl)
      go_wp2_with (at_builtin;refine yG rfl (.tmp 45) (.tmp 50) rfl w.heap.size _ xl X rfl hxl.out yR.out _ (len-t) _ (l.drop t) rfl hdl.out hbs.out hlm.out.1 hlm.out.2 ?_)
      intro v5 w5 hg5
      have HE:=h_ (yD.out v5 w5 hg5)
      clear hg5
      go_wp2
      go_ret2
      exact HE.out
end
theorem ysA (f x:Nat):Lib.bitLenAux (f+1) x=if x=0 then 0 else 1+Lib.bitLenAux f (x/2):=rfl
theorem ylc:∀ (f x:Nat),x<2^f→Lib.bitLenAux (f+1) x=Lib.bitLenAux f x
 | 0,x,h=>by
  obtain rfl:x=0:=by simpa using h
  rfl
 | f+1,x,h=>by
  rw [ysA (f+1) x,ysA f x]
  by_cases h0:x=0
  ·rw [if_pos h0,if_pos h0]
  ·rw [if_neg h0,if_neg h0,ylc f (x/2) (by rw [Nat.pow_succ] at h;omega)]
theorem yld:∀ (f x y:Nat),x≤y→Lib.bitLenAux f x≤Lib.bitLenAux f y
 | 0,_,_,_=>Nat.le_refl _
 | f+1,x,y,h=>by
  rw [Lib.bitLenAux,Lib.bitLenAux]
  by_cases h0:x=0
  ·rw [if_pos h0];exact Nat.zero_le _
  ·rw [if_neg h0,if_neg (by omega)]
   have:=yld f (x/2) (y/2) (Nat.div_le_div_right h);omega
theorem ypw {x y:Nat} (h:x≤y):bl x≤bl y:=yld 64 x y h
theorem ypx:bl 0=0:=by decide
theorem yv4 {x:Nat} (h0:x≠0) (h:x<zT):bl x=1+bl (x/2):=by
 have e:Lib.bitLen x=1+Lib.bitLenAux 63 (x/2):=by
  show Lib.bitLenAux (63+1) x=_
  rw [Lib.bitLenAux,if_neg h0]
 show Lib.bitLen x=1+Lib.bitLenAux (63+1) (x/2)
 rw [e,ylc 63 (x/2) (by unfold zT at h;omega)]
theorem yqC {gs:List Nat} (h:gs≠[]) (hl:∀ g ∈ gs,g<zT):gs.foldl min (gs.getD 0 0)=mnL gs:=by
 cases gs with
 | nil=>exact absurd rfl h
 | cons x gs =>
  have hx:x<zT:=hl x List.mem_cons_self
  show List.foldl min (min x x) gs=List.foldl min (min 18446744073709551615 x) gs
  rw [Nat.min_self,Nat.min_eq_right (by unfold zT at hx;omega)]
theorem ypy (m:Nat):∀ (gs:List Nat) (a:Nat),gs.foldl (fun w g=>max w (bl (g-m))) (bl (a-m))=bl (gs.foldl max a-m)
 | [],_=>rfl
 | x::gs,a=>by
  have e:max (bl (a-m)) (bl (x-m))=bl (max a x-m):=by
   rcases Nat.le_total a x with h|h
   ·rw [Nat.max_eq_right h,Nat.max_eq_right (ypw (by omega))]
   ·rw [Nat.max_eq_left h,Nat.max_eq_left (ypw (by omega))]
  rw [List.foldl_cons,List.foldl_cons,e,ypy m gs]
theorem ytw (gs:List Nat):gs.foldl (fun w g=>max w (bl (g-mnL gs))) 0=wdL gs:=by
 have:=ypy (mnL gs) gs 0
 rwa [Nat.zero_sub,ypx] at this
section
open Go.RowKit
open Go.Lib
theorem yqD (p:Oa) (c k:Nat) (gs:List Nat) (w:World) (hk0:0<k) (hk:k≤1048576) (hgs:Rd w p k gs) (hlt:∀ g ∈ gs,g<zT) :
  Calls Tryz.prog 194 #[.slice p k c] w (Qp (.int .u64 (mnL gs:Int)) w):=by
 have HG:=h_ hgs
 have hkl:Hid (gs.length=k):=h_ hgs.len
 obtain ⟨m,HM⟩:=ey (mnL gs)
 have HF:Hid (gs.foldl min (gs.getD 0 0)=m):=h_ (by
  rw [HM.out];exact yqC (fun e=>by rw [← List.length_eq_zero_iff,hkl.out] at e;omega) hlt)
 rw [← HM.out]
 obtain ⟨b0,o0,x0,rfl,hb0,hc0,hx0⟩:=hgs.at hk0
 rw [Nat.add_zero] at hc0
 have hki:0<(k:Int):=by omega
 have yu5:(k:Int)≤1048576:=by omega
 clear hgs hlt
 go_in
 go_wp2_with fail
 clear hc0
 go_loop [3,4] (fun mv iv=>∃ (i a:Nat),i≤k∧iv=.int .i64 i∧mv=.int .u64 (a:Int)∧Hid (a=(gs.take i).foldl min (gs.getD 0 0))) (fun _ iv=>k-(Go.RowKit.intOf iv).toNat)
 case atStart=>exact ⟨0,x0,Nat.zero_le _,rfl,rfl,h_ (by rw [List.take_zero,hx0.out];rfl)⟩
 case round =>
  obtain ⟨i,a,hik,rfl,rfl,HA⟩:=hrel
  by_cases hlt:i<k
  ·obtain ⟨b1,o1,x,e1,hb1,hc1,hx⟩:=HG.out.at hlt
   cases e1
   have hlt':(i:Int)<k:=by omega
   obtain ⟨a2,HA2⟩:=ey (min a x)
   have yjs:min (a:Int) (x:Int)=(a2:Int):=by rw [HA2.out];omega
   go_wp2_with fail
   go_round
   case rel=>exact ⟨i+1,a2,by omega,by go_num,by first|rfl|rw [yjs],h_ (by rw [ydG 0 (by rw [hkl.out];exact hlt),List.foldl_append,← HA.out,hx.out,HA2.out];rfl)⟩
   case measure=>simp [Go.RowKit.intOf];omega
  ·obtain rfl:i=k:=by omega
   go_wp2
   go_ret
   refine ⟨?_,rfl⟩
   rw [HA.out,List.take_of_length_le (by rw [hkl.out];exact Nat.le_refl _),HF.out]
   rfl
theorem ytx (x:Nat) (w:World) (hx:x<zT):Calls Tryz.prog 195 #[.int .u64 (x:Int)] w (Qp (.int .i64 (bl x:Int)) w):=by
 obtain ⟨B,HB⟩:=ey (bl x)
 have hB:B≤64:=by rw [HB.out];exact ynC x
 rw [← HB.out]
 have HX:=h_ hx
 clear hx
 go_in
 go_wp2
 go_loop [0,3] (fun xv nv=>∃ (y j:Nat),xv=.int .u64 (y:Int)∧nv=.int .i64 j∧Hid (y<zT)∧Hid (j+bl y=B)) (fun xv _=>(Go.RowKit.intOf xv).toNat)
 case atStart=>exact ⟨x,0,rfl,rfl,HX,h_ (by rw [Nat.zero_add];exact HB.out.symm)⟩
 case round =>
  obtain ⟨y,j,rfl,rfl,HY,HJ⟩:=hrel
  have hj:(j:Int)≤64:=by have:=HJ.out;omega
  by_cases h0:0<y
  ·have h0':0<(y:Int):=by omega
   obtain ⟨y2,HY2⟩:=ey (y/2)
   have hs:(y:Int)/2=(y2:Int):=by rw [HY2.out];omega
   have hlt:(y2:Int)<(y:Int):=by omega
   go_wp2_with fail
   go_round
   case rel=>exact ⟨y2,j+1,by first|rfl|rw [hs],by go_num,h_ (by have:=HY.out;omega),h_ (by have h:=HJ.out;rw [yv4 (by omega) HY.out,← HY2.out] at h;omega)⟩
   case measure=>simp [Go.RowKit.intOf];omega
  ·obtain rfl:y=0:=by omega
   go_wp2
   go_ret
   refine ⟨?_,rfl⟩
   have h:=HJ.out
   rw [ypx] at h
   rw [← h];rfl
def fxL (b:Nat→Nat) (T F:Nat):Lb:=pkL b T++List.replicate (F-(T+7)/8) 0
theorem yty (b:Nat→Nat) (F:Nat):fxL b 0 F=List.replicate F 0:=rfl
theorem yej (b:Nat→Nat) {T F:Nat} (h:(T+7)/8≤F):(fxL b T F).length=F:=by
 rw [fxL,List.length_append,vK,List.length_replicate];omega
theorem yv5 (b:Nat→Nat) {T F:Nat} (h:T<8*F):(fxL b T F).getD (T/8) 0=UInt8.ofNat (bv b (T/8) (T%8)):=by
 by_cases h8:T%8=0
 ·rw [fxL,List.getD_eq_getElem?_getD,List.getElem?_append_right (by rw [vK];omega),vK,List.getElem?_replicate,if_pos (by omega),h8];rfl
 ·rw [fxL,List.getD_eq_getElem?_getD,List.getElem?_append_left (by rw [vK];omega),← List.getD_eq_getElem?_getD,ync b (by omega),show min 8 (T-8*(T/8))=T%8 by omega]
theorem yv6 (b:Nat→Nat) {T F:Nat} (h:T<8*F):(fxL b T F).set (T/8) (UInt8.ofNat (bv b (T/8) (T%8+1)))=fxL b (T+1) F:=by
 by_cases h8:T%8=0
 ·have e1:F-(T+7)/8=(F-(T+1+7)/8)+1:=by omega
  rw [fxL,fxL,List.set_append_right _ _ (by rw [vK];omega),vK,show T/8-(T+7)/8=0 by omega,e1,List.replicate_succ,List.set_cons_zero,ypV b h8,h8,List.append_assoc];rfl
 ·have e1:(T+1+7)/8=(T+7)/8:=by omega
  rw [fxL,fxL,List.set_append_left _ _ (by rw [vK];omega),e1,ypW b h8]
theorem ytz (b:Nat→Nat) (T:Nat):fxL b T ((T+7)/8)=pkL b T:=by
 rw [fxL,Nat.sub_self,List.replicate_zero,List.append_nil]
theorem ytA {d e:Nat}:bits .and .u8 (IntKind.u8.wrap ((d:Int)/2^e)) 1=((d/2^e%2:Nat):Int):=by
 have h1:(d:Int)/2^e=((d/2^e:Nat):Int):=by rw [Int.natCast_ediv,Int.natCast_pow];rfl
 have h3:IntKind.u8.wrap ((d:Int)/2^e)=((d/2^e%256:Nat):Int):=by rw [h1,IntKind.wrap_u8'];omega
 have h2:=u8_and_nat (d/2^e%256) 1 (Nat.mod_lt _ (by decide)) (by decide)
 rw [nat_mask1] at h2
 rw [h3,show (1:Int)=((1:Nat):Int) from rfl,h2]
 omega
theorem ytB {w:World} {B g n:Nat} (h:w.ownsRow B 5 1 (.slice (some ⟨g,0,none⟩) n n) n (madeCells #[Value.int .u8 0] n).toList):w.ownsRow B 5 1 (.slice (some ⟨g,0,none⟩) n n) (List.replicate n (0:UInt8)).length (zG (List.replicate n 0)):=by
 rw [yer] at h
 rw [List.length_replicate];exact h
theorem yj4 (p:Oa) (c k n:Nat) (gs:List Nat) (q:Oa) (r d:Nat) (rs:Lb) (w:World) (h1:1≤n) (h2:n≤8) (hk0:0<k) (hk:k≤1048576) (hr:r≤1048576) (hgs:Rd w p k gs) (hlt:∀ g ∈ gs,g<zT) (hrl:Hid (rs.length=r)) (hrs:Bs w q rs) :
  Calls Tryz.prog 160 #[.slice p k c,.int .i64 (n:Int),.slice q r d] w (App w.heap.size w (.slice none 0 0) (ydQ n gs rs)):=by
 obtain ⟨i0,hi,hz0,hz1,hz2⟩:=info_parts GE
 have HGS:=h_ hgs
 have HRS:=h_ hrs
 have HLT:=h_ hlt
 have hgl:Hid (gs.length=k):=h_ hgs.len
 have hki:0<(k:Int):=by omega
 have yu5:(k:Int)≤1048576:=by omega
 have hki0:¬ (k:Int)=0:=by omega
 have hn1:1≤(n:Int):=by omega
 have hn8:(n:Int)≤8:=by omega
 have hri:(r:Int)≤1048576:=by omega
 have hz:IntKind.u64.wrap (k:Int)=(k:Int):=by rw [IntKind.wrap_u64];omega
 obtain ⟨m,HM⟩:=ey (mnL gs)
 obtain ⟨wd,HWD⟩:=ey (wdL gs)
 have hm:m<18446744073709551616:=by rw [HM.out];exact ysR gs
 have hwd:wd≤64:=by rw [HWD.out];exact ynh gs
 have HMG:Hid (∀ g ∈ gs,m≤g):=h_ (by rw [HM.out];intro g hg;exact ygN hg)
 have ykX:∀ j,j<k→gs.getD j 0 ∈ gs:=fun j hj=>by
  rw [gD (by rw [hgl.out];exact hj)]
  exact List.getElem_mem _
 have yu8:=h_ ykX
 obtain ⟨R,HR⟩:=ey (ydQ n gs rs)
 obtain ⟨y,HY⟩:∃ y:UInt8,Hid (y=UInt8.ofNat wd):=⟨_,rfl⟩
 have hyw:y.toNat=wd:=by rw [HY.out,UInt8.toNat_ofNat'];omega
 obtain ⟨b,HB⟩:=ey (btF gs m wd)
 have jQ:Hid (∀ t,b t<2):=h_ (fun t=>by rw [HB.out];exact yne _ _ _ _)
 obtain ⟨TT,HTT⟩:=ey (k*wd)
 have hTT:TT≤67108864:=by
  have h5:k*wd≤1048576*64:=Nat.mul_le_mul hk hwd
  rw [HTT.out];omega
 obtain ⟨F,HFF⟩:=ey ((TT+7)/8)
 have hFl:F≤8388609:=by rw [HFF.out];omega
 have ybz:(k:Int)*(wd:Int)=(TT:Int):=by rw [HTT.out];simp
 have ynH:((TT:Int)+7)/8=(F:Int):=by rw [HFF.out];omega
 have hR:Hid (be 4 k++be n m++[y]++fxL b TT F++rs=R):=h_ (by
  rw [HFF.out,ytz,HR.out,ydQ,pkB,if_neg (by rw [hgl.out];omega),hgl.out,← HM.out,← HWD.out,← HY.out,pkF,hgl.out,← HM.out,← HWD.out,← HB.out,← HTT.out])
 rw [← HR.out]
 have HN:=h_ (ybc k 4 w (by decide) (by omega))
 clear hgs hrs hlt ykX
 go_in
 go_wp2_with fail
 refine (HN.out).mono ?_
 rintro e w1 ⟨v1,rfl,hg1⟩
 obtain ⟨L1,HL1⟩:=ey (be 4 k)
 rw [← HL1.out] at hg1
 have G1:=h_ hg1
 have hB1:Hid (Be w w1):=h_ (hg1.below nl (by intro k hk;cases hk))
 have HLe:=h_ (yqD p c k gs w1 hk0 hk (HGS.out.below hB1.out) HLT.out)
 rw [← HM.out] at HLe
 clear hg1
 go_wp2_with fail
 refine (HLe.out).mono ?_
 rintro e w' ⟨rfl,rfl⟩
 go_wp2
 go_loop [9,10] (fun wv iv=>∃ (i a:Nat),i≤k∧iv=.int .i64 i∧wv=.int .i64 (a:Int)∧a≤64∧Hid (a=(gs.take i).foldl (fun w g=>max w (bl (g-m))) 0)) (fun _ iv=>k-(Go.RowKit.intOf iv).toNat)
 case atStart=>exact ⟨0,0,Nat.zero_le _,rfl,rfl,by decide,h_ (by rw [List.take_zero];rfl)⟩
 case round =>
  obtain ⟨i,a,hik,rfl,rfl,ha64,HA⟩:=hrel
  by_cases hlt:i<k
  ·obtain ⟨b1,o1,x,rfl,hb1,hc1,hx⟩:=(HGS.out.below hB1.out).at hlt
   have hlt':(i:Int)<k:=by omega
   have hxl:x<zT:=by rw [← hx.out];exact HLT.out _ (yu8.out i hlt)
   have hxm:m≤x:=by rw [← hx.out];exact HMG.out _ (yu8.out i hlt)
   obtain ⟨dd,HD⟩:=ey (x-m)
   have ybn:IntKind.u64.wrap ((x:Int)-(m:Int))=(dd:Int):=by
    rw [IntKind.wrap_u64,HD.out];unfold zT at hxl;omega
   have HBits:=h_ (ytx dd w1 (by rw [HD.out];omega))
   obtain ⟨B,HBL⟩:=ey (bl dd)
   have hB64:B≤64:=by rw [HBL.out];exact ynC _
   rw [← HBL.out] at HBits
   obtain ⟨a2,HA2⟩:=ey (max a B)
   have hmax:max (a:Int) (B:Int)=(a2:Int):=by rw [HA2.out];omega
   have ha2:a2≤64:=by rw [HA2.out];omega
   clear hxl hxm
   go_wp2_with fail
   refine (HBits.out).mono ?_
   rintro e w' ⟨rfl,rfl⟩
   clear ybn
   go_wp2_with fail
   go_round
   case rel=>exact ⟨i+1,a2,by omega,by go_num,by first|rfl|rw [hmax],ha2,h_ (by rw [ydG 0 (by rw [hgl.out];exact hlt),List.foldl_append,← HA.out,hx.out,HA2.out,HBL.out,HD.out];rfl)⟩
   case measure=>simp [Go.RowKit.intOf];omega
  ·obtain rfl:i=k:=by omega
   obtain rfl:a=wd:=by rw [HA.out,List.take_of_length_le (by rw [hgl.out];exact Nat.le_refl _),HM.out,ytw,HWD.out]
   have HN2:=h_ (ybc m n w1 h2 hm)
   go_wp2_with fail
   refine (HN2.out).mono ?_
   rintro e w2 ⟨v2,rfl,hg2⟩
   obtain ⟨p2,c2,rfl,hs2,-⟩:=yS hg2.own
   rw [zE]
   have hb2:Be w1 w2:=hg2.below nl (by intro k hk;cases hk)
   have HS2:=h_ hs2
   have G2:=h_ (G1.out.trans (Grew.of_below G1.out.own hb2))
   have hB2:=th hB1 hb2
   have hL1:Hid (L1.length=4):=h_ (by rw [HL1.out,zE])
   have yfJ:Hid (L1.length+n≤140737488355328∧w.heap.size≤w2.heap.size):=h_ ⟨by rw [hL1.out];omega,hB2.out.size⟩
   clear hg2 hb2 hs2
   go_wp2_with (at_builtin;refine yG rfl (.tmp 43) (.tmp 46) rfl w.heap.size v1 L1.length L1 rfl rfl G2.out.own p2 n c2 (be n m) rfl (zE _ _) HS2.out yfJ.out.1 yfJ.out.2 ?_)
   intro v3 w3 hg3
   obtain ⟨L3,HL3⟩:=ey (L1++be n m)
   rw [← HL3.out] at hg3
   have G3:=h_ (G2.out.trans hg3)
   clear hg3
   have hB3:Hid (Be w w3):=h_ (G3.out.below nl (by intro k hk;cases hk))
   have hL3:Hid (L3.length=4+n):=h_ (by rw [HL3.out,List.length_append,hL1.out,zE])
   have G3a:=h_ (G3.out.trans (Grew.of_below G3.out.own ((Below.refl _ w3).alloc nl (.cells #[.int .u8 (a:Int)] 5))))
   have zX:Hid (Bs (w3.alloc (.cells #[.int .u8 (a:Int)] 5)) (some ⟨w3.heap.size,0,none⟩) [y]):=h_ (by have h:=yng w3 y;rwa [hyw] at h)
   have ycI:Hid (L3.length+1≤140737488355328∧w.heap.size≤(w3.alloc (.cells #[.int .u8 (a:Int)] 5)).heap.size):=h_ ⟨by rw [hL3.out];omega,by have:=hB3.out.size;simp;omega⟩
   go_wp2_with (at_builtin;refine yG rfl (.tmp 48) (.tmp 51) rfl w.heap.size v3 L3.length L3 rfl rfl G3a.out.own _ 1 1 [y] rfl rfl zX.out ycI.out.1 ycI.out.2 ?_)
   intro v4 w4 hg4
   obtain ⟨L4,HL4⟩:∃ L4,Hid (L4=L3++[y]):=⟨L3++[y],h_ rfl⟩
   rw [← HL4.out] at hg4
   have G4:=h_ (G3a.out.trans hg4)
   clear hg4
   have hB4:Hid (Be w w4):=h_ (G4.out.below nl (by intro k hk;cases hk))
   have hL4:Hid (L4.length=4+n+1):=h_ (by rw [HL4.out,List.length_append,hL3.out];rfl)
   go_wp2_with (at_make;go_loud (refine wpList_make_full _ rfl _ _ 39 rfl w4.heap.size 5 i0 (.int .u8 0) 1 Tryz.underlying39 hi hz0 hz1 _ _ _ _ F rfl rfl (by omega) (by omega) ?b2 ?b3 nl ?_))
   case b2=>rw [hz2];omega
   case b3=>unfold maxLen;omega
   intro w5 yP hgr5
   have HO5:=h_ (ytB yP)
   have hb5:Hid (Be w4 w5):=h_ (bR.grown hgr5 nl (fun k e=>by cases e))
   have G5:=h_ (G4.out.trans (Grew.of_below G4.out.own hb5.out))
   clear yP hgr5
   have hLoop0:Hid (w5.ownsRow w4.heap.size 5 1 (.slice (some ⟨w4.heap.size,0,none⟩) F F) (fxL b (0*a) F).length (zG (fxL b (0*a) F))):=h_ (by rw [Nat.zero_mul,yty];exact HO5.out)
   go_wp2
   go_loopw [12] (fun iv wr=>∃ (t:Nat),t≤i∧iv=.int .i64 t∧Hid (wr.ownsRow w4.heap.size 5 1 (.slice (some ⟨w4.heap.size,0,none⟩) F F) (fxL b (t*a) F).length (zG (fxL b (t*a) F)))∧Hid (Be w4 wr)) (fun iv _=>i-(Go.RowKit.intOf iv).toNat)
   case atStart=>exact ⟨0,Nat.zero_le _,rfl,hLoop0,hb5⟩
   case round =>
    obtain ⟨t,hti,rfl,HO,HBw⟩:=hrel
    obtain ⟨P,HP⟩:=ey (t*a)
    have hmulP:(t:Int)*(a:Int)=(P:Int):=by rw [HP.out];simp
    rw [← HP.out] at HO
    by_cases yu9:t<i
    ·have htlt':(t:Int)<i:=by omega
     have hPT:P+a≤TT:=by
      rw [HP.out,HTT.out]
      have h5:(t+1)*a≤i*a:=Nat.mul_le_mul_right _ yu9
      rwa [Nat.succ_mul] at h5
     go_wp2
     go_loopw [13] (fun jv wr=>∃ (j:Nat),j≤a∧jv=.int .i64 j∧Hid (wr.ownsRow w4.heap.size 5 1 (.slice (some ⟨w4.heap.size,0,none⟩) F F) (fxL b (P+j) F).length (zG (fxL b (P+j) F)))∧Hid (Be w4 wr)) (fun jv _=>a-(Go.RowKit.intOf jv).toNat)
     case atStart=>exact ⟨0,Nat.zero_le _,rfl,HO,HBw⟩
     case round =>
      clear HO HBw
      obtain ⟨j,hja,rfl,HO,HBw⟩:=hrel
      by_cases hj:j<a
      ·have hj':(j:Int)<a:=by omega
       obtain ⟨T,HT⟩:=ey (P+j)
       have hTs:(P:Int)+(j:Int)=(T:Int):=by rw [HT.out];omega
       have hTT':T<TT:=by rw [HT.out];omega
       rw [← HT.out] at HO
       obtain ⟨b1,o1,x,rfl,hb1,hc1,hx⟩:=(HGS.out.below (tr hB4.out HBw.out)).at yu9
       have hxl:x<zT:=by rw [← hx.out];exact HLT.out _ (yu8.out t yu9)
       have hxm:m≤x:=by rw [← hx.out];exact HMG.out _ (yu8.out t yu9)
       obtain ⟨dd,HD⟩:=ey (x-m)
       have hddl:(dd:Int)≤18446744073709551615:=by rw [HD.out];unfold zT at hxl;omega
       have ybn:IntKind.u64.wrap ((x:Int)-(m:Int))=(dd:Int):=by
        rw [IntKind.wrap_u64,HD.out];unfold zT at hxl;omega
       obtain ⟨e,HE⟩:=ey (a-1-j)
       have he:(a:Int)-1-(j:Int)=(e:Int):=by rw [HE.out];omega
       have hel:(e:Int)≤63:=by omega
       obtain ⟨bt,HBt⟩:=ey (b T)
       have yxC:bt<2:=by rw [HBt.out];exact jQ.out T
       have hbtv:dd/2^e%2=bt:=by rw [HBt.out,HB.out,HT.out,HP.out,ynf _ _ hj,HE.out,HD.out,hx.out]
       have yhW:bits .and .u8 (IntKind.u8.wrap ((dd:Int)/2^e)) 1=(bt:Int):=by rw [ytA,hbtv]
       have hand2:bits .and .u8 ((dd:Int)/2^e%256) 1=(bt:Int):=by rw [← yhW,IntKind.wrap_u8']
       have hbti:(bt:Int)≤1:=by omega
       obtain ⟨r7,HR7⟩:=ey (7-T%8)
       have yu4:r7≤7:=by rw [HR7.out];omega
       have hr7:7-(T:Int)%8=(r7:Int):=by rw [HR7.out];omega
       obtain ⟨q8,HQ8⟩:=ey (T/8)
       have hq8:(T:Int)/8=(q8:Int):=by rw [HQ8.out];omega
       have hTF:T<8*F:=by rw [HFF.out];omega
       have hFi:(F:Int)≤8388609:=by omega
       have hq8F:(q8:Int)<F:=by rw [HQ8.out];omega
       obtain ⟨X,HX⟩:=ey (bv b (T/8) (T%8))
       obtain ⟨Y,HYY⟩:∃ Y:UInt8,Hid (Y=UInt8.ofNat (bv b (T/8) (T%8+1))):=⟨_,rfl⟩
       have hXl:X<256:=by
        have h:=ynB b jQ.out (T/8) (T%8) (by omega)
        have h5:0<2^(8-T%8):=Nat.pow_pos (by decide)
        rw [HX.out];omega
       have hXi:(X:Int)≤255:=by omega
       have hpw:bt*2^r7<256:=by
        have h6:2^r7≤2^7:=Nat.pow_le_pow_right (by decide) yu4
        have h7:bt*2^r7≤1*2^r7:=Nat.mul_le_mul_right _ (by omega)
        omega
       have yva:IntKind.u8.wrap ((bt:Int)*2^r7)=((bt*2^r7:Nat):Int):=by
        rw [IntKind.wrap_u8',show (bt:Int)*2^r7=((bt*2^r7:Nat):Int) by rw [Int.natCast_mul,Int.natCast_pow];rfl];omega
       have hor:bits .or .u8 (X:Int) ((bt*2^r7:Nat):Int)=((Y.toNat:Nat):Int):=by
        rw [u8_or_nat X _ hXl hpw,HX.out,HBt.out,HR7.out,HYY.out,ykJ b jQ.out _ (by omega),← yxd b jQ.out (T/8) (by omega),show 8*(T/8)+T%8=T by omega]
       obtain ⟨sh,HSH⟩:=ey (bt*2^r7)
       rw [← HSH.out] at yva hor
       have hshl2:(bt:Int)*2^r7%256=(sh:Int):=by rw [← yva,IntKind.wrap_u8']
       have hfl:(fxL b T F).length=F:=yej b (by omega)
       obtain ⟨g,cap,hv,hcap,hgB,hgl2,zU,uQ,yaG⟩:=ybi HO.out (by omega)
       have hge:g=w4.heap.size:=by injection hv with q1;injection q1 with q1;injection q1 with q1;exact q1.symm
       subst hge
       have c33:wr.cell? ⟨w4.heap.size,q8,none⟩=some (.int .u8 (X:Int)):=by
        have h:=zU (T/8) (by rw [hfl];omega)
        rw [yv5 b hTF,ykJ b jQ.out _ (by omega),← HX.out,← HQ8.out] at h;exact h
       have f33:wr.frozen? ⟨w4.heap.size,q8,none⟩=false:=uQ _
       have hs:=yaG q8 Y (by rw [hfl];omega)
       have HO6:Hid ((wr.setCell ⟨w4.heap.size,q8,none⟩ (.int .u8 ((Y.toNat:Nat):Int))).ownsRow w4.heap.size 5 1 (.slice (some ⟨w4.heap.size,0,none⟩) F F) (fxL b (T+1) F).length (zG (fxL b (T+1) F))):=h_ (by
        rw [show (fxL b (T+1) F).length=(fxL b T F).length by rw [hfl,yej b (by omega)],← yv6 b hTF,← HYY.out,← HQ8.out];exact hs)
       have HBw6:Hid (Be w4 (wr.setCell ⟨w4.heap.size,q8,none⟩ (.int .u8 ((Y.toNat:Nat):Int)))):=h_ (HBw.out.setCell (p:=⟨w4.heap.size,q8,none⟩) nl _)
       clear hs yaG zU uQ hv hcap hgB hgl2 hxl hxm hbtv hpw hXl yxC hfl hTF
       go_wp2_with fail
       go_region
       have HO7:Hid ((wr.setCell ⟨w4.heap.size,q8,none⟩ (.int .u8 ((Y.toNat:Nat):Int))).drew.ownsRow w4.heap.size 5 1 (.slice (some ⟨w4.heap.size,0,none⟩) F F) (fxL b (P+(j+1)) F).length (zG (fxL b (P+(j+1)) F))):=h_ (by rw [show P+(j+1)=T+1 by rw [HT.out];omega];exact HO6.out)
       have HBw7:Hid (Be w4 (wr.setCell ⟨w4.heap.size,q8,none⟩ (.int .u8 ((Y.toNat:Nat):Int))).drew):=h_ HBw6.out.drew
       clear HO6 HBw6 c33 f33 hc1
       go_wp2
       go_roundw
       case rel=>exact ⟨j+1,by omega,by go_num,HO7,HBw7⟩
       case measure=>simp [Go.RowKit.intOf];omega
      ·obtain rfl:j=a:=by omega
       go_wp2
       go_roundw
       case rel=>exact ⟨t+1,by omega,by go_num,h_ (by rw [Nat.succ_mul,← HP.out];exact HO.out),HBw⟩
       case measure=>simp [Go.RowKit.intOf];omega
    ·obtain rfl:t=i:=by omega
     have ePT:P=TT:=by rw [HP.out,HTT.out]
     rw [ePT] at HO
     have hfl:(fxL b TT F).length=F:=yej b (by rw [HFF.out];exact Nat.le_refl _)
     obtain ⟨pf,cf,hvf,hsf,-⟩:=yS HO.out
     have hpf:pf=some ⟨w4.heap.size,0,none⟩:=by injection hvf with q1;exact q1.symm
     subst hpf
     have HSF:=h_ hsf
     obtain ⟨FX,HFX⟩:=ey (fxL b TT F)
     rw [← HFX.out] at HSF hfl
     have G6:=h_ (G4.out.trans (Grew.of_below G4.out.own HBw.out))
     have yrS:Hid (L4.length+F≤140737488355328∧w.heap.size≤wr.heap.size):=h_ ⟨by rw [hL4.out];omega,Nat.le_trans hB4.out.size HBw.out.size⟩
     clear hsf hvf HO
     go_wp2_with (at_builtin;refine yG rfl (.tmp 104) (.tmp 105) rfl w.heap.size v4 L4.length L4 rfl rfl G6.out.own _ F F FX rfl hfl HSF.out yrS.out.1 yrS.out.2 ?_)
     intro v7 w7 hg7
     obtain ⟨L7,HL7⟩:=ey (L4++FX)
     rw [← HL7.out] at hg7
     have G7:=h_ (G6.out.trans hg7)
     clear hg7
     have hB7:Hid (Be w w7):=h_ (G7.out.below nl (by intro k hk;cases hk))
     have ykY:Hid (L7.length+r≤140737488355328∧w.heap.size≤w7.heap.size):=h_ ⟨by rw [HL7.out,List.length_append,hL4.out,hfl];omega,hB7.out.size⟩
     have HRS7:=h_ (HRS.out.below hB7.out)
     go_wp2_with (at_builtin;refine yG rfl (.tmp 107) (.tmp 108) rfl w.heap.size v7 L7.length L7 rfl rfl G7.out.own q r d rs rfl hrl.out HRS7.out ykY.out.1 ykY.out.2 ?_)
     intro v8 w8 hg8
     have G8:=h_ (G7.out.trans hg8)
     rw [show L7++rs=R by rw [HL7.out,HL4.out,HL3.out,HL1.out,HFX.out];exact hR.out] at G8
     clear hg8
     go_wp2
     go_ret
     exact ⟨_,rfl,G8.out⟩
theorem yj5 (p:Oa) (c n:Nat) (q:Oa) (r d:Nat) (rs:Lb) (w:World) (hr:r≤1048576) (hrl:Hid (rs.length=r)) (hrs:Bs w q rs) :
  Calls Tryz.prog 160 #[.slice p 0 c,.int .i64 (n:Int),.slice q r d] w (App w.heap.size w (.slice none 0 0) (ydQ n [] rs)):=by
 have HRS:=h_ hrs
 have HN:=h_ (ybc 0 4 w (by decide) (by decide))
 have hz:IntKind.u64.wrap 0=0:=rfl
 have hri:(r:Int)≤1048576:=by omega
 obtain ⟨R,HR⟩:=ey (ydQ n [] rs)
 rw [← HR.out]
 clear hrs
 go_in
 go_wp2_with fail
 refine (HN.out).mono ?_
 rintro e w1 ⟨v1,rfl,hg1⟩
 obtain ⟨L1,HL1⟩:=ey (be 4 0)
 rw [← HL1.out] at hg1
 have G1:=h_ hg1
 have hB1:Hid (Be w w1):=h_ (hg1.below nl (by intro k hk;cases hk))
 have HRS1:=h_ (HRS.out.below hB1.out)
 have hbl1:Hid (L1.length+r≤140737488355328∧w.heap.size≤w1.heap.size):=h_ ⟨by rw [HL1.out,zE];omega,hB1.out.size⟩
 clear hg1
 go_wp2_with (at_builtin;refine yG rfl (.tmp 23) (.tmp 24) rfl w.heap.size v1 L1.length L1 rfl rfl G1.out.own q r d rs rfl hrl.out HRS1.out hbl1.out.1 hbl1.out.2 ?_)
 intro v8 w8 hg8
 have G8:=h_ (G1.out.trans hg8)
 rw [show L1++rs=R by rw [HL1.out,HR.out];rfl] at G8
 clear hg8
 go_wp2
 go_ret
 exact ⟨_,rfl,G8.out⟩
theorem ymh (p:Oa) (c k n:Nat) (gs:List Nat) (q:Oa) (r d:Nat) (rs:Lb) (w:World) (h1:1≤n) (h2:n≤8) (hk:k≤1048576) (hr:r≤1048576) (hgs:Rd w p k gs) (hlt:∀ g ∈ gs,g<zT) (hrl:Hid (rs.length=r)) (hrs:Bs w q rs) :
  Calls Tryz.prog 160 #[.slice p k c,.int .i64 (n:Int),.slice q r d] w (App w.heap.size w (.slice none 0 0) (ydQ n gs rs)):=by
 by_cases hk0:k=0
 ·subst hk0
  obtain rfl:=List.eq_nil_of_length_eq_zero hgs.len
  exact yj5 p c n q r d rs w hr hrl hrs
 ·exact yj4 p c k n gs q r d rs w h1 h2 (Nat.pos_of_ne_zero hk0) hk hr hgs hlt hrl hrs
theorem yqE (p:Oa) (c n len:Nat) (l:Lb) (w:World) (HN:Hid (len=l.length)) (h1:1≤n) (h2:n≤8) (hl:len≤1048576) (hc:Hid (len≤c)) (hpc:Hid (p=none→c=0)) (hb:Bs w p l) :
  Calls Tryz.prog 106 #[.slice p len c,.int .i64 (n:Int)] w (zR (uU l n) w):=by
 have HA:=h_ (ygU p len c n w h1 h2 hl)
 have HG:=h_ (yhj p c n l w h1 h2 (by rw [← HN.out];exact hl) (by rw [← HN.out];exact hc.out) hpc.out hb)
 rw [← HN.out] at HG
 obtain ⟨k,HK⟩:=ey (len/n)
 rw [← HK.out] at HG
 have hkl:k≤1048576:=by rw [HK.out];exact Nat.le_trans (Nat.div_le_self _ _) hl
 obtain ⟨gs,HGS⟩:=ey (gl n k l)
 have hgl:Hid (gs.length=k):=h_ (by rw [HGS.out,uL])
 have yu2:Hid (∀ x ∈ gs,x<zT):=h_ (by rw [HGS.out];exact ykI h2 k l)
 obtain ⟨rs,HRS⟩:=ey (l.drop (k*n))
 rw [← HGS.out,← HRS.out] at HG
 obtain ⟨R,HR⟩:=ey (uU l n)
 have yD:Hid (ydQ n gs rs=R):=h_ (by rw [HR.out,uU,← HN.out,← HK.out,← HGS.out,← HRS.out])
 obtain ⟨r,HRL⟩:=ez (rs.length)
 have hrl:r≤1048576:=by rw [← HRL.out,HRS.out,List.length_drop,← HN.out];omega
 have hn1:1≤(n:Int):=by omega
 have hn8:(n:Int)≤8:=by omega
 rw [← HR.out]
 clear hb
 go_in
 go_wp2_with fail
 refine (HA.out).mono ?_
 rintro e w' ⟨rfl,rfl⟩
 go_wp2_with fail
 refine (HG.out).mono ?_
 rintro e w1 ⟨hb1,p1,c1,q1,d1,rfl,hrd,hbs⟩
 rw [hgl.out] at hrd ⊢
 rw [HRL.out]
 have yX:=h_ hb1
 have HP:=h_ (ymh p1 c1 k n gs q1 r d1 rs w1 h1 h2 hkl hrl hrd yu2.out HRL hbs)
 rw [yD.out] at HP
 clear hb1 hrd hbs
 go_wp2_with fail
 refine (HP.out).mono ?_
 rintro e w2 ⟨v2,rfl,hg2⟩
 have jQ:=h_ (yX.out.trans ((hg2.below nl (by intro k hk;cases hk)).mono yX.out.size))
 obtain ⟨q2,d2,hv2,-,-⟩:=yS hg2.own
 have HO:Hid (w2.ownsRow w.heap.size 5 1 v2 R.length (zG R)):=h_ (by
  obtain ⟨h1,h2|⟨g,cap,cur,hv,hg,h3⟩⟩:=hg2.own
  ·exact ⟨h1,.inl h2⟩
  ·exact ⟨h1,.inr ⟨g,cap,cur,hv,Nat.le_trans yX.out.size hg,h3⟩⟩)
 clear hg2
 subst hv2
 obtain ⟨m,HM⟩:=ey (R.length)
 rw [← HM.out] at HO ⊢
 go_wp2
 go_ret2
 exact ⟨jQ.out,_,rfl,by rw [← HM.out];exact HO.out⟩
theorem ysb (kk:Int) (ff:Nat) (n:Int) (X:ByteArray) (v:Value) (L:Lb) (B:Nat) (w:World) (hB:B≤w.heap.size) (hkk:(kk=2∧ff=104)∨(kk=3∧ff=105)∨(kk=5∧ff=106))
  (hc:∀ W,Be w W→Calls Tryz.prog ff #[v,.int .i64 n] W (zR L W)) :
  Calls Tryz.prog 57 #[.agg #[.int .i64 kk,.int .i64 n,.string X],v] w (uI B L w):=by
 obtain ⟨W1,vI⟩:∃ W1,Hid (w.alloc (.cells #[.int .i64 kk,.int .i64 n,.string X] 45)=W1):=⟨_,h_ rfl⟩
 have yX:Hid (Be w W1):=h_ (by rw [← vI.out];exact bR.alloc nl _)
 have HC:=h_ (hc W1 yX.out)
 have HBB:=h_ hB
 clear hc hB
 rcases hkk with ⟨rfl,rfl⟩|⟨rfl,rfl⟩|⟨rfl,rfl⟩
 all_goals
  go_in
  go_wp2_with fail
  try rw [vI.out]
  refine (HC.out).mono ?_
  rintro e w2 ⟨hb2,v2,rfl,ho2⟩
  have HF:Hid (uI B L w (.returned (.tuple #[v2,.int .i64 0])) w2):=h_ (zR.thr (W:=W1) ⟨hb2,v2,rfl,ho2⟩ yX.out HBB.out)
  clear hb2 ho2
  go_wp2
  go_ret2
  exact HF.out
theorem yzD (n:Int) (X:ByteArray) (v:Value) (L:Lb) (B:Nat) (w:World) (hB:B≤w.heap.size)
  (hc:∀ W,Be w W→Calls Tryz.prog 107 #[v] W (zR L W)) :
  Calls Tryz.prog 57 #[.agg #[.int .i64 4,.int .i64 n,.string X],v] w (uI B L w):=by
 obtain ⟨W1,vI⟩:∃ W1,Hid (w.alloc (.cells #[.int .i64 4,.int .i64 n,.string X] 45)=W1):=⟨_,h_ rfl⟩
 have yX:Hid (Be w W1):=h_ (by rw [← vI.out];exact bR.alloc nl _)
 have HC:=h_ (hc W1 yX.out)
 have HBB:=h_ hB
 clear hc hB
 go_in
 go_wp2_with fail
 try rw [vI.out]
 refine (HC.out).mono ?_
 rintro e w2 ⟨hb2,v2,rfl,ho2⟩
 have HF:Hid (uI B L w (.returned (.tuple #[v2,.int .i64 0])) w2):=h_ (zR.thr (W:=W1) ⟨hb2,v2,rfl,ho2⟩ yX.out HBB.out)
 clear hb2 ho2
 go_wp2
 go_ret2
 exact HF.out
theorem yzE (n:Int) (X:ByteArray) (v:Value) (L:Lb) (B:Nat) (w:World) (ho:w.ownsRow B 5 1 v L.length (zG L)) :
  Calls Tryz.prog 57 #[.agg #[.int .i64 1,.int .i64 n,.string X],v] w (uI B L w):=by
 have HF:Hid (uI B L w (.returned (.tuple #[v,.int .i64 0])) (w.alloc (.cells #[.int .i64 1,.int .i64 n,.string X] 45))):=h_ (by
  have hb:Be w (w.alloc (.cells #[.int .i64 1,.int .i64 n,.string X] 45)):=bR.alloc nl _
  exact ⟨hb,v,rfl,jW ho hb⟩)
 clear ho
 go_in
 go_wp2
 go_ret2
 exact HF.out
theorem ymi (x:Sg) (v:Value) (l:Lb) (B:Nat) (w:World) (hB:B≤w.heap.size) (hok:yde x=true) (hl:l.length≤20000) (ho:w.ownsRow B 5 1 v l.length (zG l)) :
  Calls Tryz.prog 57 #[.agg #[.int .i64 x.1,.int .i64 x.2.1,.string ⟨x.2.2.toArray⟩],v] w (uI B (uG x l) w):=by
 obtain ⟨k,n,s⟩:=x
 obtain ⟨p,c,rfl,hbs,hc⟩:=yS ho
 have hnc:=yaX ho
 rcases yeS hok with (h1|h4)|⟨h2,h3,h8⟩
 ·have h1:k=1:=h1
  subst h1
  have e:uG (1,n,s) l=l:=by unfold uG;rw [if_neg (by show ¬ (1:Int)=2;decide),if_neg (by show ¬ (1:Int)=3;decide),if_neg (by show ¬ (1:Int)=5;decide),if_neg (by show ¬ (1:Int)=4;decide)]
  rw [e]
  exact yzE n _ _ l B w ho
 ·have h4:k=4:=h4
  subst h4
  have e:uG (4,n,s) l=ybP l:=by unfold uG;rw [if_neg (by show ¬ (4:Int)=2;decide),if_neg (by show ¬ (4:Int)=3;decide),if_neg (by show ¬ (4:Int)=5;decide),if_pos (by show (4:Int)=4;rfl)]
  rw [e]
  exact yzD n _ _ _ B w hB (fun W hW=>yqB p c l W hl hc (hbs.below hW))
 ·have h3:1≤n:=h3
  have h8:n≤8:=h8
  obtain ⟨m,rfl⟩:∃ m:Nat,n=m:=⟨n.toNat,by omega⟩
  have m1:1≤m:=by omega
  have m8:m≤8:=by omega
  have h2:k=2∨k=3∨k=5:=h2
  rcases h2 with rfl|rfl|rfl
  ·have e:uG (2,(m:Int),s) l=yeV l m:=by unfold uG;rw [if_pos (by show (2:Int)=2;rfl)];rfl
   rw [e]
   exact ysb 2 104 m _ _ _ B w hB (.inl ⟨rfl,rfl⟩) (fun W hW=>yqm p c m l.length l W (h_ rfl) m1 m8 hl (h_ hc) (h_ hnc) (hbs.below hW))
  ·have e:uG (3,(m:Int),s) l=yaj l m:=by unfold uG;rw [if_neg (by show ¬ (3:Int)=2;decide),if_pos (by show (3:Int)=3;rfl)];rfl
   rw [e]
   exact ysb 3 105 m _ _ _ B w hB (.inr (.inl ⟨rfl,rfl⟩)) (fun W hW=>ymg p c m l W m1 m8 hl hc hnc (hbs.below hW))
  ·have e:uG (5,(m:Int),s) l=uU l m:=by unfold uG;rw [if_neg (by show ¬ (5:Int)=2;decide),if_neg (by show ¬ (5:Int)=3;decide),if_pos (by show (5:Int)=5;rfl)];rfl
   rw [e]
   exact ysb 5 106 m _ _ _ B w hB (.inr (.inr ⟨rfl,rfl⟩)) (fun W hW=>yqE p c m l.length l W (h_ rfl) m1 m8 (by omega) (h_ hc) (h_ hnc) (hbs.below hW))
end
section
open Go.RowKit
theorem ytC (S d j:Nat) (hS:S<4294967296) (hd:(d:Int)≤255):bits .and .u32 (bits .xor .u32 (S:Int) (bits .and .u32 ((d:Int)/2^j%4294967296) 1)) 1=(((S ^^^ d/2^j%2)%2:Nat):Int):=by
 have h0:d/2^j≤d:=Nat.div_le_self _ _
 have h1:(d:Int)/2^j%4294967296=((d/2^j:Nat):Int):=by
  have:((d/2^j:Nat):Int)=(d:Int)/2^j:=by simp
  rw [← this];generalize d/2^j=q at h0;omega
 have h2:bits .and .u32 ((d/2^j:Nat):Int) 1=((d/2^j%2:Nat):Int):=by
  have:=u32_and_nat (d/2^j) 1 (by generalize d/2^j=q at h0;omega) (by omega)
  rw [nat_mask1] at this;exact this
 rw [h1,h2,u32_xor_nat S _ hS (by omega)]
 have:=u32_and_nat (S ^^^ d/2^j%2) 1 (Crc.xor_lt hS (by omega)) (by omega)
 rw [nat_mask1] at this;exact this
theorem yqF {S:Nat} (hS:S<4294967296):bits .xor .u32 ((S:Int)/2) 3988292384=((S/2 ^^^ Crc.P32:Nat):Int):=by
 rw [show (S:Int)/2=((S/2:Nat):Int) by omega]
 exact u32_xor_nat (S/2) Crc.P32 (by omega) (by decide)
theorem ypz {l:Lb} {k S d:Nat} (hk:k<8*l.length) (hS:S=Crc.ra l k) (hd:(l.getD (k/8) 0).toNat=d):Crc.ra l (k+1)=if (S ^^^ d/2^(k%8)%2)%2=1 then S/2 ^^^ Crc.P32 else S/2:=by
 rw [Crc.ra_succ l k hk,hd,← hS,Crc.odd_step]
theorem yih (p:Oa) (c:Nat) (l:Lb) (w:World) (hn:l.length≤1000000) (hb:Bs w p l) :
  Calls Tryz.prog 108 #[.slice p l.length c] w (Qp (.int .u32 (Crc.crc l:Int)) w):=by
 have HB:=h_ hb
 clear hb
 obtain ⟨n,HN⟩:=ey (l.length)
 rw [← HN.out] at hn ⊢
 go_in
 go_wp2
 go_loop [3,4] (fun s i=>∃ k S:Nat,k≤8*n∧i=.int .i64 k∧s=.int .u32 (S:Int)∧Hid (S=Crc.ra l k)) (fun _ i=>8*n-(intOf i).toNat)
 case atStart=>exact ⟨0,4294967295,Nat.zero_le _,rfl,rfl,h_ (Crc.ra_zero l).symm⟩
 case round =>
  obtain ⟨k,S,hk,rfl,rfl,HS⟩:=hrel
  by_cases hlt:k<8*n
  ·obtain ⟨b1,o1,d,rfl,hb1,hc1,hd,hd2⟩:=HB.out.at (k:=k/8) (by rw [← HN.out];omega)
   have hlt':(k:Int)<8*n:=by omega
   have hSl:Hid (S<4294967296):=h_ (by rw [HS.out];exact Crc.ra_lt _ _)
   have HO:=h_ (ytC S d (k%8) hSl.out hd2)
   by_cases ho:(S ^^^ d/2^(k%8)%2)%2=1
   ·have HT:=h_ ((ypz (by rw [← HN.out];exact hlt) HS.out hd.out).trans (if_pos ho))
    have hb1:(bits .and .u32 (bits .xor .u32 (S:Int) (bits .and .u32 ((d:Int)/2^(k%8)%4294967296) 1)) 1==1)=true:=by rw [HO.out,ho];rfl
    clear ho
    go_wp2_with fail
    clear hb1
    go_round
    case rel=>exact ⟨k+1,S/2 ^^^ Crc.P32,by omega,by go_num,by rw [yqF hSl.out],h_ HT.out.symm⟩
    case measure=>simp [intOf];omega
   ·have HT:=h_ ((ypz (by rw [← HN.out];exact hlt) HS.out hd.out).trans (if_neg ho))
    have hb1:(bits .and .u32 (bits .xor .u32 (S:Int) (bits .and .u32 ((d:Int)/2^(k%8)%4294967296) 1)) 1==1)=false:=by
     rw [HO.out,show (S ^^^ d/2^(k%8)%2)%2=0 by omega];rfl
    clear ho
    go_wp2_with fail
    clear hb1
    go_round
    case rel=>exact ⟨k+1,S/2,by omega,by go_num,by rw [show (S:Int)/2=((S/2:Nat):Int) by omega],h_ HT.out.symm⟩
    case measure=>simp [intOf];omega
  ·obtain rfl:k=8*n:=by omega
   go_wp2
   go_ret
   refine ⟨?_,rfl⟩
   show Ending.returned (.int .u32 (bits .xor .u32 IntKind.u32.max (S:Int)))=_
   rw [yk7 (by rw [HS.out];exact Crc.ra_lt _ _),HS.out,HN.out,Crc.ra_end];rfl
end
section
open Go.RowKit
open Go.Lib
theorem yok (p:Oa) (c:Nat) (l:Lb) (w:World) (hn:l.length≤20000) (hb:Bs w p l) :
  Calls Tryz.prog 58 #[.slice p l.length c] w fun e w'=>∃ v,e=.returned v∧PutG w (jU l) w' v:=by
 have HC:=h_ (yih p c l w (by omega) hb)
 have HBS:=h_ hb
 have hx:=Crc.crc_lt l
 obtain ⟨x,HX⟩:=ez (Crc.crc l)
 obtain ⟨m,HM⟩:=ez (l.length)
 rw [HX.out] at HC hx
 rw [HM.out] at HC hn ⊢
 have hxi:(x:Int)≤4294967295:=by omega
 have HLB:Hid (0+m≤140737488355328∧m+4≤140737488355328):=h_ (by omega)
 have HNI:=h_ (World.ownsRow_nil w w.heap.size 5 1)
 clear hb hn hx
 go_in
 go_wp2_with fail
 refine (HC.out).mono ?_
 rintro e w' ⟨rfl,rfl⟩
 go_wp2_with (at_builtin;refine yG rfl (.tmp 7) (.tmp 8) rfl w.heap.size _ 0 [] rfl rfl HNI.out p m c l rfl HM.out HBS.out HLB.out.1 nl ?_)
 intro v1 w1 hg1
 have HG1:Hid (Grew w.heap.size w (.slice none 0 0) l w1 v1):=h_ hg1
 have HO1:Hid (w1.ownsRow w.heap.size 5 1 v1 m (zG l)):=h_ (by have h:=HG1.out.own;rwa [HM.out] at h)
 have yX:Hid (Be w w1):=h_ (hg1.below nl (by intro k hk;cases hk))
 obtain ⟨W2,HW2⟩:∃ W2,Hid (w1.alloc (.cells #[.int .u8 ((x:Int)%256),.int .u8 ((x:Int)/256%256),.int .u8 ((x:Int)/65536%256),.int .u8 ((x:Int)/16777216)] 5)=W2):=⟨_,h_ rfl⟩
 obtain ⟨G,HG⟩:=ez (w1.heap.size)
 have hb2:Be w1 W2:=by rw [← HW2.out];exact bR.alloc nl _
 have HSB:Hid (Bs W2 (some ⟨G,0,none⟩) (sumB x)):=h_ (by
  refine ym4 (t:=5) ?_
  have e0:((x%256:Nat):Int)=(x:Int)%256:=by omega
  have e1:((x/256%256:Nat):Int)=(x:Int)/256%256:=by omega
  have e2:((x/65536%256:Nat):Int)=(x:Int)/65536%256:=by omega
  have e3:((x/16777216%256:Nat):Int)=(x:Int)/16777216:=by omega
  rw [e0,e1,e2,e3,← HW2.out,← HG.out]
  exact World.alloc_heap_new w1 _)
 have HO2:Hid (W2.ownsRow w.heap.size 5 1 v1 m (zG l)):=h_ (jW HO1.out hb2)
 have jQ:Hid (Be w W2):=th yX hb2
 have HS2:Hid (w.heap.size≤W2.heap.size):=h_ jQ.out.size
 clear hg1 hb2
 go_wp2_with (first|(rw [HW2.out,HG.out];at_builtin;refine yG rfl (.tmp 10) (.tmp 22) rfl w.heap.size v1 m l rfl HM.out.symm HO2.out (some ⟨G,0,none⟩) 4 4 (sumB x) rfl rfl HSB.out HLB.out.2 HS2.out ?_)|(at_builtin;rw [HW2.out,HG.out];refine yG rfl (.tmp 10) (.tmp 22) rfl w.heap.size v1 m l rfl HM.out.symm HO2.out (some ⟨G,0,none⟩) 4 4 (sumB x) rfl rfl HSB.out HLB.out.2 HS2.out ?_))
 intro v9 w9 hg9
 have GB:Hid (PutG w (jU l) w9 v9):=h_ ⟨by unfold jU;rw [HX.out];exact hg9.own,jQ.out.grown hg9.grown jQ.out.size (fun _ e=>yaz HO2.out e)⟩
 clear hg9
 go_wp2
 go_ret
 exact ⟨v9,rfl,GB.out⟩
theorem ysB (p q:Oa) (n c d:Nat) (k:Int) (L:Lb) (w:World) (hL:Hid (L.length=n)) (hp:Bs w p L) (hq:Bs w q L) :
  Calls Tryz.prog 24 #[.slice p n c,.int .i64 k,.slice q n d,.int .i64 k] w (Rp (.bool true) w):=by
 have h1:=GG w p c L hp
 have h2:=GG w q d L hq
 rw [hL.out] at h1 h2
 obtain ⟨X,HX⟩:∃ X:ByteArray,Hid (⟨L.toArray⟩=X):=⟨_,rfl⟩
 rw [HX.out] at h1 h2
 clear hp hq
 go_in
 go_wp2
 go_ret
 exact ⟨rfl,Below.refl _ _⟩
theorem ypA {w:World} {p:Oa} {l:Lb} (h:Bs w p l) (n:Nat):Bs w p (l.take n):=by
 rcases h with h0|⟨b,off,h1,h2,h3⟩
 ·exact .inl (by rw [List.length_take,h0];omega)
 ·refine .inr ⟨b,off,h1,h2,fun j hj=>?_⟩
  rw [List.length_take] at hj
  rw [h3 j (by omega),List.getD_eq_getElem?_getD,List.getD_eq_getElem?_getD,List.getElem?_take_of_lt (by omega)]
end
theorem ytD {len n s t:Nat} (hn:0<n) (hs:s<len) (ht:t<len) (h:uX len n s=uX len n t):s=t:=by
 -- a list whose bytes tell their places apart is not at yhW: by arithmetic
 by_cases h1:s<len/n*n<;>by_cases h2:t<len/n*n
 ·have hk:0<len/n:=Nat.pos_of_ne_zero fun h0=>by rw [h0] at h1;omega
  obtain ⟨j,i,hj,hi,rfl⟩:=ya1 (k:=n) (n:=len/n) (by rw [Nat.mul_comm];exact h1) hk
  obtain ⟨j',i',hj',hi',rfl⟩:=ya1 (k:=n) (n:=len/n) (by rw [Nat.mul_comm];exact h2) hk
  rw [ybt hi hj,ybt hi' hj'] at h
  have e1:=congrArg (·%n) h
  have e2:=congrArg (·/n) h
  simp only [Nat.mul_comm _ n,Nat.mul_add_mod,Nat.mod_eq_of_lt hj,Nat.mod_eq_of_lt hj',Nat.mul_add_div hn,Nat.div_eq_of_lt hj,Nat.div_eq_of_lt hj',Nat.add_zero] at e1 e2
  rw [e1,e2]
 ·have h3:uX len n s<len/n*n:=by
   have hk:0<len/n:=Nat.pos_of_ne_zero fun h0=>by rw [h0] at h1;omega
   obtain ⟨j,i,hj,hi,rfl⟩:=ya1 (k:=n) (n:=len/n) (by rw [Nat.mul_comm];exact h1) hk
   rw [ybt hi hj];exact ybm hi hj
  rw [h,ybu (by omega)] at h3;omega
 ·have h3:uX len n t<len/n*n:=by
   have hk:0<len/n:=Nat.pos_of_ne_zero fun h0=>by rw [h0] at h2;omega
   obtain ⟨j,i,hj,hi,rfl⟩:=ya1 (k:=n) (n:=len/n) (by rw [Nat.mul_comm];exact h2) hk
   rw [ybt hi hj];exact ybm hi hj
  rw [← h,ybu (by omega)] at h3;omega
 ·rw [ybu (by omega),ybu (by omega)] at h;exact h
theorem yqG (l:Lb) {n:Nat} (hn:0<n):ybg l (fun t=>uX l.length n t) (fun t=>t) (List.range l.length)=yd4 l n:=by
 obtain ⟨r,hr⟩:∃ r,r=ybg l (fun t=>uX l.length n t) (fun t=>t) (List.range l.length):=⟨_,rfl⟩
 have hl:r.length=l.length:=by rw [hr,yaf]
 have h:yaj r n=l:=by
  refine yhg (by rw [vN,hl]) fun t ht=>?_
  rw [vN] at ht
  rw [yi4 r hn ht,hl,hr]
  exact yfy l (fun t=>uX l.length n t) (fun t=>t) (fun s t hs ht h=>ytD hn hs ht h) (fun t h=>yjV hn h) l.length nl t (by omega)
 rw [← hr,← h,yiw r hn]
end Go.Proofs.YtgepehlpjpccaaaGreatDoor
