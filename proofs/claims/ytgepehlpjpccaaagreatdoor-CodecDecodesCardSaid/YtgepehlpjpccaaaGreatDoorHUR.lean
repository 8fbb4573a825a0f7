/- Contracts. -/
import Derived.Test.YtgepehlpjpccaaaGreatDoorHJE
set_option maxHeartbeats 4000000
set_option maxRecDepth 100000
namespace Go.Proofs.YtgepehlpjpccaaaGreatDoor
open Go.RowKit
open Go.Lib
def yb6 (n:Nat) (r:Option (List Lb)) (w:World) (e:Ending) (w':World):Prop :=
 Be w w'∧match r with
 | some xs=>xs.length=n∧∃ q d,e=.returned (.tuple #[.slice q n d,.int .i64 0])∧Ss w' q xs
 | none=>e=.returned (.tuple #[.slice none 0 0,.int .i64 5])
theorem yb6.from {n:Nat} {r:Option (List Lb)} {w W w':World} {e:Ending} (h:yb6 n r W e w') (hb:Be w W):yb6 n r w e w':=⟨tr hb h.1,h.2⟩
theorem yqU (k:Int) (p:Oa) (c n m:Nat) (w:World) (hk:isT k=true) (hn:n≤4096) (hm:m<(n+7)/8) :
  Calls Tryz.prog 64 #[.int .i64 k,.int .i64 (n:Int),.slice p m c] w (Qp (.tuple #[.slice none 0 0,.int .i64 5]) w):=by
 have HT:=h_ (fun W=>ybB k W)
 rw [hk] at HT
 have hn0:¬ (n:Int)<0:=by omega
 have hn4:¬ (4096:Int)<(n:Int):=by omega
 have yuC:¬ 4096<n:=by omega
 obtain ⟨P,GO⟩:=ez ((n+7)/8)
 have hPi:((n:Int)+7)/8=(P:Int):=by have:=GO.out;omega
 have iPm:(m:Int)<(P:Int):=by have:=GO.out;omega
 have iPmN:m<P:=by omega
 clear hk hm
 go_in
 go_wp2_with fail
 refine (HT.out _).mono ?_
 rintro e w' ⟨rfl,rfl⟩
 go_wp2_with fail
 rw [hPi]
 go_ret2
 exact ⟨rfl,rfl⟩
theorem yjy (k:Int) (n:Nat) (lb:Lb) (HK1:Hid (1≤k∧k≤5)) (hn:n≤4096) (hml:lb.length≤1048576):∃ r:Option (List Lb),
  (∀ p c W,lb.length≤c→Env W→Bs W p lb→Calls Tryz.prog 62 #[.int .i64 k,.int .i64 (n:Int),.slice p lb.length c] W (yb6 n r W)) ∧
  (∀ p c W,lb.length≤c→Bs W p lb→Calls Tryz.prog 64 #[.int .i64 k,.int .i64 (n:Int),.slice p lb.length c] W (yb6 n r W)):=by
 have hkT:isT k=true:=by unfold isT;rw [decide_eq_true HK1.out.1,decide_eq_true HK1.out.2];rfl
 by_cases hfew:lb.length<(n+7)/8
 ·refine ⟨none,fun p c W _ _ _=>(ys5 k p c n _ W hkT hn hfew).mono ?_,fun p c W _ _=>(yqU k p c n _ W hkT hn hfew).mono ?_⟩
  ·rintro e w' ⟨rfl,rfl⟩;exact ⟨Below.refl _ _,rfl⟩
  ·rintro e w' ⟨rfl,rfl⟩;exact ⟨Below.refl _ _,rfl⟩
 ·have hnm:(n+7)/8≤lb.length:=by omega
  by_cases hx:∃ xs:List Lb,xs.length=n∧vN k xs=0∧vI k xs=lb
  ·obtain ⟨xs,h1,h2,h3⟩:=hx
   refine ⟨some xs,fun p c W hc he hb=>(ys4 k p c n lb.length xs W (h_ h1) hn (h_ (by rw [h3])) hc (by rw [h3];exact hb) (h_ h2) he).mono ?_,fun p c W hc hb=>(yjx k p c n lb.length lb W HK1 hn (h_ rfl) hc hb hml hnm).mono ?_⟩
   ·rintro e w' ⟨q,rfl,h4,h5⟩;exact ⟨h5,h1,q,n,rfl,h4⟩
   ·rintro e w' ⟨h4,⟨ys,q,d,a1,a2,a3,a4,rfl,a5⟩|⟨a1,rfl⟩⟩
    ·exact ⟨h4,h1,q,d,rfl,by rw [← a4 xs h1 h2 h3];exact a5⟩
    ·exact absurd h3 (a1 xs h1 h2)
  ·have hno:∀ xs:List Lb,xs.length=n→vN k xs=0→vI k xs≠lb:=fun xs h1 h2 h3=>hx ⟨xs,h1,h2,h3⟩
   refine ⟨none,fun p c W hc he hb=>(ykm k p c n lb.length lb W HK1 hn (h_ rfl) hc hb hml hnm he (h_ hno)).mono ?_,fun p c W hc hb=>(yjx k p c n lb.length lb W HK1 hn (h_ rfl) hc hb hml hnm).mono ?_⟩
   ·rintro e w' ⟨rfl,h5⟩;exact ⟨h5,rfl⟩
   ·rintro e w' ⟨h4,⟨ys,q,d,a1,a2,a3,a4,rfl,a5⟩|⟨a1,rfl⟩⟩
    ·exact absurd a3 (hno ys a1 a2)
    ·exact ⟨h4,rfl⟩
noncomputable def gtL (k:Int) (n:Nat) (lb:Lb):Option (List Lb) :=
 open Classical in if h:(1≤k∧k≤5)∧n≤4096∧lb.length≤1048576 then Classical.choose (yjy k n lb (h_ h.1) h.2.1 h.2.2) else none
theorem yjz {k:Int} {n:Nat} {lb:Lb} (HK1:1≤k∧k≤5) (hn:n≤4096) (hml:lb.length≤1048576) :
  (∀ p c W,lb.length≤c→Env W→Bs W p lb→Calls Tryz.prog 62 #[.int .i64 k,.int .i64 (n:Int),.slice p lb.length c] W (yb6 n (gtL k n lb) W)) ∧
  (∀ p c W,lb.length≤c→Bs W p lb→Calls Tryz.prog 64 #[.int .i64 k,.int .i64 (n:Int),.slice p lb.length c] W (yb6 n (gtL k n lb) W)):=by
 unfold gtL
 rw [dif_pos ⟨HK1,hn,hml⟩]
 exact Classical.choose_spec (yjy k n lb (h_ HK1) hn hml)
theorem yu7 (x:UInt8) (r:Lb) (h:2≤r.length):nb (r.take 2)=((x::r).getD 1 0).toNat*256+((x::r).getD 2 0).toNat:=by
 match r,h with
 | a::b::r',_=>simp [nb]
theorem yfY (a:Nat) (ha:a≤1000000):(BitVec.ofInt 64 (a:Int)).toNat=a:=by
 rw [BitVec.ofInt_natCast,BitVec.toNat_ofNat];exact Nat.mod_eq_of_lt (by omega)
theorem ykt (a b:Nat) (ha:a≤1000000) (hb:b≤1000000):bits .or .i64 (a:Int) (b:Int)=((a ||| b:Nat):Int):=by
 have hx:a ||| b<2^20:=Nat.or_lt_two_pow (by omega) (by omega)
 show IntKind.i64.wrap ((BitVec.ofInt 64 (a:Int) ||| BitVec.ofInt 64 (b:Int)).toNat:Int)=_
 rw [BitVec.toNat_or,yfY a ha,yfY b hb,IntKind.wrap_i64]
 omega
theorem ytc (q:Oa) (no co b0 off cap d n:Nat) (w:World) (hc:w.cell? ⟨b0,off,none⟩=some (.int .u8 (d:Int))) (hd:(d:Int)≤255) (hno:(no:Int)+(d:Int)+1≤1048576) (hn1:1≤n) (hn:n<d+2) :
  Calls Tryz.prog 165 #[.slice q no co,.slice (some ⟨b0,off,none⟩) n cap] w (Qp (.tuple #[.slice none 0 0,.int .i64 0,.int .i64 5]) w):=by
 have hn':(n:Int)<(d:Int)+1+1:=by omega
 have hn'':(n:Int)<1+(d:Int)+1:=by omega
 have t1:decide (1048576<(no:Int)+(1+(d:Int)+1)-1)=false:=by simp;omega
 have hno2:(no:Int)≤1048576:=by omega
 clear hno
 go_in
 go_wp2
 go_ret3
 exact ⟨rfl,rfl⟩
theorem yqV (B:Nat) (q:Oa) (o l:Lb) (co b0 off cap d n:Nat) (w:World) (hB:B≤w.heap.size) (ho:w.ownsRow B 5 1 (.slice q o.length co) o.length (zN o)) (hl:l.length=n) (hb:Bs w (some ⟨b0,off,none⟩) l) (hd0:(l.getD 0 0).toNat=d) (hno:(o.length:Int)+(d:Int)+1≤1048576) (hn:d+2≤n) (hcap:n≤cap) :
  Calls Tryz.prog 165 #[.slice q o.length co,.slice (some ⟨b0,off,none⟩) n cap] w (Tok B w (.slice q o.length co) (o++(l.drop 1).take (d+1)) ((d:Int)+2)):=by
 obtain ⟨i0,hi,hz0,hz1,hz2⟩:=info_parts uF
 have hd:(d:Int)≤255:=by have:=(l.getD 0 0).toNat_lt;omega
 have hc:w.cell? ⟨b0,off,none⟩=some (.int .u8 (d:Int)):=by
  rcases hb with h0|⟨b1,o1,h1,h2,h3⟩
  ·omega
  ·cases h1
   have:=h3 0 (by omega)
   rw [hd0] at this;exact this
 have hs:=h_ (jK hb 1 (d+1) (by omega) rfl)
 have yb0:=h_ (hs.out.news bR _ rfl)
 have hul:Hid ((zN ((l.drop 1).take (d+1))).length=(d+1)*1):=h_ (by rw [yaA];simp;omega)
 obtain ⟨k,hk⟩:=ey (o.length)
 rw [← hk.out] at ho hno ⊢
 have hlen:Hid (k+(d+1)≤maxLen∧(k+(d+1))*1≤140737488355328∧B≤w.heap.size):=h_ ⟨by unfold maxLen;omega,by omega,hB⟩
 have yP:=h_ ho
 have HB:=h_ hB
 have yF:Hid (∀ v' w',w'.ownsRow B 5 1 v' (k+(d+1)) (zN o++zN ((l.drop 1).take (d+1)))→w.grownBy w' (Value.slice q k co).ownBlock→(v'.ownBlock=(Value.slice q k co).ownBlock∨v'.ownBlock=some w.heap.size)→Tok B w (.slice q k co) (o++(l.drop 1).take (d+1)) ((d:Int)+2) (.returned (.tuple #[v',.int .i64 ((d:Int)+2),.int .i64 0])) w'):=h_ (fun v' w' h1 h2 h3=>⟨v',rfl,by
  refine ⟨?_,h2,h3.imp id fun h=>⟨_,h,Nat.le_refl _⟩⟩
  have e:(o++(l.drop 1).take (d+1)).length=k+(d+1):=by simp;rw [hk.out];omega
  rw [e,zN,List.map_append];exact h1⟩)
 obtain ⟨L,HL⟩:=ey ((l.drop 1).take (d+1))
 rw [← HL.out] at yF hul yb0 ⊢
 clear hb hd0 ho hB hl hs
 have t1:decide (1048576<(k:Int)+((d:Int)+2)-1)=false:=by simp;omega
 have t2:decide ((n:Int)<(d:Int)+2)=false:=by simp;omega
 have e1:(1:Int)+(d:Int)+1=((d+2:Nat):Int):=by omega
 go_in
 go_wp2_with (at_builtin;refine wpList_append_own_at _ rfl (.tmp 24) (.tmp 27) 39 rfl B 5 i0 (.int .u8 0) 1 1 Tryz.underlying39 hi hz0 hz1 hz2 rfl (by decide) _ _ _ rfl yP.out ⟨b0,off+1,none⟩ (d+1) (cap-1) (zN L) rfl hul.out yb0.out (ydQ L) hlen.out.1 hlen.out.2.1 HB.out ?_)
 intro v5 w5 yM yH _ uS
 have HE:=h_ (yF.out v5 w5 yM yH uS)
 clear yM yH uS
 go_wp2
 go_ret3
 exact HE.out
theorem yqW (q:Oa) (no co b0 off cap d n:Nat) (w:World) (hc:w.cell? ⟨b0,off,none⟩=some (.int .u8 (d:Int))) (hd:(d:Int)≤255) (hno:(no:Int)≤1048576) (hlim:1048576<(no:Int)+(d:Int)+1) (hn1:1≤n) :
  Calls Tryz.prog 165 #[.slice q no co,.slice (some ⟨b0,off,none⟩) n cap] w fun e w'=>(∃ x:Int,x≠0∧e=.returned (.tuple #[.slice none 0 0,.int .i64 0,.int .i64 x]))∧w=w':=by
 have t1:decide (1048576<(no:Int)+(1+(d:Int)+1)-1)=true:=by simp;omega
 clear hlim
 go_in
 go_wp2
 go_ret3
 exact ⟨⟨_,by decide,rfl⟩,rfl⟩
theorem yl0 (q:Oa) (no co b0 off cap d n:Nat) (w:World) (hc:w.cell? ⟨b0,off,none⟩=some (.int .u8 (d:Int))) (hd:(d:Int)≤255) (hd1:128≤(d:Int)) (hno:(no:Int)+((d:Int)-124)≤1048576) (hn1:1≤n) (hn:n<3) :
  Calls Tryz.prog 166 #[.slice q no co,.slice (some ⟨b0,off,none⟩) n cap] w (Qp (.tuple #[.slice none 0 0,.int .i64 0,.int .i64 5]) w):=by
 have hn':(n:Int)<3:=by omega
 have t1:decide (1048576<(no:Int)+((d:Int)-128+4))=false:=by simp;omega
 go_in
 go_wp2
 go_ret3
 exact ⟨rfl,rfl⟩
theorem yqX (q:Oa) (no co b0 off cap d n:Nat) (l:Lb) (w:World) (hl:l.length=n) (hb:Bs w (some ⟨b0,off,none⟩) l) (hd0:(l.getD 0 0).toNat=d) (hd1:128≤(d:Int)) (hno:(no:Int)+((d:Int)-124)≤1048576) (hn:3≤n) (hcap:n≤cap) (hf:nb ((l.drop 1).take 2)=0∨no<nb ((l.drop 1).take 2)) :
  Calls Tryz.prog 166 #[.slice q no co,.slice (some ⟨b0,off,none⟩) n cap] w (Qp (.tuple #[.slice none 0 0,.int .i64 0,.int .i64 5]) w):=by
 have hd:(d:Int)≤255:=by have:=(l.getD 0 0).toNat_lt;omega
 have hc:w.cell? ⟨b0,off,none⟩=some (.int .u8 (d:Int)):=by
  rcases hb with h0|⟨b1,o1,h1,h2,h3⟩
  ·omega
  ·cases h1
   have:=h3 0 (by omega)
   rw [hd0] at this;exact this
 have hs:=jK hb 1 2 (by omega) rfl
 have hl2:((l.drop 1).take 2).length=2:=by simp;omega
 have HN:=h_ (jA (some ⟨b0,off+1,none⟩) (cap-1) _ w (by omega) hs)
 rw [hl2] at HN
 have hlt:=GQ ((l.drop 1).take 2)
 rw [hl2] at hlt
 obtain ⟨D,HD⟩:=ey (nb ((l.drop 1).take 2))
 rw [← HD.out] at HN hlt hf
 have hD:(D:Int)≤65535:=by
                  have:(256:Nat)^2=65536:=by decide
                  omega
 have t1:decide (1048576<(no:Int)+((d:Int)-128+4))=false:=by simp;omega
 have hn3:¬ (n:Int)<3:=by omega
 clear hb hs hl2 hd0 hlt hl
 by_cases h0:D=0
 ·subst h0
  go_in
  go_wp2_with fail
  refine (HN.out).mono ?_
  rintro e w' ⟨rfl,rfl⟩
  go_wp2
  go_ret3
  exact ⟨rfl,rfl⟩
 ·have t2:((D:Int)==0)=false:=by simp;omega
  have t3:decide ((no:Int)<(D:Int))=true:=by simp;omega
  go_in
  go_wp2_with fail
  refine (HN.out).mono ?_
  rintro e w' ⟨rfl,rfl⟩
  go_wp2
  go_ret3
  exact ⟨rfl,rfl⟩
theorem yqY (q:Oa) (no co b0 off cap d n:Nat) (w:World) (hc:w.cell? ⟨b0,off,none⟩=some (.int .u8 (d:Int))) (hd:(d:Int)≤255) (hd1:128≤(d:Int)) (hno:(no:Int)≤1048576) (hlim:1048576<(no:Int)+((d:Int)-124)) (hn1:1≤n) :
  Calls Tryz.prog 166 #[.slice q no co,.slice (some ⟨b0,off,none⟩) n cap] w fun e w'=>(∃ x:Int,x≠0∧e=.returned (.tuple #[.slice none 0 0,.int .i64 0,.int .i64 x]))∧w=w':=by
 have t1:decide (1048576<(no:Int)+((d:Int)-128+4))=true:=by simp;omega
 go_in
 go_wp2
 go_ret3
 exact ⟨⟨_,by decide,rfl⟩,rfl⟩
theorem yqZ (B:Nat) (q:Oa) (o l:Lb) (co b0 off cap d n:Nat) (w:World) (hB:B≤w.heap.size) (ho:w.ownsRow B 5 1 (.slice q o.length co) o.length (zN o)) (hl:l.length=n) (hb:Bs w (some ⟨b0,off,none⟩) l) (hd0:(l.getD 0 0).toNat=d) (hd1:128≤(d:Int)) (hno:(o.length:Int)+((d:Int)-124)≤1048576) (hn:3≤n) (hcap:n≤cap) (hf0:nb ((l.drop 1).take 2)≠0) (hf:nb ((l.drop 1).take 2)≤o.length) :
  Calls Tryz.prog 166 #[.slice q o.length co,.slice (some ⟨b0,off,none⟩) n cap] w (Tok B w (.slice q o.length co) (cp (d-124) (nb ((l.drop 1).take 2)) o) 3):=by
 obtain ⟨i0,hi,hz0,hz1,hz2⟩:=info_parts uF
 have hd:(d:Int)≤255:=by have:=(l.getD 0 0).toNat_lt;omega
 have hc:w.cell? ⟨b0,off,none⟩=some (.int .u8 (d:Int)):=by
  rcases hb with h0|⟨b1,o1,h1,h2,h3⟩
  ·omega
  ·cases h1
   have:=h3 0 (by omega)
   rw [hd0] at this;exact this
 have hs:=jK hb 1 2 (by omega) rfl
 have hl2:((l.drop 1).take 2).length=2:=by simp;omega
 have HN:=h_ (jA (some ⟨b0,off+1,none⟩) (cap-1) _ w (by omega) hs)
 rw [hl2] at HN
 have hlt:=GQ ((l.drop 1).take 2)
 rw [hl2] at hlt
 obtain ⟨D,HD⟩:=ey (nb ((l.drop 1).take 2))
 rw [← HD.out] at HN hlt hf hf0 ⊢
 have hD:(D:Int)≤65535:=by
                  have:(256:Nat)^2=65536:=by decide
                  omega
 have HG0:=h_ (Grew.refl ho)
 have HB:=h_ hB
 have HF:=h_ hf
 obtain ⟨no,hk⟩:=ey (o.length)
 obtain ⟨m,hm⟩:=ey (d-124)
 rw [← hm.out]
 rw [← hk.out] at hno HG0 HF ⊢
 have hmd:(d:Int)-128+4=((m:Nat):Int):=by rw [hm.out];omega
 have hm2:(m:Int)≤131:=by rw [hm.out];omega
 have t1:decide (1048576<(no:Int)+(m:Int))=false:=by simp;omega
 have hn3:¬ (n:Int)<3:=by omega
 have t2:((D:Int)==0)=false:=by simp;omega
 have t3:decide (no<D)=false:=by have:=HF.out;simp;omega
 have hD1:Hid (0<D):=h_ (by omega)
 clear hb hs hl2 hd0 hlt hl hf hf0 ho hB
 go_in
 go_wp2_with fail
 refine (HN.out).mono ?_
 rintro e w' ⟨rfl,rfl⟩
 go_wp2_with fail
 clear t1 t2 t3
 go_loopw [0,36] (fun vr i wr=>∃ (k:Nat) (b:Lb),k≤m∧i=.int .i64 k∧Hid (b.length=no+k)∧Hid (cp (m-k) D b=cp m D o)∧Hid (Grew B w (.slice q no co) b wr vr)) (fun _ i _=>m-(intOf i).toNat)
 case atStart=>exact ⟨0,o,Nat.zero_le _,rfl,h_ hk.out.symm,h_ (by rw [Nat.sub_zero]),HG0⟩
 case round =>
  obtain ⟨k,b,hkm,rfl,HL,HE,HG⟩:=hrel
  by_cases hlt:k<m
  ·obtain ⟨g,cp1,hv5,ygG,hg,hgl,zS,-,-⟩:=yat HG.out.own (by have:=HL.out;have:=HF.out;have:=hD1.out;omega)
   rw [HL.out] at hv5 ygG zS
   subst hv5
   obtain ⟨x,HX⟩:∃ x:UInt8,Hid (x=b.getD (no+k-D) 0):=⟨_,rfl⟩
   have gc:wr.cell? ⟨g,no+k-D,none⟩=some (.int .u8 ((x.toNat:Nat):Int)):=by rw [HX.out];exact zS _ (by have:=hD1.out;have:=HF.out;omega)
   have hbl:Hid (b.length+1≤maxLen∧(b.length+1)*1≤140737488355328∧B≤wr.heap.size+1):=h_ (by
    have h1:=HL.out
    have h3:=HG.out.grown.size
    have h4:=HB.out
    unfold maxLen;omega)
   have hix:(no:Int)+(k:Int)-(D:Int)=((no+k-D:Nat):Int):=by have:=HF.out;omega
   have hne:Hid (cp (m-(k+1)) D (b++[x])=cp m D o):=h_ (by
    rw [← HE.out,show m-k=(m-(k+1))+1 by omega,cp,HL.out,HX.out])
   rw [HL.out] at hbl
   clear zS
   have yP:=h_ HG.out.own
   rw [HL.out] at yP
   have q3:no+k-D<no+k:=by have:=hD1.out;have:=HF.out;omega
   go_wp2_with (at_builtin;refine wpList_append_own_at _ rfl (.tmp 38) (.tmp 46) 39 rfl B 5 i0 (.int .u8 0) 1 1 Tryz.underlying39 hi hz0 hz1 hz2 rfl (by decide) _ _ _ rfl ((yP.out).alloc _) ⟨_,0,none⟩ 1 1 [.int .u8 (x.toNat:Int)] rfl rfl (cell_one_new _ _ _) (by intro u hu;simp at hu;subst hu;rfl) hbl.out.1 hbl.out.2.1 (by simp;exact hbl.out.2.2) ?_)
   intro v5 w5 yM yH _ uS
   have HG5:=h_ (HG.out.next (by rw [HL.out]) yM yH uS)
   clear yM yH uS
   go_wp2
   go_roundw
   case rel=>exact ⟨k+1,b++[x],by omega,by go_num,h_ (by rw [List.length_append,HL.out];rfl),hne,HG5⟩
   case measure=>simp [intOf];omega
  ·obtain rfl:k=m:=by omega
   go_wp2
   go_ret3
   have hE:=HE.out
   rw [Nat.sub_self,cp] at hE
   rw [← hE]
   exact ⟨_,rfl,HG.out⟩
theorem yn7 {o r L:Lb} {c:UInt8} (hc:c.toNat<128) (h:und o (c::r)=some L):o.length+c.toNat+1≤L.length:=by
 by_cases hr:r.length<c.toNat+1
 ·rw [ya4 hc hr] at h;cases h
 ·rw [ydc hc (by omega)] at h
  have:=ydV _ _ _ nl _ h
  rw [List.length_append,List.length_take] at this
  omega
theorem yq0 {o r L:Lb} {c:UInt8} (hc:128≤c.toNat) (h:und o (c::r)=some L):o.length+(c.toNat-124)≤L.length:=by
 by_cases hr:r.length<2
 ·rw [ydd hc hr] at h;cases h
 ·by_cases hd:nb (r.take 2)=0∨o.length<nb (r.take 2)
  ·rw [ye6 hc (by omega) hd] at h;cases h
  ·rw [ydZ hc (by omega) hd] at h
   have:=ydV _ _ _ nl _ h
   rw [ydb] at this
   omega
def yaK (l:Lb) (w:World) (e:Ending) (w':World):Prop :=
 (∃ L,und [] l=some L∧L.length≤1048576∧yez L L.length w e w')∨((∀ L,und [] l=some L→1048576<L.length)∧Be w w'∧∃ x:Int,x≠0∧e=.returned (.tuple #[.slice none 0 0,.int .i64 x]))
structure UAx (w wr:World) (l rest o:Lb) (pb:Oa) (n cb:Nat) (ov:Value):Prop where
 len:rest.length=n
 cap:n≤cb
 bytes:Bs w pb rest
 out:Grew w.heap.size w (.slice none 0 0) o wr ov
 eq:und [] l=und o rest
 room:o.length≤1048576
theorem UAx.below {w wr:World} {l rest o:Lb} {pb:Oa} {n cb:Nat} {ov:Value} (h:UAx w wr l rest o pb n cb ov):Be w wr:=h.out.below nl (by intro k hk;cases hk)
theorem UAx.next {w wr w2:World} {l rest o o2:Lb} {b0 off n cb k:Nat} {ov v2:Value} (h:UAx w wr l rest o (some ⟨b0,off,none⟩) n cb ov) (hk:k≤n) (hg:Grew w.heap.size w (.slice none 0 0) o2 w2 v2) (he:und [] l=und o2 (rest.drop k)) (hr:o2.length≤1048576) (q:Nat) :
  UAx w (w2.drewN q) l (rest.drop k) o2 (if cb=k then some ⟨b0,off,none⟩ else some ⟨b0,off+k,none⟩) (n-k) (cb-k) v2:=by
 refine ⟨by rw [List.length_drop,h.len],by have:=h.cap;omega,?_,hg.drewN q,he,hr⟩
 split
 ·exact .inl (by rw [List.length_drop,h.len];have:=h.cap;omega)
 ·exact vH h.bytes k (by rw [h.len];exact hk) rfl
theorem yl1 (p:Oa) (c len:Nat) (l:Lb) (w:World) (HL0:Hid (len=l.length)) (hc:len≤c) (hb:Bs w p l) :
  Calls Tryz.prog 112 #[.slice p len c] w (yaK l w):=by
 have H0:Hid (UAx w w l l [] p len c (.slice none 0 0)):=h_ ⟨HL0.out.symm,hc,hb,Grew.refl (l:=[]) (World.ownsRow_nil w w.heap.size 5 1),rfl,Nat.zero_le _⟩
 clear hb hc
 go_in
 go_wp2
 go_loopw [0,4] (fun bv ov wr=>∃ (rest o:Lb) (pb:Oa) (n cb:Nat),bv=.slice pb n cb∧Hid (UAx w wr l rest o pb n cb ov)) (fun bv _ _=>yvP bv)
 case atStart=>exact ⟨l,[],p,_,_,rfl,H0⟩
 case round =>
  obtain ⟨rest,o,pb,n,cb,rfl,HU⟩:=hrel
  cases rest with
  | nil =>
   obtain rfl:n=0:=HU.out.len.symm
   have h:=HU.out
   have e:=h.eq
   rw [ye5] at e
   obtain ⟨q5,d5,hv5,h5,h6⟩:=zA h.out.own
   have yF:Hid (yaK l w (.returned (.tuple #[.slice q5 o.length d5,.int .i64 0])) wr):=h_ (.inl ⟨o,e,h.room,h.below,_,_,rfl,h_ h6,h_ (yaw (by have:=h.out.own;rwa [hv5] at this)),h5⟩)
   subst hv5
   clear h e h5 h6
   go_wp2
   go_ret2
   exact yF.out
  | cons x r =>
   have hlen:=HU.out.len
   rw [List.length_cons] at hlen
   obtain ⟨b0,off,d,rfl,hb0,hc0,hd,hd2⟩:=(HU.out.bytes.below HU.out.below).at (k:=0) (by simp)
   have hn0:0<n:=by omega
   rw [Nat.add_zero] at hc0
   obtain ⟨qo,co,rfl,-,-⟩:=zA HU.out.out.own
   have HL:=h_ hlen
   clear hlen
   have hx:Hid (x.toNat=d):=h_ hd.out
   have hbw:Hid (Be w wr):=h_ HU.out.below
   obtain ⟨no,HNO⟩:=ez (o.length)
   have ylH:Hid (no≤1048576):=h_ (by rw [← HNO.out];exact HU.out.room)
   have hB2:=h_ (HU.out.bytes.below hbw.out)
   have hcb:=h_ HU.out.cap
   rw [HNO.out]
   by_cases hp:d<128
   ·have t1:decide ((128:Int)≤(d:Int))=false:=by simp;omega
    by_cases hlim:1048576<no+d+1
    ·clear hB2
     have HT:=h_ (yqW qo no co b0 off cb d n wr hc0 (by omega) (by have:=ylH.out;omega) (by omega) hn0)
     have ycL:Hid (∀ x:Int,x≠0→yaK l w (.returned (.tuple #[.slice none 0 0,.int .i64 x])) wr):=h_ (fun x hx0=>.inr ⟨fun L e=>(by have:=yn7 (by rw [hx.out];exact hp) (HU.out.eq.symm.trans e);rw [hx.out,HNO.out] at this;omega),hbw.out,x,hx0,rfl⟩)
     go_wp2_with fail
     refine (HT.out).mono ?_
     rintro e w2 ⟨⟨z,hz,rfl⟩,rfl⟩
     have hz1:(z != 0)=true:=by rw [bne_iff_ne];exact hz
     have HZ:=h_ hz
     clear hz
     go_wp2
     go_ret2
     exact ycL.out _ HZ.out
    by_cases hs:n<d+2
    ·clear hB2
     have HT:=h_ (ytc qo no co b0 off cb d n wr hc0 (by omega) (by omega) hn0 hs)
     have ycL:Hid (yaK l w (.returned (.tuple #[.slice none 0 0,.int .i64 5])) wr):=h_ (.inr ⟨fun L e=>(by rw [HU.out.eq,ya4 (by rw [hx.out];exact hp) (by rw [hx.out];have:=HL.out;omega)] at e;cases e),hbw.out,5,by decide,rfl⟩)
     go_wp2_with fail
     refine (HT.out).mono ?_
     rintro e w2 ⟨rfl,rfl⟩
     go_wp2
     go_ret2
     exact ycL.out
    have HT:=h_ (yqV w.heap.size qo o (x::r) co b0 off cb d n wr hbw.out.size HU.out.out.own (by simp [HL.out]) hB2.out hx.out (by rw [HNO.out];omega) (by omega) hcb.out)
    have hR:Hid (und [] l=und (o++((x::r).drop 1).take (d+1)) ((x::r).drop (d+2))):=h_ (by rw [HU.out.eq,ydc (by rw [hx.out];exact hp) (by rw [hx.out];have:=HL.out;omega),hx.out];rfl)
    have hR2:Hid ((o++((x::r).drop 1).take (d+1)).length≤1048576):=h_ (by rw [List.length_append,List.length_take,HNO.out];omega)
    rw [HNO.out] at HT
    clear hB2
    go_wp2_with fail
    refine (HT.out).mono ?_
    rintro e w2 ⟨v2,rfl,hg2⟩
    have HG2:=h_ (HU.out.out.trans (by rw [HNO.out];exact hg2))
    clear hg2
    have hcc:=hcb.out
    go_wp2_with fail
    go_quiet (fail)
    go_wp2
    go_roundw
    case rel=>exact ⟨_,_,_,_,_,rfl,h_ (HU.out.next (by omega) HG2.out hR.out hR2.out _)⟩
    case measure=>show n-(d+2)<n;omega
   ·have t1:decide ((128:Int)≤(d:Int))=true:=by simp;omega
    by_cases hlim:1048576<no+(d-124)
    ·clear hB2
     have HT:=h_ (yqY qo no co b0 off cb d n wr hc0 (by omega) (by omega) (by have:=ylH.out;omega) (by omega) hn0)
     have ycL:Hid (∀ x:Int,x≠0→yaK l w (.returned (.tuple #[.slice none 0 0,.int .i64 x])) wr):=h_ (fun x hx0=>.inr ⟨fun L e=>(by have:=yq0 (by rw [hx.out];omega) (HU.out.eq.symm.trans e);rw [hx.out,HNO.out] at this;omega),hbw.out,x,hx0,rfl⟩)
     go_wp2_with fail
     refine (HT.out).mono ?_
     rintro e w2 ⟨⟨z,hz,rfl⟩,rfl⟩
     have hz1:(z != 0)=true:=by rw [bne_iff_ne];exact hz
     have HZ:=h_ hz
     clear hz
     go_wp2
     go_ret2
     exact ycL.out _ HZ.out
    by_cases hs:n<3
    ·clear hB2
     have HT:=h_ (yl0 qo no co b0 off cb d n wr hc0 (by omega) (by omega) (by omega) hn0 hs)
     have ycL:Hid (yaK l w (.returned (.tuple #[.slice none 0 0,.int .i64 5])) wr):=h_ (.inr ⟨fun L e=>(by rw [HU.out.eq,ydd (by rw [hx.out];omega) (by have:=HL.out;omega)] at e;cases e),hbw.out,5,by decide,rfl⟩)
     go_wp2_with fail
     refine (HT.out).mono ?_
     rintro e w2 ⟨rfl,rfl⟩
     go_wp2
     go_ret2
     exact ycL.out
    by_cases hf:nb (r.take 2)=0∨o.length<nb (r.take 2)
    ·have hf2:nb (((x::r).drop 1).take 2)=0∨no<nb (((x::r).drop 1).take 2):=by rw [← HNO.out];exact hf
     have HT:=h_ (yqX qo no co b0 off cb d n (x::r) wr (by simp [HL.out]) hB2.out hx.out (by omega) (by omega) (by omega) hcb.out hf2)
     have ycL:Hid (yaK l w (.returned (.tuple #[.slice none 0 0,.int .i64 5])) wr):=h_ (.inr ⟨fun L e=>(by rw [HU.out.eq,ye6 (by rw [hx.out];omega) (by have:=HL.out;omega) hf] at e;cases e),hbw.out,5,by decide,rfl⟩)
     go_wp2_with fail
     refine (HT.out).mono ?_
     rintro e w2 ⟨rfl,rfl⟩
     go_wp2
     go_ret2
     exact ycL.out
    have HT:=h_ (yqZ w.heap.size qo o (x::r) co b0 off cb d n wr hbw.out.size HU.out.out.own (by simp [HL.out]) hB2.out hx.out (by omega) (by rw [HNO.out];omega) (by omega) hcb.out (fun h=>hf (.inl h)) (by exact Nat.le_of_not_lt fun h=>hf (.inr h)))
    have hR:Hid (und [] l=und (cp (d-124) (nb (((x::r).drop 1).take 2)) o) ((x::r).drop 3)):=h_ (by rw [HU.out.eq,ydZ (by rw [hx.out];omega) (by have:=HL.out;omega) hf,hx.out];rfl)
    have hR2:Hid ((cp (d-124) (nb (((x::r).drop 1).take 2)) o).length≤1048576):=h_ (by rw [ydb,HNO.out];omega)
    rw [HNO.out] at HT
    clear hB2 hf
    go_wp2_with fail
    refine (HT.out).mono ?_
    rintro e w2 ⟨v2,rfl,hg2⟩
    have HG2:=h_ (HU.out.out.trans (by rw [HNO.out];exact hg2))
    clear hg2
    have hcc:=hcb.out
    go_wp2_with fail
    go_quiet (fail)
    go_wp2
    go_roundw
    case rel=>exact ⟨_,_,_,_,_,rfl,h_ (HU.out.next (by omega) HG2.out hR.out hR2.out _)⟩
    case measure=>show n-3<n;omega
theorem yku (p:Oa) (c:Nat) (l:Lb) (w:World) (hc:l.length≤c) (hb:Bs w p l) :
  Calls Tryz.prog 117 #[.slice p l.length c] w (yaK l w):=by
 obtain ⟨i0,hi,hz0,hz1,hz2⟩:=info_parts uF
 have H0:Hid (UAx w w l l [] p l.length c (.slice none 0 0)):=h_ ⟨rfl,hc,hb,Grew.refl (l:=[]) (World.ownsRow_nil w w.heap.size 5 1),rfl,Nat.zero_le _⟩
 obtain ⟨n0,HN⟩:∃ n,Hid (n=l.length):=⟨_,rfl⟩
 rw [← HN.out] at H0 ⊢
 clear hb hc
 go_in
 go_wp2
 go_loopw [0,4] (fun bv ov wr=>∃ (rest o:Lb) (pb:Oa) (n cb:Nat),bv=.slice pb n cb∧Hid (UAx w wr l rest o pb n cb ov)) (fun bv _ _=>yvP bv)
 case atStart=>exact ⟨l,[],p,_,_,rfl,H0⟩
 case round =>
  obtain ⟨rest,o,pb,n,cb,rfl,HU⟩:=hrel
  cases rest with
  | nil =>
   obtain rfl:n=0:=HU.out.len.symm
   have h:=HU.out
   have e:=h.eq
   rw [ye5] at e
   obtain ⟨q5,d5,hv5,h5,h6⟩:=zA h.out.own
   have yF:Hid (yaK l w (.returned (.tuple #[.slice q5 o.length d5,.int .i64 0])) wr):=h_ (.inl ⟨o,e,h.room,h.below,_,_,rfl,h_ h6,h_ (yaw (by have:=h.out.own;rwa [hv5] at this)),h5⟩)
   subst hv5
   clear h e h5 h6
   go_wp2
   go_ret2
   exact yF.out
  | cons x r =>
   have hlen:=HU.out.len
   rw [List.length_cons] at hlen
   obtain ⟨b0,off,d,rfl,hb0,hc0,hd,hd2⟩:=(HU.out.bytes.below HU.out.below).at (k:=0) (by simp)
   have hn0:0<n:=by omega
   rw [Nat.add_zero] at hc0
   obtain ⟨qo,co,rfl,-,-⟩:=zA HU.out.out.own
   have HL:=h_ hlen
   clear hlen
   have hx:Hid (x.toNat=d):=h_ hd.out
   have hbw:Hid (Be w wr):=h_ HU.out.below
   obtain ⟨no,Hno⟩:=ey (o.length)
   have hno:(no:Int)≤1048576:=by have:=HU.out.room;rw [Hno.out];omega
   rw [← Hno.out] at HU ⊢
   by_cases hp:d<128
   ·have t1:decide ((d:Int)<128)=true:=by simp;omega
    by_cases hs:n<d+2
    ·have t2:decide ((n:Int)<(d:Int)+2)=true:=by simp;omega
     have hR:Hid (und [] l=none):=h_ (by rw [HU.out.eq];exact ya4 (by rw [hx.out];exact hp) (by rw [hx.out];have:=HL.out;omega))
     go_wp2
     go_ret2
     exact .inr ⟨fun L e=>(by rw [hR.out] at e;cases e),hbw.out,_,by decide,rfl⟩
    ·have t2:decide ((n:Int)<(d:Int)+2)=false:=by simp;omega
     have hB2:=HU.out.bytes.below hbw.out
     have ybp:=jK hB2 1 (d+1) (by simp [HL.out];omega) rfl
     have yb0:=h_ (ybp.news bR _ rfl)
     have hul:Hid ((zN (((x::r).drop 1).take (d+1))).length=(d+1)*1):=h_ (by rw [yaA];simp;have:=HL.out;omega)
     have hlen:Hid (no+(d+1)≤maxLen∧(no+(d+1))*1≤140737488355328∧w.heap.size≤wr.heap.size):=h_ ⟨by unfold maxLen;omega,by omega,hbw.out.size⟩
     have yP:=h_ HU.out.out.own
     rw [← Hno.out] at yP
     have hR:Hid (und [] l=und (o++((x::r).drop 1).take (d+1)) ((x::r).drop (d+2))):=h_ (by rw [HU.out.eq,ydc (by rw [hx.out];exact hp) (by rw [hx.out];have:=HL.out;omega),hx.out];rfl)
     have yF:Hid (∀ v' w',w'.ownsRow w.heap.size 5 1 v' (no+(d+1)) (zN o++zN (((x::r).drop 1).take (d+1)))→wr.grownBy w' (Value.slice qo no co).ownBlock→(v'.ownBlock=(Value.slice qo no co).ownBlock∨v'.ownBlock=some wr.heap.size)→Grew w.heap.size w (.slice none 0 0) (o++((x::r).drop 1).take (d+1)) w' v'):=h_ (fun v' w' h1 h2 h3=>HU.out.out.trans (by
      refine ⟨?_,h2,h3.imp id fun h=>⟨_,h,Nat.le_refl _⟩⟩
      have e:(o++((x::r).drop 1).take (d+1)).length=no+(d+1):=by simp;have:=HL.out;rw [Hno.out];omega
      rw [e,zN,List.map_append];exact h1))
     obtain ⟨L,GL⟩:=ey (((x::r).drop 1).take (d+1))
     rw [← GL.out] at yF hul yb0
     have hcb:=HU.out.cap
     clear hB2 ybp
     go_wp2_with (at_builtin;refine wpList_append_own_at _ rfl (.tmp 23) (.tmp 27) 39 rfl w.heap.size 5 i0 (.int .u8 0) 1 1 Tryz.underlying39 hi hz0 hz1 hz2 rfl (by decide) _ _ _ rfl yP.out ⟨b0,off+1,none⟩ (d+1) (cb-1) (zN L) rfl hul.out yb0.out (ydQ L) hlen.out.1 hlen.out.2.1 hlen.out.2.2 ?_)
     intro v5 w5 yM yH _ uS
     have HE:=h_ (yF.out v5 w5 yM yH uS)
     clear yM yH uS
     rw [GL.out] at HE
     obtain ⟨O,HO⟩:=ey (o++((x::r).drop 1).take (d+1))
     rw [← HO.out] at HE hR
     obtain ⟨q5,c5,rfl,-,-⟩:=zA HE.out.own
     by_cases hlim:1048576<O.length
     ·have t9:decide ((1048576:Int)<(O.length:Int))=true:=by simp;omega
      have ycL:Hid (∀ x:Int,x≠0→∀ W,Be w W→yaK l w (.returned (.tuple #[.slice none 0 0,.int .i64 x])) W):=h_ (fun x hx0 W hW=>.inr ⟨fun L e=>(by have:=ydV _ _ _ nl _ (hR.out.symm.trans e);omega),hW,x,hx0,rfl⟩)
      have yca:=h_ (HE.out.below nl (by intro k hk;cases hk))
      go_wp2_with fail
      all_goals (go_ret2;exact ycL.out _ (by decide) _ yca.out)
     have hO:(O.length:Int)≤1048576:=by omega
     go_wp2
     go_roundw
     case rel=>exact ⟨_,_,_,_,_,rfl,h_ (HU.out.next (by omega) HE.out hR.out (by omega) 0)⟩
     case measure=>show n-(d+2)<n;omega
   ·have t1:decide ((d:Int)<128)=false:=by simp;omega
    by_cases hs:n<3
    ·have t2:decide ((n:Int)<3)=true:=by simp;omega
     have hR:Hid (und [] l=none):=h_ (by rw [HU.out.eq];exact ydd (by rw [hx.out];omega) (by have:=HL.out;omega))
     go_wp2
     go_ret2
     exact .inr ⟨fun L e=>(by rw [hR.out] at e;cases e),hbw.out,_,by decide,rfl⟩
    ·have t2:decide ((n:Int)<3)=false:=by simp;omega
     have hB2:=HU.out.bytes.below hbw.out
     obtain ⟨b1,o1,d1,e1,-,hc1,hd1,hd1'⟩:=hB2.at (k:=1) (by simp;have:=HL.out;omega)
     cases e1
     obtain ⟨b1,o1,d2,e1,-,hc2,hd2,hd2'⟩:=hB2.at (k:=2) (by simp;have:=HL.out;omega)
     cases e1
     obtain ⟨D,HD⟩:=ey (d1*256+d2)
     have hor:bits .or .i64 ((d1:Int)*256) (d2:Int)=(D:Int):=by
      have:=ykt (d1*256) d2 (by omega) (by omega)
      rw [HD.out,← nat_join 8 (d1*256) d2 (by omega) (by omega),← this];rfl
     have HDn:Hid (nb (r.take 2)=D):=h_ (by rw [HD.out,← hd1.out,← hd2.out];exact yu7 x r (by have:=HL.out;omega))
     by_cases hf:D=0∨no<D
     ·have hR:Hid (und [] l=none):=h_ (by rw [HU.out.eq];exact ye6 (by rw [hx.out];omega) (by have:=HL.out;omega) (by rw [HDn.out,← Hno.out];exact hf))
      by_cases h0:D=0
      ·subst h0
       clear hf
       go_wp2_with fail
       go_quiet (fail)
       clear hor
       go_wp2
       go_ret2
       exact .inr ⟨fun L e=>(by rw [hR.out] at e;cases e),yaJ hbw.out _,_,by decide,rfl⟩
      ·have t3:((D:Int)==0)=false:=by simp;omega
       have t4:decide (no<D)=true:=by simp;omega
       clear hf
       go_wp2_with fail
       go_quiet (fail)
       clear hor
       go_wp2
       go_ret2
       exact .inr ⟨fun L e=>(by rw [hR.out] at e;cases e),yaJ hbw.out _,_,by decide,rfl⟩
     ·have t3:((D:Int)==0)=false:=by simp;omega
      have t4:decide (no<D)=false:=by simp;omega
      obtain ⟨m,hm⟩:=ey (d-124)
      have hmd:(d:Int)-128+4=((m:Nat):Int):=by rw [hm.out];omega
      have hm2:(m:Int)≤131:=by rw [hm.out];omega
      have hR:Hid (und [] l=und (cp m D o) ((x::r).drop 3)):=h_ (by rw [HU.out.eq,ydZ (by rw [hx.out];omega) (by have:=HL.out;omega) (by rw [HDn.out,← Hno.out];exact hf),hx.out,HDn.out,hm.out];rfl)
      have hcb:=HU.out.cap
      have hDD:Hid (0<D∧D≤no):=h_ (by omega)
      have hn3:3≤n:=by omega
      clear hf hB2
      go_wp2_with fail
      go_quiet (fail)
      clear hor
      go_wp2_with fail
      clear t3 t4 t1 t2
      have HGq:=h_ (HU.out.out.drewN nq)
      go_loopw [4,7] (fun vr i w2=>∃ (k:Nat) (b:Lb),k≤m∧i=.int .i64 k∧Hid (b.length=no+k)∧Hid (cp (m-k) D b=cp m D o)∧Hid (Grew w.heap.size w (.slice none 0 0) b w2 vr)) (fun _ i _=>m-(intOf i).toNat)
      case atStart=>exact ⟨0,o,Nat.zero_le _,rfl,h_ Hno.out.symm,h_ (by rw [Nat.sub_zero]),HGq⟩
      case round =>
       obtain ⟨k,b,hkm,rfl,HLb,HE,HG⟩:=hrel
       by_cases hlt:k<m
       ·obtain ⟨g,cp1,hv5,ygG,hg,hgl,zS,-,-⟩:=yat HG.out.own (by have:=HLb.out;have:=hDD.out;omega)
        rw [HLb.out] at hv5 ygG zS
        subst hv5
        obtain ⟨y,HX⟩:∃ y:UInt8,Hid (y=b.getD (no+k-D) 0):=⟨_,rfl⟩
        have gc:wr.cell? ⟨g,no+k-D,none⟩=some (.int .u8 ((y.toNat:Nat):Int)):=by rw [HX.out];exact zS _ (by have:=hDD.out;omega)
        have hbl:Hid (b.length+1≤maxLen∧(b.length+1)*1≤140737488355328∧w.heap.size≤wr.heap.size+1):=h_ (by
         have h1:=HLb.out
         have h3:=HG.out.grown.size
         unfold maxLen;omega)
        have hix:(no:Int)+(k:Int)-(D:Int)=((no+k-D:Nat):Int):=by have:=hDD.out;omega
        have hne:Hid (cp (m-(k+1)) D (b++[y])=cp m D o):=h_ (by
         rw [← HE.out,show m-k=(m-(k+1))+1 by omega,cp,HLb.out,HX.out])
        rw [HLb.out] at hbl
        clear zS
        have yP:=h_ HG.out.own
        rw [HLb.out] at yP
        have q3:no+k-D<no+k:=by have:=hDD.out;omega
        go_wp2_with (at_builtin;refine wpList_append_own_at _ rfl (.tmp 68) (.tmp 70) 39 rfl w.heap.size 5 i0 (.int .u8 0) 1 1 Tryz.underlying39 hi hz0 hz1 hz2 rfl (by decide) _ _ _ rfl ((yP.out).alloc _) ⟨_,0,none⟩ 1 1 [.int .u8 (y.toNat:Int)] rfl rfl (cell_one_new _ _ _) (by intro u hu;simp at hu;subst hu;rfl) hbl.out.1 hbl.out.2.1 (by simp;exact hbl.out.2.2) ?_)
        intro v5 w5 yM yH _ uS
        have HG5:=h_ (HG.out.next (by rw [HLb.out]) yM yH uS)
        clear yM yH uS
        go_wp2
        go_roundw
        case rel=>exact ⟨k+1,b++[y],by omega,by go_num,h_ (by rw [List.length_append,HLb.out];rfl),hne,HG5⟩
        case measure=>simp [intOf];omega
       ·obtain rfl:k=m:=by omega
        have hE:=HE.out
        rw [Nat.sub_self,cp] at hE
        subst hE
        obtain ⟨q5,c5,rfl,-,-⟩:=zA HG.out.own
        by_cases hlim:1048576<(cp k D o).length
        ·have t9:decide ((1048576:Int)<((cp k D o).length:Int))=true:=by simp;omega
         have ycL:Hid (∀ x:Int,x≠0→∀ W,Be w W→yaK l w (.returned (.tuple #[.slice none 0 0,.int .i64 x])) W):=h_ (fun x hx0 W hW=>.inr ⟨fun L e=>(by have:=ydV _ _ _ nl _ (hR.out.symm.trans e);omega),hW,x,hx0,rfl⟩)
         have yca:=h_ (HG.out.below nl (by intro k hk;cases hk))
         go_wp2_with fail
         all_goals (go_ret2;exact ycL.out _ (by decide) _ yca.out)
        have hO:((cp k D o).length:Int)≤1048576:=by omega
        go_wp2
        go_roundw
        case rel=>exact ⟨_,_,_,_,_,rfl,h_ (HU.out.next (by omega) HG.out hR.out (by omega) 0)⟩
        case measure=>show n-3<n;omega
end Go.Proofs.YtgepehlpjpccaaaGreatDoor
