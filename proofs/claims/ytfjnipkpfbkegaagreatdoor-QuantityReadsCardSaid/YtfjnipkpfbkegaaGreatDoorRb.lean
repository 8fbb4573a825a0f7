/- Contracts. -/
import Derived.Test.YtfjnipkpfbkegaaGreatDoorPart04
set_option maxHeartbeats 3200000
set_option maxRecDepth 100000
namespace Big
def B9:Nat:=1000000000
theorem zN:B9=1000000000:=rfl
theorem jP:0<B9:=by rw [zN];omega
theorem ynm (B j:Nat) (l:List Nat):val B (List.replicate j 0++l)=B^j*val B l:=by
 rw [uE,uQ];simp
theorem zF.shift {B:Nat} {l:List Nat} (h:zF B l) (hl:l≠[]) (hB:0<B) (j:Nat):zF B (List.replicate j 0++l):=by
 refine ⟨(yW.zeros hB j).append h.1,?_⟩
 rw [List.getLast?_append]
 have h2:=h.2
 cases he:l.getLast? with
 | none=>exact absurd (List.getLast?_eq_none_iff.1 he) hl
 | some x=>rw [he] at h2;simpa using h2
theorem ybe (B:Nat) (l:List Nat) (m:Nat):val B (l.drop m)=l.getD m 0+B*val B (l.drop (m+1)):=by
 by_cases h:m<l.length
 ·rw [List.drop_eq_getElem_cons h,ybc,List.getD_eq_getElem?_getD,List.getElem?_eq_getElem h];rfl
 ·rw [List.drop_eq_nil_of_le (by omega),List.drop_eq_nil_of_le (by omega),List.getD_eq_getElem?_getD,List.getElem?_eq_none (by omega)];simp [val]
theorem yj6 {B:Nat} (hB:0<B) {l:List Nat} (hd:yW B l) (m:Nat):val B l/B^m=val B (l.drop m):=by
 by_cases h:m≤l.length
 ·have h1:=vR B l m h
  have h2:=vT (l.take m) (hd.take m)
  rw [List.length_take,Nat.min_eq_left h] at h2
  rw [h1,Nat.add_mul_div_left _ _ (Nat.pow_pos hB),Nat.div_eq_of_lt h2,Nat.zero_add]
 ·rw [List.drop_eq_nil_of_le (by omega)]
  have h2:=vT l hd
  have h3:B^l.length≤B^m:=Nat.pow_le_pow_right hB (by omega)
  rw [Nat.div_eq_of_lt (by omega)];rfl
theorem yq9 {B:Nat} (hB:0<B) {l:List Nat} (hd:yW B l) (m:Nat) (hl:l.length≤m+2):val B l/B^m=l.getD (m+1) 0*B+l.getD m 0:=by
 rw [yj6 hB hd,ybe,ybe,List.drop_eq_nil_of_le (by omega)]
 simp [val];rw [Nat.mul_comm,Nat.add_comm]
structure DivInv (B A V M j:Nat) (L:List Nat) (R:Nat):Prop where
 len:L.length=M
 dig:yW B L
 eq:A=val B (L.drop j)*V*B^j+R
 lt:R<V*B^j
theorem DivInv.start {B A V M:Nat} (hB:0<B) (h:A<V*B^M):DivInv B A V M M (List.replicate M 0) A :=
 ⟨by simp,yW.zeros hB M,by rw [List.drop_eq_nil_of_le (by simp)];simp [val],h⟩
theorem yes {B V R j:Nat} (h:R<V*B^(j+1)) (hp:0<V*B^j):R/(V*B^j)<B:=by
 rw [Nat.div_lt_iff_lt_mul hp]
 have:B*(V*B^j)=V*B^(j+1):=by rw [Nat.pow_succ];grind
 omega
theorem DivInv.step {B A V M j:Nat} {L:List Nat} {R:Nat} (hB:0<B) (hV:0<V) (h:DivInv B A V M (j+1) L R) (hj:j<M) (q:Nat) (hq:q=R/(V*B^j)) :
  DivInv B A V M j (L.set j q) (R-q*(V*B^j)):=by
 have hp:0<V*B^j:=Nat.mul_pos hV (Nat.pow_pos hB)
 have hqB:q<B:=by rw [hq];exact yes h.lt hp
 have hR:R=q*(V*B^j)+R%(V*B^j):=by rw [hq,Nat.mul_comm];exact (Nat.div_add_mod R _).symm
 have yhf:R-q*(V*B^j)=R%(V*B^j):=by omega
 have hjl:j<L.length:=by rw [h.len];exact hj
 refine ⟨by rw [List.length_set];exact h.len,h.dig.set j q hqB,?_,?_⟩
 ·rw [ybe,List.drop_set_of_lt (by omega)]
  have hg:(L.set j q).getD j 0=q:=by rw [List.getD_eq_getElem?_getD,List.getElem?_set_self hjl];rfl
  rw [hg]
  refine ymc h.eq ?_
  rw [yhf]
  have:q*V*B^j=q*(V*B^j):=by rw [Nat.mul_assoc]
  omega
 ·rw [yhf];exact Nat.mod_lt _ hp
theorem DivInv.done {B A V M:Nat} {L:List Nat} {R:Nat} (h:DivInv B A V M 0 L R):val B L=A/V∧R=A%V:=by
 have h1:=h.eq
 have h2:=h.lt
 rw [Nat.pow_zero,Nat.mul_one] at h1 h2
 rw [List.drop_zero] at h1
 have hV:0<V:=by omega
 constructor
 ·rw [h1,Nat.mul_comm,Nat.mul_add_div hV,Nat.div_eq_of_lt h2];rfl
 ·rw [h1,Nat.mul_comm,Nat.mul_add_mod,Nat.mod_eq_of_lt h2]
theorem yj7 {B V R j k:Nat} {v r:List Nat} (hB:0<B) (cv:zF B v) (hv:val B v=V) (hk:v.length=k+1) (cr:zF B r) (hr:val B r=R) (h:R<V*B^(j+1)) :
  r.length≤j+k+2∧0<v.getD k 0∧R/(V*B^j)≤min ((r.getD (j+k+1) 0*B+r.getD (j+k) 0)/v.getD k 0) (B-1):=by
 have hlv:=vT v cv.1
 rw [hk,hv] at hlv
 have hlen:r.length≤j+k+2:=by
  apply Nat.le_of_not_lt;intro h1
  obtain ⟨m,hm⟩:∃ m,r.length=m+1:=⟨r.length-1,by omega⟩
  have h2:=cr.pow_le m hm
  have h3:B^(j+k+2)≤B^m:=Nat.pow_le_pow_right hB (by omega)
  have h4:V*B^(j+1)≤B^(k+1)*B^(j+1):=Nat.mul_le_mul_right _ (by omega)
  rw [← Nat.pow_add] at h4
  have h5:k+1+(j+1)=j+k+2:=by omega
  rw [h5] at h4
  omega
 have hkl:k<v.length:=by omega
 have hvt:v.getD k 0≠0:=by
  rw [List.getD_eq_getElem?_getD]
  intro e
  apply cv.2
  rw [List.getLast?_eq_getElem?,hk,Nat.add_sub_cancel,List.getElem?_eq_getElem hkl]
  rw [List.getElem?_eq_getElem hkl] at e
  simpa using e
 have hVge:v.getD k 0*B^k≤V:=by
  have h1:=yY B v k
  rw [List.take_of_length_le (by omega),hv] at h1
  rw [h1,Nat.mul_comm];omega
 have hV:0<V:=by
  have:0<v.getD k 0*B^k:=Nat.mul_pos (by omega) (Nat.pow_pos hB)
  omega
 have hp:0<V*B^j:=Nat.mul_pos hV (Nat.pow_pos hB)
 refine ⟨hlen,by omega,?_⟩
 rw [Nat.le_min]
 constructor
 ·have ht:=yq9 hB cr.1 (j+k) (by omega)
  rw [hr] at ht
  rw [← ht]
  refine yfc (D:=V*B^j) (R:=R) (P:=B^(j+k)) (low:=R%B^(j+k)) (by omega) (Nat.div_mul_le_self _ _) ?_ ?_ (Nat.mod_lt _ (Nat.pow_pos hB))
  ·have:v.getD k 0*B^(j+k)=v.getD k 0*B^k*B^j:=by rw [Nat.mul_assoc,← Nat.pow_add,Nat.add_comm k j]
   rw [this];exact Nat.mul_le_mul_right _ hVge
  ·rw [Nat.mul_comm];exact (Nat.div_add_mod R _).symm
 ·have:=yes h hp;omega
theorem ydW {D R g:Nat} (_hD:0<D) (_hq:R/D≤g) (h:R<D*g):R/D≤g-1∧0<g:=by
 have h1:R/D<g:=by rw [Nat.div_lt_iff_lt_mul _hD,Nat.mul_comm];exact h
 exact ⟨Nat.le_sub_one_of_lt h1,Nat.lt_of_le_of_lt (Nat.zero_le _) h1⟩
theorem ycG {D R g:Nat} (hD:0<D) (hq:R/D≤g) (h:¬ R<D*g):g=R/D:=by
 have:g≤R/D:=by rw [Nat.le_div_iff_mul_le hD,Nat.mul_comm];omega
 omega
theorem ylF {a b s q R:Nat} (hs:0<s) (_hb:0<b) (hq:q=a*s/(b*s)) (hR:R=a*s%(b*s)):q=a/b∧R/s=a%b:=by
 subst hq hR
 constructor
 ·exact Nat.mul_div_mul_right a b hs
 ·rw [Nat.mul_mod_mul_right,Nat.mul_div_cancel _ hs]
theorem ylG {B A V k:Nat} {v r:List Nat} (cv:zF B v) (hv:val B v=V) (hk:v.length=k+1) (cr:zF B r) (hr:val B r=A) (h:V≤A) :
  k+1≤r.length∧A<V*B^(r.length-(k+1)+1):=by
 have h1:v.length≤r.length:=zF.length_le cv cr.1 (by omega)
 refine ⟨by omega,?_⟩
 have h2:=vT r cr.1
 have h3:=cv.pow_le k hk
 rw [hv] at h3
 have h4:B^k*B^(r.length-(k+1)+1)≤V*B^(r.length-(k+1)+1):=Nat.mul_le_mul_right _ h3
 rw [← Nat.pow_add,show k+(r.length-(k+1)+1)=r.length from by omega] at h4
 omega
theorem yau (k:Nat):B9^k=10^(9*k):=by
 rw [zN,show (1000000000:Nat)=10^9 from rfl,← Nat.pow_mul]
theorem ynn {B p c c' a b s z x y:Nat} (h:z+y=x+p*c) (hs:s+b+c=a+B*c'):(z+p*s)+(y+p*b)=(x+p*a)+p*B*c':=by
 have:p*(s+b+c)=p*(a+B*c'):=by rw [hs]
 grind
end Big
namespace Go.Proofs.YtfjnipkpfbkegaaGreatDoor
open Go.RowKit Big
def yL (w:World) (v:Value) (x:Nat):Prop:=∃ p n c l,v=.slice p n c∧(n≤c∧(p=none→c=0))∧Rd w p n l∧zF B9 l∧val B9 l=x
theorem yL.below {w w':World} {v:Value} {x:Nat} (h:yL w v x) (hb:Below w.heap.size w w'):yL w' v x:=by
 obtain ⟨p,n,c,l,h1,h2,h3,h4⟩:=h
 exact ⟨p,n,c,l,h1,h2,h3.below hb,h4⟩
theorem yL.zero (w:World):yL w (.slice none 0 0) 0:=⟨none,0,0,[],rfl,⟨Nat.le_refl _,fun _=>rfl⟩,Rd.nil _ _,zF.nil _,rfl⟩
theorem yL.slice {w:World} {v:Value} {x:Nat} (h:yL w v x):∃ p n c,v=.slice p n c:=by
 obtain ⟨p,n,c,_,h1,_⟩:=h
 exact ⟨p,n,c,h1⟩
theorem yr9 {l:List Nat} {x K:Nat} (h:zF B9 l) (hx:val B9 l=x) (hK:x<B9^K):l.length≤K:=by
 apply Nat.le_of_not_lt;intro h1
 obtain ⟨k,hk⟩:∃ k,l.length=k+1:=⟨l.length-1,by omega⟩
 have h2:=h.pow_le k hk
 have h3:B9^K≤B9^k:=Nat.pow_le_pow_right jP (by omega)
 omega
theorem ydw {x K:Nat} {l:List Nat} {n:Nat} {p:Option Addr} {w:World} (hc:zF B9 l) (hv:val B9 l=x) (hx:x<B9^K) (hl:Rd w p n l):n≤K:=by
 have:=yr9 hc hv hx;rw [hl.len] at this;exact this
theorem yL.zero_iff {w:World} {p:Option Addr} {n c x:Nat} (h:yL w (.slice p n c) x):n=0↔x=0:=by
 obtain ⟨p',n',c',l,h1,h2,h3,h4,h5⟩:=h
 cases h1
 have:=zF.zero_iff jP h4
 rw [h5] at this
 rw [this,← h3.len,List.length_eq_zero_iff]
def ykz (B:Nat) (v:Value):Prop:=∀ b o n c,v=.slice (some ⟨b,o,none⟩) n c→B≤b
def zU (x:Nat) (w:World) (e:Ending) (w':World):Prop:=∃ v,e=.returned v∧yL w' v x∧Below w.heap.size w w'∧ykz w.heap.size v
theorem yet (L:List Nat) (k:Nat) (h:∀ j,k≤j→j<L.length→L.getD j 0=0):val B9 (L.drop k)=0:=by
 have:L.drop k=List.replicate (L.length-k) 0:=by
  apply List.ext_getElem
  ·simp
  ·intro i h1 h2
   have:=h (k+i) (by omega) (by simp at h1;omega)
   rw [List.getD_eq_getElem?_getD,List.getElem?_eq_getElem (by simp at h1;omega)] at this
   simpa using this
 rw [this,uQ]
theorem yb1 {p:Option Addr} {n c:Nat} {l:List Nat} {w0 w w':World} {e:Ending} (hnc:n≤c∧(p=none→c=0)) (hf:∀ b o,p=some ⟨b,o,none⟩→w0.heap.size≤b) (hl:Rd w p n l) (hd:yW B9 l) (hb:Below w0.heap.size w0 w) (h:yeK p n c l w e w'):zU (val B9 l) w0 e w':=by
 obtain ⟨k,hk,rfl,rfl,hz,h0⟩:=h
 refine ⟨_,rfl,⟨p,k,c,l.take k,rfl,⟨by omega,hnc.2⟩,hl.take k hk,⟨hd.take k,?_⟩,?_⟩,hb,fun b o n' c' h=>by cases h;exact hf b o rfl⟩
 ·rcases h0 with rfl|h0
  ·simp
  ·obtain ⟨j,rfl⟩:∃ j,k=j+1:=⟨k-1,by
    have:k≠0:=by
     rintro rfl
     by_cases h1:0<n
     ·exact h0 (hz 0 (by omega) h1)
     ·apply h0;rw [List.getD_eq_getElem?_getD,List.getElem?_eq_none (by rw [hl.len];omega)];rfl
    omega⟩
   rw [List.getLast?_eq_getElem?,List.length_take,Nat.min_eq_left (by rw [hl.len];exact hk),Nat.add_sub_cancel,List.getElem?_take_of_lt (by omega)]
   rw [Nat.add_sub_cancel,List.getD_eq_getElem?_getD] at h0
   intro e1;rw [e1] at h0;exact h0 rfl
 ·rw [vR B9 l k (by rw [hl.len];exact hk),yet l k (fun j h1 h2=>hz j h1 (by rw [hl.len] at h2;exact h2))]
  omega
theorem ycW {w:World} {base n:Nat} {v:Value} {L:List Nat} (h:w.ownsRow base 100 1 v n (jE L)):∃ p c,v=.slice p n c∧(n≤c∧(p=none→c=0))∧Rd w p n L∧∀ b o,p=some ⟨b,o,none⟩→base≤b:=by
 obtain ⟨h1,h2⟩:=h
 rw [jB,Nat.mul_one] at h1
 rcases h2 with ⟨rfl,rfl⟩|⟨g,cap,cur,rfl,hg,hh,hn,hm,hs,hc⟩
 ·exact ⟨none,0,rfl,⟨Nat.le_refl _,fun _=>rfl⟩,by rw [List.eq_nil_of_length_eq_zero h1];exact Rd.nil _ _,fun b o h=>by cases h⟩
 ·refine ⟨_,cap,rfl,⟨hn,fun h=>by cases h⟩,⟨h1,?_⟩,fun b o h=>by cases h;exact hg⟩
  by_cases h0:n=0
  ·exact .inl h0
  ·refine .inr ⟨g,0,rfl,(Array.getElem?_eq_some_iff.1 hh).1,fun j hj=>?_⟩
   rw [Nat.mul_one] at hc
   have hjl:j<L.length:=by omega
   have e:cur[j]?=(jE L)[j]?:=by
    rw [← hc,List.getElem?_take_of_lt hj,Array.getElem?_toList]
   rw [Nat.zero_add]
   simp only [World.cell?,hh]
   simp [e,jE,List.getD_eq_getElem?_getD,hjl]
structure Acc (w wr:World) (v:Value) (L:List Nat):Prop where
 own:wr.ownsRow w.heap.size 100 1 v L.length (jE L)
 below:Below w.heap.size w wr
theorem Acc.nil (w wr:World) (h:Below w.heap.size w wr):Acc w wr (.slice none 0 0) []:=⟨World.ownsRow_nil _ _ _ _,h⟩
theorem Acc.next {w wr w5:World} {v v5:Value} {L:List Nat} {m x:Nat} {o:Obj} (h:Acc w wr v L) (hm:m=L.length+1) (jH:w5.ownsRow w.heap.size 100 1 v5 m (jE L++[.int .u64 (x:Int)])) (hg:(wr.alloc o).grownBy w5 v.ownBlock):Acc w w5 v5 (L++[x]):=by
 subst hm
 refine ⟨?_,?_⟩
 ·have e:jE (L++[x])=jE L++[.int .u64 (x:Int)]:=by simp [jE]
  rw [e,List.length_append];exact jH
 ·exact (h.below.alloc h.below.size o).grown hg (by simp;have:=h.below.size;omega) (fun k hk=>(h.own.lt k hk).1)
theorem Acc.drewN {w wr:World} {v:Value} {L:List Nat} (h:Acc w wr v L) (k:Nat):Acc w (wr.drewN k) v L:=⟨h.own,h.below.trans (yJ _ _ _)⟩
theorem Acc.nat {w wr:World} {v:Value} {L:List Nat} (h:Acc w wr v L) (hc:zF B9 L):zU (val B9 L) w (.returned v) wr:=by
 obtain ⟨p,c,rfl,hn,hr,hf⟩:=ycW h.own
 exact ⟨_,rfl,⟨p,_,c,L,rfl,hn,hr,hc,rfl⟩,h.below,fun b o n c' h=>by cases h;exact hf b o rfl⟩
theorem jS:Tryz.prog.underlying 42=some (.slice 100):=by kernel_rfl
theorem ycq (p:Option Addr) (n c:Nat) (l:List Nat) (w:World) (hn:n≤maxLen) (hnc:n≤c) (hl:Rd w p n l) :
  Calls Tryz.prog 95 #[.slice p n c] w (yeK p n c l w):=by
 unfold maxLen at hn
 go_enter Tryz.func95,Tryz.ntmps95
 go_wp2
 go_loop [3] (fun i=>∃ k:Nat,k≤n∧i=.int .i64 k∧∀ j,k≤j→j<n→l.getD j 0=0) (fun i=>(intOf i).toNat)
 case atStart=>exact ⟨n,Nat.le_refl _,rfl,fun j h1 h2=>by omega⟩
 case round =>
  obtain ⟨k,hk,rfl,hz⟩:=hrel
  have Hz:=yA hz
  clear hz
  by_cases h0:k=0
  ·subst h0
   go_wp2
   go_ret
   exact ⟨0,by omega,rfl,rfl,Hz.out,.inl rfl⟩
  ·obtain ⟨b,off,d,rfl,hb,hc,hd⟩:=hl.at (k:=k-1) (by omega)
   by_cases hz:d=0
   ·subst hz
    go_wp2
    go_round
    case rel=>exact ⟨k-1,by omega,by go_num,fun j h1 h2=>by
     by_cases e:j=k-1
     ·rw [e];exact hd.out
     ·exact Hz.out j (by omega) h2⟩
    case measure=>simp [intOf];omega
   ·have hz':((d:Int)==0)=false:=by simpa using hz
    go_wp2
    go_ret
    exact ⟨k,hk,rfl,rfl,Hz.out,.inr (by rw [hd.out];exact hz)⟩
theorem ylH {N k:Nat} {L:List Nat} (h:k≤N∧L.length≤3∧yW B9 L∧val B9 L+B9^L.length*k=N∧(k=0→zF B9 L)) (hN:N<18446744073709551616) (h0:¬ k=0) :
  k/1000000000≤N∧(L++[k%1000000000]).length≤3∧yW B9 (L++[k%1000000000])∧val B9 (L++[k%1000000000])+B9^(L++[k%1000000000]).length*(k/1000000000)=N∧(k/1000000000=0→zF B9 (L++[k%1000000000])):=by
 obtain ⟨h1,h2,h3,h4,h5⟩:=h
 have hd:yW B9 (L++[k%1000000000]):=h3.append (yW.one (by rw [zN];omega))
 have hl:L.length≤2:=by
  apply Nat.le_of_not_lt;intro h6
  have:L.length=3:=by omega
  rw [this] at h4
  have h7:B9^3*1≤B9^3*k:=Nat.mul_le_mul_left _ (by omega)
  have h8:B9^3=1000000000000000000000000000:=by rw [zN]
  omega
 refine ⟨by omega,by simp;omega,hd,?_,?_⟩
 ·rw [jY,List.length_append,List.length_singleton,Nat.pow_succ,← h4]
  have:k=k%1000000000+B9*(k/1000000000):=by rw [zN];omega
  have h9:B9^L.length*k=B9^L.length*(k%1000000000+B9*(k/1000000000)):=by rw [← this]
  rw [h9];grind
 ·intro h6
  refine zF.of_last hd L.length (by simp) ?_
  rw [List.getD_eq_getElem?_getD,List.getElem?_append_right (Nat.le_refl _),Nat.sub_self]
  simp;omega
theorem yaA (N:Nat) (w:World) (hN:N<18446744073709551616) :
  Calls Tryz.prog 70 #[.int .u64 N] w (zU N w):=by
 obtain ⟨i0,hi,hz0,hz1,hz2⟩:=info_parts GA
 have HN:=yA hN
 clear hN
 go_enter Tryz.func70,Tryz.ntmps70
 go_wp2_with fail
 go_loopw [0,3] (fun nv ov wr=>∃ (k:Nat) (L:List Nat),nv=.int .u64 k∧Hid (k≤N∧L.length≤3∧yW B9 L∧val B9 L+B9^L.length*k=N∧(k=0→zF B9 L))∧Hid (Acc w wr ov L)) (fun nv _ _=>(intOf nv).toNat)
 case atStart=>exact ⟨N,[],rfl,yA ⟨Nat.le_refl _,by simp,yW.nil _,by simp [val],fun _=>zF.nil _⟩,yA (Acc.nil _ _ (Below.refl _ _))⟩
 case round =>
  obtain ⟨k,L,rfl,yI,uO⟩:=hrel
  obtain ⟨po,no,co,rfl⟩:∃ p n c,u3=.slice p n c:=by
   obtain ⟨p,c,h,_⟩:=ycW uO.out.own;exact ⟨_,_,_,h⟩
  by_cases h0:k=0
  ·subst h0
   have yE:Hid (zU N w (.returned (.slice po no co)) wr):=yA (by
    have h:=uO.out.nat (yI.out.2.2.2.2 rfl)
    have h2:=yI.out.2.2.2.1
    rw [Nat.mul_zero,Nat.add_zero] at h2
    rw [← h2];exact h)
   go_wp2_with fail
   go_ret
   exact yE.out
  ·have hlen:Hid (L.length+1≤maxLen∧(L.length+1)*8≤140737488355328∧w.heap.size≤wr.heap.size+1):=yA (by
    have:=yI.out.2.1
    have h:=uO.out.below.size
    unfold maxLen;omega)
   have GT:=yA (ylH yI.out HN.out h0)
   have hk:(0:Int)<k:=by omega
   have hkb:(k:Int)≤18446744073709551615:=by have h1:=yI.out.1;have h2:=HN.out;omega
   go_wp2_with (at_builtin;refine wpList_append_own _ rfl (.tmp 6) (.tmp 9) 42 rfl w.heap.size 100 i0 (.int .u64 0) 1 8 jS hi hz0 hz1 hz2 rfl (by decide) _ _ _ rfl ((uO.out.own).alloc _) ⟨_,0,none⟩ 1 1 [.int .u64 ((k:Int)%1000000000)] rfl rfl (cell_one_new _ _ _) (by intro u hu;simp at hu;subst hu;rfl) hlen.out.1 hlen.out.2.1 (by simp;exact hlen.out.2.2) ?_)
   intro v5 w5 vJ jF _
   have zR:=yA (uO.out.next (x:=k%1000000000) rfl vJ jF)
   clear vJ jF
   go_wp2_with fail
   go_roundw
   case rel=>exact ⟨k/1000000000,_,rfl,GT,zR⟩
   case measure=>simp [intOf];omega
theorem ysa (w:World) (a b:Nat):∃ k,w.drewN k=(w.drewN a).drewN b:=⟨a+b,by simp only [World.drewN_drewN]⟩
theorem yeu {x y:List Nat} (hx:zF B9 x) (hy:zF B9 y) (h:x.length<y.length):jQ (val B9 x) (val B9 y)=-1∧jQ (val B9 y) (val B9 x)=1:=by
 have:=zF.lt_of_length hx.1 hy h
 unfold jQ
 constructor
 ·rw [if_pos this]
 ·rw [if_neg (by omega),if_pos this]
theorem yfw {x y:List Nat} (hl:x.length=y.length) (hx:yW B9 x) (k:Nat) (hk:k<x.length) (hd:x.drop (k+1)=y.drop (k+1)) (hne:x.getD k 0<y.getD k 0):jQ (val B9 x) (val B9 y)=-1∧jQ (val B9 y) (val B9 x)=1:=by
 have e1:=vR B9 x (k+1) (by omega)
 have e2:=vR B9 y (k+1) (by omega)
 have hky:k<y.length:=by rw [← hl];exact hk
 have g1:x.getD k 0=x[k]:=by rw [List.getD_eq_getElem?_getD,List.getElem?_eq_getElem hk];rfl
 have g2:y.getD k 0=y[k]:=by rw [List.getD_eq_getElem?_getD,List.getElem?_eq_getElem hky];rfl
 rw [g1,g2] at hne
 rw [hd] at e1
 have:=yaX (B:=B9) x y k hx hk hky hne
 unfold jQ
 constructor
 ·rw [if_pos (by omega)]
 ·rw [if_neg (by omega),if_pos (by omega)]
theorem yj8 (p:Option Addr) (n c:Nat) (x:List Nat) (q:Option Addr) (d:Nat) (y:List Nat) (w:World) (hn:n≤yT) (hx:Rd w p n x) (hy:Rd w q n y) (dx:yW B9 x) (dy:yW B9 y) :
  Calls Tryz.prog 118 #[.slice p n c,.slice q n d] w (GZ (val B9 x) (val B9 y) w):=by
 have hn1:(n:Int)≤4294967296:=by unfold yT at hn;omega
 have h1:((n:Int) != n)=false:=by simp
 have hl:x.length=y.length:=by rw [hx.len,hy.len]
 have Hl:=yA hl
 clear hl
 go_enter Tryz.func118,Tryz.ntmps118
 go_wp2
 go_loopw [5] (fun i wr=>∃ (k:Nat) (z:Int) (t:Nat),k≤n∧i=.int .i64 z∧z+1=k∧x.drop k=y.drop k∧wr=w.drewN t) (fun i _=>(intOf i+1).toNat)
 case atStart=>exact ⟨n,(n:Int)-1,0,Nat.le_refl _,rfl,by omega,by rw [List.drop_eq_nil_of_le (by rw [hx.len];omega),List.drop_eq_nil_of_le (by rw [hy.len];omega)],rfl⟩
 case round =>
  obtain ⟨k,z,t,hk,rfl,hz,hd,rfl⟩:=hrel
  have Hd:=yA hd
  clear hd
  by_cases h0:k=0
  ·obtain rfl:z=-1:=by omega
   subst h0
   have hxy:jQ (val B9 x) (val B9 y)=0:=by
    have:=Hd.out;simp at this;rw [this];simp [jQ]
   have Hxy:=yA hxy
   clear hxy hz
   go_wp2
   go_ret
   exact ⟨by rw [Hxy.out];rfl,t,rfl⟩
  ·obtain ⟨j,rfl⟩:∃ j:Nat,z=j:=⟨z.toNat,by omega⟩
   obtain rfl:k=j+1:=by omega
   clear hz h0
   obtain ⟨b1,o1,a,rfl,hb1,hc1,ha⟩:=hx.at (k:=j) (by omega)
   obtain ⟨b2,o2,b,rfl,hb2,hc2,hb⟩:=hy.at (k:=j) (by omega)
   have g1:(w.drewN t).cell? ⟨b1,o1+j,none⟩=some (.int .u64 (a:Int)):=hc1
   have g2:(w.drewN t).cell? ⟨b2,o2+j,none⟩=some (.int .u64 (b:Int)):=hc2
   have bj:(0:Int)≤j:=by omega
   have bj2:(j:Int)<n:=by omega
   have hlx:j<x.length:=by rw [hx.len];omega
   rcases Nat.lt_trichotomy a b with hab|hab|hab
   ·have e1:decide (a<b)=true:=by simpa using hab
    have yaW:=(yfw Hl.out dx j hlx Hd.out (by rw [ha.out,hb.out];exact hab)).1
    have Hcmp:=yA yaW
    clear yaW hab
    go_wp2
    go_quiet (fail)
    go_wp2
    go_ret
    exact ⟨by rw [Hcmp.out];rfl,ysa _ _ _⟩
   ·subst hab
    have e1:decide (a<a)=false:=by simp
    have hd':=ycd Hl.out j hlx Hd.out (by rw [ha.out,hb.out])
    have Hd':=yA hd'
    clear hd'
    go_wp2
    go_quiet (fail)
    go_wp2
    go_quiet (fail)
    go_wp2
    go_roundw
    case rel=>exact ⟨j,(j:Int)-1,_,by omega,rfl,by omega,Hd'.out,rfl⟩
    case measure=>simp [intOf]
   ·have e1:decide (a<b)=false:=by simp;omega
    have e2:decide (b<a)=true:=by simpa using hab
    have yaW:=(yfw Hl.out.symm dy j (by rw [← Hl.out];exact hlx) Hd.out.symm (by rw [ha.out,hb.out];exact hab)).2
    have Hcmp:=yA yaW
    clear yaW hab
    go_wp2
    go_quiet (fail)
    go_wp2
    go_quiet (fail)
    go_wp2
    go_ret
    exact ⟨by rw [Hcmp.out];rfl,yoA _ _ _ _⟩
theorem yh5 (p:Option Addr) (n c:Nat) (x:List Nat) (q:Option Addr) (m d:Nat) (y:List Nat) (w:World) (hn:n≤yT) (hm:m≤yT) (hnm:n≠m) (hx:Rd w p n x) (hy:Rd w q m y) (cx:zF B9 x) (cy:zF B9 y) :
  Calls Tryz.prog 118 #[.slice p n c,.slice q m d] w (GZ (val B9 x) (val B9 y) w):=by
 have hn1:(n:Int)≤4294967296:=by unfold yT at hn;omega
 have hm1:(m:Int)≤4294967296:=by unfold yT at hm;omega
 have h1:((n:Int) != m)=true:=by simp;omega
 rcases Nat.lt_or_gt_of_ne hnm with h2|h2
 ·have Hc:=yA (yeu cx cy (by rw [hx.len,hy.len];exact h2)).1
  have h3:(n:Int)<m:=by omega
  go_enter Tryz.func118,Tryz.ntmps118
  go_wp2
  go_ret
  exact ⟨by rw [Hc.out];rfl,0,rfl⟩
 ·have Hc:=yA (yeu cy cx (by rw [hx.len,hy.len];exact h2)).2
  have h3:¬ (n:Int)<m:=by omega
  go_enter Tryz.func118,Tryz.ntmps118
  go_wp2
  go_ret
  exact ⟨by rw [Hc.out];rfl,0,rfl⟩
theorem yb2 (u v:Value) (a b K:Nat) (w:World) (hK:K≤yT) (ha:a<B9^K) (hb:b<B9^K) (hu:yL w u a) (hv:yL w v b):Calls Tryz.prog 118 #[u,v] w (GZ a b w):=by
 obtain ⟨p,n,c,x,rfl,h1,h2,h3,h4⟩:=hu
 obtain ⟨q,m,d,y,rfl,g1,g2,g3,g4⟩:=hv
 have hn:=ydw h3 h4 ha h2
 have hm:=ydw g3 g4 hb g2
 rw [← h4,← g4]
 by_cases hnm:n=m
 ·subst hnm
  exact yj8 p n c x q d y w (by omega) h2 g2 h3.1 g3.1
 ·exact yh5 p n c x q m d y w (by omega) (by omega) hnm h2 g2 h3 g3
end Go.Proofs.YtfjnipkpfbkegaaGreatDoor
namespace Go.Proofs.YtfjnipkpfbkegaaGreatDoor
open Go.RowKit Big
structure SubInv9 (x y:List Nat) (k d:Nat) (L:List Nat):Prop where
 len:L.length=k
 dig:yW B9 L
 owe:d≤1
 eq:val B9 L+val B9 (y.take k)=val B9 (x.take k)+B9^k*d
theorem SubInv9.start (x y:List Nat):SubInv9 x y 0 0 []:=⟨rfl,yW.nil _,by omega,by simp [val]⟩
theorem SubInv9.step {x y:List Nat} {k d:Nat} {L:List Nat} (h:SubInv9 x y k d L) (_dx:yW B9 x) (_dy:yW B9 y) (a b s d':Nat) (ha:x.getD k 0=a) (hb:y.getD k 0=b) (hs:s+b+d=a+1000000000*d') (hd:d'≤1) (hs9:s<1000000000) :
  SubInv9 x y (k+1) d' (L++[s]):=by
 refine ⟨by rw [List.length_append,h.len];rfl,h.dig.append (yW.one (by rw [zN];exact hs9)),hd,?_⟩
 rw [jY,h.len,yY,yY,ha,hb,Nat.pow_succ]
 exact ynn h.eq (by rw [zN];exact hs)
theorem SubInv9.done {x y:List Nat} {k d:Nat} {L:List Nat} (h:SubInv9 x y k d L) (h1:x.length=k) (h2:y.length≤k) (hle:val B9 y≤val B9 x):val B9 L=val B9 x-val B9 y:=by
 have h3:=h.eq
 rw [List.take_of_length_le (by omega),List.take_of_length_le (by omega)] at h3
 have h4:=vT L h.dig
 rw [h.len] at h4
 have h5:d=0:=by
  apply Nat.eq_zero_of_not_pos;intro h6
  have:B9^k*1≤B9^k*d:=Nat.mul_le_mul_left _ h6
  omega
 subst h5
 omega
theorem ylI (p:Option Addr) (n c0:Nat) (x:List Nat) (q:Option Addr) (m d0:Nat) (y:List Nat) (w:World) (hn0:n≤yT) (hmn:m≤n) (hx:Rd w p n x) (hy:Rd w q m y) (dx:yW B9 x) (dy:yW B9 y) (hle:val B9 y≤val B9 x) :
  Calls Tryz.prog 120 #[.slice p n c0,.slice q m d0] w (zU (val B9 x-val B9 y) w):=by
 obtain ⟨i0,hi,hz0,hz1,hz2⟩:=info_parts GA
 have hn:(n:Int)≤4294967296:=by unfold yT at hn0;omega
 have hm:(m:Int)≤n:=by omega
 have HX:=yA dx
 have HY:=yA dy
 have Hle:=yA hle
 clear dx dy hle
 go_enter Tryz.func120,Tryz.ntmps120
 go_wp2_with (at_make;refine wpList_make_own _ rfl _ _ 42 rfl w.heap.size 100 i0 (.int .u64 0) 1 jS hi hz0 hz1 _ _ _ n rfl rfl rfl ?b2 ?b3 (Nat.le_refl _) ?_)
 case b2=>rw [hz2];omega
 case b3=>unfold maxLen;omega
 intro w1 jH jT
 have yoq:Hid (Acc w w1 (.slice (some ⟨w.heap.size,0,none⟩) 0 n) []):=yA ⟨jH,(Below.refl _ _).grown jT (Nat.le_refl _) (fun k h=>by cases h)⟩
 clear jH jT
 go_wp2_with fail
 go_loopw [5,6,15] (fun ov dv iv wr=>∃ (k d:Nat) (L:List Nat),dv=.int .u64 d∧iv=.int .i64 k∧Hid (SubInv9 x y k d L∧k≤n)∧Hid (Acc w wr ov L)) (fun _ _ iv _=>n-(intOf iv).toNat)
 case atStart=>exact ⟨0,0,[],rfl,rfl,yA ⟨SubInv9.start x y,Nat.zero_le _⟩,yoq⟩
 case round =>
  obtain ⟨k,d,L,rfl,rfl,yI,uO⟩:=hrel
  obtain ⟨po,no,co,hov,hno⟩:∃ p n c,u5=.slice p n c∧n=L.length:=by
   obtain ⟨p,c,h,_⟩:=ycW uO.out.own;exact ⟨_,_,_,h,rfl⟩
  have hlx:Hid (x.length=n):=yA hx.len
  have hly:Hid (y.length=m):=yA hy.len
  have hlen:Hid (L.length+1≤maxLen∧(L.length+1)*8≤140737488355328∧w.heap.size≤wr.heap.size+1):=yA (by
   have h1:=yI.out.1.len
   have h2:=yI.out.2
   have h:=uO.out.below.size
   unfold maxLen;omega)
  have hkn:(k:Int)≤n:=by have:=yI.out.2;omega
  by_cases h1:k<n
  ·subst hov
   clear hno
   have e1:(k:Int)<n:=by omega
   have hdb:(d:Int)≤1:=by have:=yI.out.1.owe;omega
   obtain ⟨b1,o1,a,rfl,hb1,hc1,ha⟩:=hx.at (k:=k) (by omega)
   have g1:wr.cell? ⟨b1,o1+k,none⟩=some (.int .u64 (a:Int)):=(uO.out.below.cell (p:=⟨b1,o1+k,none⟩) hb1).trans hc1
   have da:(a:Int)≤999999999:=by have h:=HX.out.getD jP k;rw [ha.out,zN] at h;omega
   by_cases h2:k<m
   ·have e2:(k:Int)<m:=by omega
    obtain ⟨b2,o2,b,rfl,hb2,hc2,hb⟩:=hy.at (k:=k) (by omega)
    have g2:wr.cell? ⟨b2,o2+k,none⟩=some (.int .u64 (b:Int)):=(uO.out.below.cell (p:=⟨b2,o2+k,none⟩) hb2).trans hc2
    have db:(b:Int)≤999999999:=by have h:=HY.out.getD jP k;rw [hb.out,zN] at h;omega
    by_cases h3:a<d+b
    ·have e3:((a:Int)<(d:Int)+b):=by omega
     obtain ⟨s,hs⟩:∃ s:Nat,(s:Int)=(a:Int)+1000000000-((d:Int)+b):=⟨(a+1000000000-(d+b)),by omega⟩
     have GT:=yA (yI.out.1.step HX.out HY.out a b s 1 ha.out hb.out (by omega) (by omega) (by omega))
     have hw1:(a:Int)+1000000000-((d:Int)+b)=(s:Int):=by omega
     clear hs
     go_wp2_with (at_builtin;refine wpList_append_own _ rfl (.tmp 38) (.tmp 42) 42 rfl w.heap.size 100 i0 (.int .u64 0) 1 8 jS hi hz0 hz1 hz2 rfl (by decide) _ _ _ rfl ((uO.out.own).alloc _) ⟨_,0,none⟩ 1 1 [.int .u64 (s:Int)] rfl rfl (cell_one_new _ _ _) (by intro u hu;simp at hu;subst hu;rfl) hlen.out.1 hlen.out.2.1 (by simp;exact hlen.out.2.2) ?_)
     intro v5 w5 vJ jF _
     have zR:=yA (uO.out.next rfl vJ jF)
     clear vJ jF
     go_wp2_with fail
     go_roundw
     case rel=>exact ⟨k+1,_,_,rfl,by go_num,yA ⟨GT.out,by omega⟩,zR⟩
     case measure=>simp [intOf];omega
    ·have e3:¬ ((a:Int)<(d:Int)+b):=by omega
     obtain ⟨s,hs⟩:∃ s:Nat,(s:Int)=(a:Int)-((d:Int)+b):=⟨(a-(d+b)),by omega⟩
     have GT:=yA (yI.out.1.step HX.out HY.out a b s 0 ha.out hb.out (by omega) (by omega) (by omega))
     have hw1:(a:Int)-((d:Int)+b)=(s:Int):=by omega
     clear hs
     go_wp2_with (at_builtin;refine wpList_append_own _ rfl (.tmp 38) (.tmp 42) 42 rfl w.heap.size 100 i0 (.int .u64 0) 1 8 jS hi hz0 hz1 hz2 rfl (by decide) _ _ _ rfl ((uO.out.own).alloc _) ⟨_,0,none⟩ 1 1 [.int .u64 (s:Int)] rfl rfl (cell_one_new _ _ _) (by intro u hu;simp at hu;subst hu;rfl) hlen.out.1 hlen.out.2.1 (by simp;exact hlen.out.2.2) ?_)
     intro v5 w5 vJ jF _
     have zR:=yA (uO.out.next rfl vJ jF)
     clear vJ jF
     go_wp2_with fail
     go_roundw
     case rel=>exact ⟨k+1,_,_,rfl,by go_num,yA ⟨GT.out,by omega⟩,zR⟩
     case measure=>simp [intOf];omega
   ·have e2:¬ (k:Int)<m:=by omega
    obtain ⟨b,hb,hb0⟩:∃ b,Hid (y.getD k 0=b)∧b=0:=⟨_,yA rfl,by rw [List.getD_eq_getElem?_getD,List.getElem?_eq_none (by rw [hly.out];omega)];rfl⟩
    by_cases h3:a<d
    ·have e3:((a:Int)<(d:Int)):=by omega
     obtain ⟨s,hs⟩:∃ s:Nat,(s:Int)=(a:Int)+1000000000-((d:Int)):=⟨(a+1000000000-(d)),by omega⟩
     have GT:=yA (yI.out.1.step HX.out HY.out a b s 1 ha.out hb.out (by omega) (by omega) (by omega))
     clear hb0
     have hw1:(a:Int)+1000000000-((d:Int))=(s:Int):=by omega
     clear hs
     go_wp2_with (at_builtin;refine wpList_append_own _ rfl (.tmp 38) (.tmp 42) 42 rfl w.heap.size 100 i0 (.int .u64 0) 1 8 jS hi hz0 hz1 hz2 rfl (by decide) _ _ _ rfl ((uO.out.own).alloc _) ⟨_,0,none⟩ 1 1 [.int .u64 (s:Int)] rfl rfl (cell_one_new _ _ _) (by intro u hu;simp at hu;subst hu;rfl) hlen.out.1 hlen.out.2.1 (by simp;exact hlen.out.2.2) ?_)
     intro v5 w5 vJ jF _
     have zR:=yA (uO.out.next rfl vJ jF)
     clear vJ jF
     go_wp2_with fail
     go_roundw
     case rel=>exact ⟨k+1,_,_,rfl,by go_num,yA ⟨GT.out,by omega⟩,zR⟩
     case measure=>simp [intOf];omega
    ·have e3:¬ ((a:Int)<(d:Int)):=by omega
     obtain ⟨s,hs⟩:∃ s:Nat,(s:Int)=(a:Int)-((d:Int)):=⟨(a-(d)),by omega⟩
     have GT:=yA (yI.out.1.step HX.out HY.out a b s 0 ha.out hb.out (by omega) (by omega) (by omega))
     clear hb0
     have hw1:(a:Int)-((d:Int))=(s:Int):=by omega
     clear hs
     go_wp2_with (at_builtin;refine wpList_append_own _ rfl (.tmp 38) (.tmp 42) 42 rfl w.heap.size 100 i0 (.int .u64 0) 1 8 jS hi hz0 hz1 hz2 rfl (by decide) _ _ _ rfl ((uO.out.own).alloc _) ⟨_,0,none⟩ 1 1 [.int .u64 (s:Int)] rfl rfl (cell_one_new _ _ _) (by intro u hu;simp at hu;subst hu;rfl) hlen.out.1 hlen.out.2.1 (by simp;exact hlen.out.2.2) ?_)
     intro v5 w5 vJ jF _
     have zR:=yA (uO.out.next rfl vJ jF)
     clear vJ jF
     go_wp2_with fail
     go_roundw
     case rel=>exact ⟨k+1,_,_,rfl,by go_num,yA ⟨GT.out,by omega⟩,zR⟩
     case measure=>simp [intOf];omega
  ·have hkeq:k=n:=by omega
   have ht:Hid (Calls Tryz.prog 95 #[.slice po no co] wr (zU (val B9 x-val B9 y) w)):=yA (by
    obtain ⟨p',c',h,hnc,hr,hf⟩:=ycW uO.out.own
    rw [hov] at h
    cases h
    have yZ:=yI.out.1.done (by rw [hlx.out];omega) (by rw [hly.out];omega) Hle.out
    rw [← yZ]
    exact (ycq _ _ _ L wr (by have:=hlen.out.1;omega) hnc.1 hr).mono fun _ _ h=>yb1 hnc hf hr yI.out.1.dig uO.out.below h)
   subst hov
   clear hno
   go_wp2_with fail
   refine ht.out.mono ?_
   rintro e w4 ⟨v,rfl,hv⟩
   go_wp2_with fail
   go_ret
   exact ⟨v,rfl,hv⟩
theorem ylJ (u v:Value) (a b K:Nat) (w:World) (hK:K≤yT) (ha:a<B9^K) (hle:b≤a) (hu:yL w u a) (hv:yL w v b):Calls Tryz.prog 120 #[u,v] w (zU (a-b) w):=by
 obtain ⟨p,n,c,x,rfl,h1,h2,h3,h4⟩:=hu
 obtain ⟨q,m,d,y,rfl,g1,g2,g3,g4⟩:=hv
 have hn:=ydw h3 h4 ha h2
 have hm:m≤n:=by
  have:=zF.length_le g3 h3.1 (by rw [h4,g4];exact hle)
  rw [h2.len,g2.len] at this;exact this
 subst h4 g4
 exact ylI p n c x q m d y w (by omega) hm h2 g2 h3.1 g3.1 hle
theorem ylK {q w r r' a X Y B:Nat} (h:q*w+r'=r*B+a) (hX:Y*w+r=X):(q+B*Y)*w+r'=a+B*X:=by
 subst hX;grind
def yg1 (x d:Nat) (w:World) (e:Ending) (w':World):Prop :=
 ∃ v,e=.returned (.tuple #[v,.int .u64 ((x%d:Nat):Int)])∧yL w' v (x/d)∧Below w.heap.size w w'∧ykz w.heap.size v
theorem yno (p:Option Addr) (n c:Nat) (x:List Nat) (d:Nat) (w:World) (hn0:n≤yT) (hx:Rd w p n x) (dx:yW B9 x) (hd:0<d) (hdB:d<B9) :
  Calls Tryz.prog 119 #[.slice p n c,.int .u64 d] w (yg1 (val B9 x) d w):=by
 obtain ⟨i0,hi,hz0,hz1,hz2⟩:=info_parts GA
 have hn:(n:Int)≤4294967296:=by unfold yT at hn0;omega
 go_enter Tryz.func119,Tryz.ntmps119
 go_wp2_with (at_make;refine wpList_make_full _ rfl _ _ 42 rfl w.heap.size 100 i0 (.int .u64 0) 1 jS hi hz0 hz1 _ _ _ _ n rfl rfl (by omega) (by omega) ?b2 ?b3 (Nat.le_refl _) ?_)
 case b2=>rw [hz2];unfold yT at hn0;omega
 case b3=>unfold maxLen;unfold yT at hn0;omega
 intro w1 jH jT
 have hr1:jA w1 w.heap.size 100 (List.replicate n 0):=vK jH
 have hb1:Below w.heap.size w w1:=(Below.refl _ _).grown jT (Nat.le_refl _) (fun k h=>by cases h)
 clear jH jT
 have hlx:Hid (x.length=n):=yA hx.len
 have hd9:(d:Int)≤999999999:=by rw [zN] at hdB;omega
 have hd0:(1:Int)≤d:=by omega
 have hdne:((d:Int)==0)=false:=by simp;omega
 go_wp2_with fail
 go_loopw [7,8] (fun rv i wr=>∃ (k:Nat) (z:Int) (r:Nat) (L:List Nat),k≤n∧i=.int .i64 z∧z+1=k∧rv=.int .u64 r∧Hid (r<d∧L.length=n∧yW B9 (L.drop k)∧val B9 (L.drop k)*d+r=val B9 (x.drop k))∧jA wr w.heap.size 100 L∧Below w.heap.size w wr) (fun _ i _=>(intOf i+1).toNat)
 case atStart=>exact ⟨n,(n:Int)-1,0,_,Nat.le_refl _,rfl,by omega,rfl,yA ⟨hd,by simp,by rw [List.drop_of_length_le (by simp)];exact yW.nil _,by rw [List.drop_of_length_le (by simp),List.drop_of_length_le (by rw [hlx.out];omega)];simp [val]⟩,hr1,hb1⟩
 case round =>
  obtain ⟨k,z,r,L,hk,rfl,hz,rfl,yI,hr,hb⟩:=hrel
  by_cases h0:k=0
  ·obtain rfl:z=-1:=by omega
   subst h0
   have yE:Hid (val B9 L=val B9 x/d∧r=val B9 x%d∧yW B9 L∧L.length=n):=by
    obtain ⟨g1,g2,g3,g4⟩:=yI.out
    rw [List.drop_zero] at g3 g4
    rw [List.drop_zero] at g4
    refine ⟨?_,?_,g3,g2⟩
    ·rw [← g4,Nat.mul_comm,Nat.mul_add_div hd,Nat.div_eq_of_lt g1];rfl
    ·rw [← g4,Nat.mul_comm,Nat.mul_add_mod,Nat.mod_eq_of_lt g1]
   have hrd:=hr.rd0 n yE.out.2.2.2.symm
   have ht:Hid (Calls Tryz.prog 95 #[.slice (some ⟨w.heap.size,0,none⟩) n n] wr (zU (val B9 L) w)):=yA ((ycq _ n n L wr (by unfold maxLen;omega) (Nat.le_refl _) hrd).mono fun _ _ h=>yb1 ⟨Nat.le_refl _,fun h=>by cases h⟩ (fun b o h=>by cases h;exact Nat.le_refl _) hrd yE.out.2.2.1 hb h)
   clear hz hrd
   go_wp2_with fail
   refine ht.out.mono ?_
   rintro e w4 ⟨v,rfl,hv,hb4⟩
   rw [yE.out.1] at hv
   rw [yE.out.2.1]
   go_wp2_with fail
   go_ret2
   exact ⟨v,rfl,hv,hb4⟩
  ·obtain ⟨j,rfl⟩:∃ j:Nat,z=j:=⟨z.toNat,by omega⟩
   obtain rfl:k=j+1:=by omega
   clear hz h0
   obtain ⟨b1,o1,a,rfl,hb1',hc1,ha⟩:=hx.at (k:=j) (by omega)
   have hc:wr.cell? ⟨b1,o1+j,none⟩=some (.int .u64 (a:Int)):=(hb.cell (p:=⟨b1,o1+j,none⟩) hb1').trans hc1
   have hf:=hr.free j
   have ybn:=hr.cell j (by rw [yI.out.2.1];omega)
   have da:(a:Int)≤999999999:=by have h:=dx.getD jP j;rw [ha.out,zN] at h;omega
   have hrb:(r:Int)≤999999998:=by have:=yI.out.1;omega
   obtain ⟨q,hq⟩:∃ q:Nat,Hid (q=(r*1000000000+a)/d):=⟨_,yA rfl⟩
   obtain ⟨r',hr'⟩:∃ r':Nat,Hid (r'=(r*1000000000+a)%d):=⟨_,yA rfl⟩
   have he:q*d+r'=r*B9+a:=by rw [hq.out,hr'.out,zN,Nat.mul_comm];exact Nat.div_add_mod _ _
   have hlt:r'<d:=by rw [hr'.out];exact Nat.mod_lt _ hd
   have hqB:q<B9:=by
    apply Nat.lt_of_mul_lt_mul_right (a:=d)
    have h1:=yI.out.1
    have h2:(r+1)*B9≤d*B9:=Nat.mul_le_mul_right _ h1
    have h3:(r+1)*B9=r*B9+B9:=by grind
    have h4:B9*d=d*B9:=Nat.mul_comm _ _
    have h5:=zN
    omega
   have hw1:((r:Int)*1000000000+a)/d=(q:Int):=by rw [hq.out,Int.natCast_ediv,Int.natCast_add,Int.natCast_mul];rfl
   have hw2:((r:Int)*1000000000+a)%d=(r':Int):=by rw [hr'.out,Int.natCast_emod,Int.natCast_add,Int.natCast_mul];rfl
   have hj:(j:Int)<n:=by omega
   have hinv':Hid (r'<d∧(L.set j q).length=n∧yW B9 ((L.set j q).drop j)∧val B9 ((L.set j q).drop j)*d+r'=val B9 (x.drop j)):=by
    obtain ⟨g1,g2,g3,g4⟩:=yI.out
    have hjl:j<(L.set j q).length:=by rw [List.length_set];omega
    have hd1:(L.set j q).drop (j+1)=L.drop (j+1):=by rw [List.drop_set_of_lt (by omega)]
    have hgj:(L.set j q).getD j 0=q:=by rw [List.getD_eq_getElem?_getD,List.getElem?_set_self (by omega)];rfl
    refine ⟨hlt,by rw [List.length_set];exact g2,?_,?_⟩
    ·rw [List.drop_eq_getElem_cons hjl,hd1]
     have:(L.set j q)[j]=q:=by simp
     rw [this]
     exact (yW.one hqB).append g3
    ·rw [ybe,hd1,hgj,ybe B9 x j,ha.out]
     exact ylK he g4
   clear he hlt hqB hc1
   go_wp2_with fail
   go_roundw
   case rel=>exact ⟨j,(j:Int)-1,r',_,by omega,rfl,by omega,by rw [hw2],hinv',hr.set _ _,hb.setCell (Nat.le_refl _) _⟩
   case measure=>simp [intOf]
structure MulIn9 (L0:List Nat) (i x:Nat) (y:List Nat) (k c:Nat) (L:List Nat):Prop where
 put:Put L0 i k L
 dig:yW B9 L
 car:c<B9
 eq:val B9 (yS L i k)+B9^k*c=val B9 (yS L0 i k)+val B9 (y.take k)*x
theorem MulIn9.start {L0:List Nat} (h:yW B9 L0) (i x:Nat) (y:List Nat):MulIn9 L0 i x y 0 0 L0 :=
 ⟨Put.refl _ _,h,jP,by simp [ybz,val]⟩
theorem MulIn9.step {L0 L:List Nat} {i x k c:Nat} {y:List Nat} (h:MulIn9 L0 i x y k c L) (hk:i+k<L0.length) (a b:Nat) (ha:L.getD (i+k) 0=a) (hb:y.getD k 0=b) (dx:x<B9) (db:b<B9) :
  MulIn9 L0 i x y (k+1) ((a+x*b+c)/B9) (L.set (i+k) ((a+x*b+c)%B9)):=by
 have hlen:=h.put.length
 have ha9:a<B9:=by rw [← ha];exact h.dig.getD jP _
 have ha0:L0.getD (i+k) 0=a:=by rw [← h.put.getD (i+k) (Nat.le_refl _)];exact ha
 have hm:(a+x*b+c)%B9+B9*((a+x*b+c)/B9)=a+b*x+c:=by
  rw [Nat.mod_add_div,Nat.mul_comm x b]
 refine ⟨h.put.set _,h.dig.set _ _ (Nat.mod_lt _ jP),?_,?_⟩
 ·rw [Nat.div_lt_iff_lt_mul jP]
  have h1:x*b≤(B9-1)*(B9-1):=Nat.mul_le_mul (by omega) (by omega)
  have h2:(B9-1)*(B9-1)+2*(B9-1)<B9*B9:=by rw [zN];decide
  have h3:=h.car
  omega
 ·rw [h.put.seg_set (by omega),jY,zX _ _ _ (by omega),yar L0 i k hk,jY,zX _ _ _ (by omega),ha0,yY,hb,Nat.pow_succ]
  exact yej h.eq hm
structure MulInv9 (x y:List Nat) (i:Nat) (L:List Nat):Prop where
 len:L.length=x.length+y.length
 dig:yW B9 L
 eq:val B9 (yS L 0 (y.length+i))=val B9 y*val B9 (x.take i)
 zero:∀ j,y.length+i≤j→j<x.length+y.length→L.getD j 0=0
theorem MulInv9.start (x y:List Nat):MulInv9 x y 0 (List.replicate (x.length+y.length) 0) :=
 ⟨by simp,yW.zeros jP _,by simp [yS,val,uQ],fun j _ h=>by simp [List.getD_eq_getElem?_getD,h]⟩
theorem yg2 (M:List Nat) (a b:Nat):yS M 0 (a+b)=yS M 0 a++yS M a b:=by
 simp only [yS,List.drop_zero];rw [List.take_add]
theorem MulInv9.step {x y:List Nat} {i c:Nat} {L L':List Nat} (h:MulInv9 x y i L) (hi:i<x.length) (a:Nat) (ha:x.getD i 0=a) (hin:MulIn9 L i a y y.length c L') :
  MulInv9 x y (i+1) (L'.set (i+y.length) c):=by
 have ya7:=hin.put.set c
 have hlen:(L'.set (i+y.length) c).length=L.length:=ya7.length
 have hL:=h.len
 have h1:yS (L'.set (i+y.length) c) 0 (y.length+(i+1))=yS L 0 i++(yS L' i y.length++[c]):=by
  rw [show y.length+(i+1)=i+(y.length+1) from by omega,yg2,ya7.before_seg 0 i (by omega),hin.put.seg_set (by omega)]
 have h2:yS L 0 (y.length+i)=yS L 0 i++yS L i y.length:=by rw [show y.length+i=i+y.length from by omega,yg2]
 have hl0:(yS L 0 i).length=i:=zX _ _ _ (by omega)
 have hl1:(yS L' i y.length).length=y.length:=zX _ _ _ (by rw [hin.put.length];omega)
 refine ⟨by rw [hlen];exact hL,hin.dig.set _ _ hin.car,?_,?_⟩
 ·have h3:=h.eq
  have h4:=hin.eq
  rw [List.take_of_length_le (Nat.le_refl _)] at h4
  rw [h1,uE,jY,hl0,hl1,h4,yY,ha]
  rw [h2,uE,hl0] at h3
  rw [Nat.mul_add,Nat.mul_add,← h3]
  grind
 ·intro j h3 h4
  rw [ya7.getD j (by omega)];exact h.zero j (by omega) h4
theorem MulInv9.done {x y:List Nat} {L:List Nat} (h:MulInv9 x y x.length L):val B9 L=val B9 x*val B9 y:=by
 have h1:=h.eq
 rw [GY L _ (by rw [h.len];omega),List.take_of_length_le (Nat.le_refl _)] at h1
 rw [h1,Nat.mul_comm]
theorem ylL (p:Option Addr) (n c0:Nat) (x:List Nat) (q:Option Addr) (m d0:Nat) (y:List Nat) (w:World) (hn0:n≤yT) (hm0:m≤yT) (hx:Rd w p n x) (hy:Rd w q m y) (dx:yW B9 x) (dy:yW B9 y) :
  Calls Tryz.prog 72 #[.slice p n c0,.slice q m d0] w (zU (val B9 x*val B9 y) w):=by
 obtain ⟨i0,hi,hz0,hz1,hz2⟩:=info_parts GA
 have hn:(n:Int)≤4294967296:=by unfold yT at hn0;omega
 have hm:(m:Int)≤4294967296:=by unfold yT at hm0;omega
 have HX:=yA dx
 have HY:=yA dy
 have hlx:Hid (x.length=n):=yA hx.len
 have hly:Hid (y.length=m):=yA hy.len
 clear dx dy
 go_enter Tryz.func72,Tryz.ntmps72
 go_wp2_with (at_make;refine wpList_make_full _ rfl _ _ 42 rfl w.heap.size 100 i0 (.int .u64 0) 1 jS hi hz0 hz1 _ _ _ _ (n+m) rfl rfl (by omega) (by omega) ?b2 ?b3 (Nat.le_refl _) ?_)
 case b2=>rw [hz2];omega
 case b3=>unfold maxLen;omega
 intro w1 jH jT
 have hr1:jA w1 w.heap.size 100 (List.replicate (n+m) 0):=vK jH
 have hb1:Below w.heap.size w w1:=(Below.refl _ _).grown jT (Nat.le_refl _) (fun k h=>by cases h)
 have hst:Hid (MulInv9 x y 0 (List.replicate (n+m) 0)):=yA (by have:=MulInv9.start x y;rw [hlx.out,hly.out] at this;exact this)
 clear jH jT
 go_wp2_with fail
 go_loopw [20] (fun iv wr=>∃ (i:Nat) (L:List Nat),iv=.int .i64 i∧i≤n∧Hid (MulInv9 x y i L)∧jA wr w.heap.size 100 L∧Below w.heap.size w wr) (fun iv _=>n-(intOf iv).toNat)
 case atStart=>exact ⟨0,_,rfl,Nat.zero_le _,hst,hr1,hb1⟩
 case round =>
  obtain ⟨i,L,rfl,hin,yI,hr,hb⟩:=hrel
  by_cases h1:i<n
  ·have e1:(i:Int)<n:=by omega
   obtain ⟨b1,o1,a,rfl,hb1',hc1,ha⟩:=hx.at (k:=i) (by omega)
   have g1:wr.cell? ⟨b1,o1+i,none⟩=some (.int .u64 (a:Int)):=(hb.cell (p:=⟨b1,o1+i,none⟩) hb1').trans hc1
   have da:a<B9:=by rw [← ha.out];exact HX.out.getD jP i
   have da9:(a:Int)≤999999999:=by rw [zN] at da;omega
   have Da:=yA da
   have hst2:Hid (MulIn9 L i a y 0 0 L):=yA (MulIn9.start yI.out.dig i a y)
   clear da hc1
   go_wp2_with fail
   go_loopw [8,27] (fun cv kv w2=>∃ (k c:Nat) (L':List Nat),cv=.int .u64 c∧kv=.int .i64 k∧k≤m∧Hid (MulIn9 L i a y k c L')∧jA w2 w.heap.size 100 L'∧Below w.heap.size w w2) (fun _ kv _=>m-(intOf kv).toNat)
   case atStart=>exact ⟨0,0,L,rfl,rfl,Nat.zero_le _,hst2,hr,hb⟩
   case round =>
    obtain ⟨k,c,L',rfl,rfl,hkm,yn9,hr2,hb2⟩:=hrel
    have hl':Hid (L'.length=n+m):=yA (by rw [yn9.out.put.length,yI.out.len,hlx.out,hly.out])
    have hcb:(c:Int)≤999999999:=by have:=yn9.out.car;rw [zN] at this;omega
    by_cases h2:k<m
    ·have e2:(k:Int)<m:=by omega
     obtain ⟨b3,o3,b,rfl,hb3',hc3,hbd⟩:=hy.at (k:=k) (by omega)
     have g2:wr.cell? ⟨b3,o3+k,none⟩=some (.int .u64 (b:Int)):=(hb2.cell (p:=⟨b3,o3+k,none⟩) hb3').trans hc3
     have db:b<B9:=by rw [← hbd.out];exact HY.out.getD jP k
     have db9:(b:Int)≤999999999:=by rw [zN] at db;omega
     obtain ⟨z,hz⟩:∃ z,Hid (L'.getD (i+k) 0=z):=⟨_,yA rfl⟩
     have ybn:=hr2.cell (i+k) (by rw [hl'.out];omega)
     rw [hz.out] at ybn
     have ykE:=hr2.free (i+k)
     have hz9:(z:Int)≤999999999:=by have:=yn9.out.dig.getD jP (i+k);rw [hz.out,zN] at this;omega
     obtain ⟨ab,yrH⟩:∃ ab:Nat,Hid (ab=a*b):=⟨_,yA rfl⟩
     have hab:(a:Int)*b=(ab:Int):=by rw [yrH.out];simp
     have hab2:(ab:Int)≤999999998000000001:=by
      have h5:a*b≤999999999*999999999:=Nat.mul_le_mul (by omega) (by omega)
      rw [yrH.out];omega
     have GT:=yA (yn9.out.step (by rw [yI.out.len,hlx.out,hly.out];omega) z b hz.out hbd.out Da.out db)
     rw [← yrH.out] at GT
     obtain ⟨s1,hs1⟩:∃ s1:Nat,Hid (s1=(z+ab+c)%B9):=⟨_,yA rfl⟩
     obtain ⟨s2,hs2⟩:∃ s2:Nat,Hid (s2=(z+ab+c)/B9):=⟨_,yA rfl⟩
     rw [← hs1.out,← hs2.out] at GT
     have hw1:((z:Int)+ab+c)%1000000000=(s1:Int):=by rw [hs1.out,zN];omega
     have hw2:((z:Int)+ab+c)/1000000000=(s2:Int):=by rw [hs2.out,zN];omega
     clear db hc3
     go_wp2_with fail
     go_roundw
     case rel=>exact ⟨k+1,s2,_,by rw [hw2],by go_num,by omega,GT,hr2.set _ _,hb2.setCell (Nat.le_refl _) _⟩
     case measure=>simp [intOf];omega
    ·obtain rfl:k=m:=by omega
     have ybn:=hr2.cell (i+k) (by rw [hl'.out];omega)
     have ykE:=hr2.free (i+k)
     have GT:=yA (yI.out.step (by rw [hlx.out];omega) a ha.out (by rw [hly.out];exact yn9.out))
     rw [hly.out] at GT
     go_wp2_with fail
     go_roundw
     case rel=>exact ⟨i+1,_,by go_num,by omega,GT,hr2.set _ _,hb2.setCell (Nat.le_refl _) _⟩
     case measure=>simp [intOf];omega
  ·obtain rfl:i=n:=by omega
   have hrd:=hr.rd0 (i+m) (by rw [yI.out.len,hlx.out,hly.out])
   have ht:Hid (Calls Tryz.prog 95 #[.slice (some ⟨w.heap.size,0,none⟩) (i+m) (i+m)] wr (zU (val B9 x*val B9 y) w)):=yA (by
    have hd:=yI.out
    rw [← hlx.out] at hd
    rw [← hd.done]
    exact (ycq _ _ _ L wr (by unfold maxLen;omega) (Nat.le_refl _) hrd).mono fun _ _ h=>yb1 ⟨Nat.le_refl _,fun h=>by cases h⟩ (fun b o h=>by cases h;exact Nat.le_refl _) hrd yI.out.dig hb h)
   clear hrd
   go_wp2_with fail
   refine ht.out.mono ?_
   rintro e w4 ⟨v,rfl,hv⟩
   go_wp2_with fail
   go_ret
   exact ⟨v,rfl,hv⟩
theorem uV (u v:Value) (a b K L:Nat) (w:World) (hK:K≤yT) (hL:L≤yT) (ha:a<B9^K) (hb:b<B9^L) (hu:yL w u a) (hv:yL w v b):Calls Tryz.prog 72 #[u,v] w (zU (a*b) w):=by
 obtain ⟨p,n,c,x,rfl,h1,h2,h3,h4⟩:=hu
 obtain ⟨q,m,d,y,rfl,g1,g2,g3,g4⟩:=hv
 have hn:=ydw h3 h4 ha h2
 have hm:=ydw g3 g4 hb g2
 rw [← h4,← g4]
 exact ylL p n c x q m d y w (by omega) (by omega) h2 g2 h3.1 g3.1
def yez (g:Nat) (v:Value):Prop:=∀ b o n c,v=.slice (some ⟨b,o,none⟩) n c→b≠g
theorem yL.set {w:World} {v:Value} {x g:Nat} (h:yL w v x) (ha:yez g v) (k:Nat) (u:Value):yL (w.setCell ⟨g,k,none⟩ u) v x:=by
 obtain ⟨p,n,c,l,rfl,h2,h3,h4⟩:=h
 exact ⟨p,n,c,l,rfl,h2,((Only.refl g w).setCell k u).rd h3 (.inr fun b o hp=>ha b o n c (by rw [hp])),h4⟩
theorem yL.apart {w:World} {v:Value} {x g:Nat} (h:yL w v x) (hg:w.heap.size≤g) (hx:x≠0):yez g v:=by
 obtain ⟨p,n,c,l,rfl,h2,h3,h4,h5⟩:=h
 intro b o n' c' e
 cases e
 have hn:0<n:=by
  apply Nat.pos_of_ne_zero;rintro rfl
  have:=h3.len
  rw [List.eq_nil_of_length_eq_zero this] at h5
  exact hx h5.symm
 obtain ⟨b',o',e',hb,_⟩:=h3.opened hn
 cases e'
 omega
theorem ykz.apart {g B:Nat} {v:Value} (h:ykz B v) (hg:g<B):yez g v:=fun b o n c e=>by have:=h b o n c e;omega
theorem yL.pos {w:World} {v:Value} {x:Nat} (h:yL w v x) (hx:x≠0):∃ b o k c l,v=.slice (some ⟨b,o,none⟩) (k+1) c∧k+1≤c∧Rd w (some ⟨b,o,none⟩) (k+1) l∧zF B9 l∧val B9 l=x∧b<w.heap.size:=by
 obtain ⟨p,n,c,l,rfl,h2,h3,h4,h5⟩:=h
 have hn:0<n:=by
  apply Nat.pos_of_ne_zero;rintro rfl
  have:=h3.len
  rw [List.eq_nil_of_length_eq_zero this] at h5
  exact hx h5.symm
 obtain ⟨k,rfl⟩:∃ k,n=k+1:=⟨n-1,by omega⟩
 obtain ⟨b',o',e',hb,_⟩:=h3.opened hn
 cases e'
 exact ⟨b',o',k,c,l,rfl,h2.1,h3,h4,h5,hb⟩
theorem ynp (W:World) (o:Obj):(W.alloc o).heap[W.heap.size]?=some o:=by show (W.heap.push _)[_]?=_;simp
def GE (a b:Nat) (w:World) (e:Ending) (w':World):Prop :=
 ∃ v r,e=.returned (.tuple #[v,r])∧yL w' v (a/b)∧yL w' r (a%b)∧Below w.heap.size w w'
theorem Rd.news {w w':World} {p:Option Addr} {n:Nat} {l:List Nat} (h:Rd w p n l) (hb:Below w.heap.size w w'):∀ ad,p=some ad→∀ j v,(jE l)[j]?=some v→w'.cell? (ad.add j)=some v:=by
 intro ad hp j v hv
 have hlt:j<(jE l).length:=(List.getElem?_eq_some_iff.1 hv).1
 obtain ⟨ad',e,hc⟩:=(h.below hb).cells (by omega)
 rw [hp] at e;cases e
 exact hc j v hv
theorem yg3 (p:Option Addr) (n c0:Nat) (x:List Nat) (v:Value) (a b K:Nat) (w:World) (hK:K≤1000000) (ha:a<B9^K) (hb:b<B9^K) (hlt:a<b) (hnc:n≤c0∧(p=none→c0=0)) (hx:Rd w p n x) (cx:zF B9 x) (hxa:val B9 x=a) (hv:yL w v b) :
  Calls Tryz.prog 94 #[.slice p n c0,v] w (GE a b w):=by
 obtain ⟨i0,hi,hz0,hz1,hz2⟩:=info_parts GA
 have yaW:Hid (∀ W,Below w.heap.size w W→Calls Tryz.prog 118 #[.slice p n c0,v] W fun e w'=>e=.returned (.int .i64 (-1))∧Below w.heap.size w w'):=yA fun W hW=>by
  have hx2:yL W (.slice p n c0) a:=yL.below ⟨p,n,c0,x,rfl,hnc,hx,cx,hxa⟩ hW
  have h:=yb2 (.slice p n c0) v a b K W (by unfold yT;omega) ha hb hx2 (hv.below hW)
  refine h.mono fun e w' h=>?_
  obtain ⟨h1,t,h2⟩:=h
  refine ⟨by rw [h1];unfold jQ;rw [if_pos hlt],?_⟩
  rw [← h2];exact hW.trans (yJ _ _ _)
 have hnp:=ydw cx hxa ha hx
 have hn1:Hid (n≤1000000):=yA (by omega)
 obtain ⟨b1,o1,k,c1,l,rfl,hk1,-,-,-,-⟩:=hv.pos (by omega)
 have hk0:((((k+1:Nat):Int))==0)=false:=by simp;omega
 have yE:Hid (∀ W v,W.ownsRow w.heap.size 100 1 v n (jE x)→Below w.heap.size w W→GE a b w (.returned (.tuple #[.slice none 0 0,v])) W):=yA fun W v jH hW=>by
  have hl:=hx.len
  rw [← hl] at jH
  obtain ⟨v',h1,h2,h3,h4⟩:=(Acc.mk jH hW).nat cx
  cases h1
  refine ⟨_,v,rfl,?_,?_,hW⟩
  ·rw [Nat.div_eq_of_lt hlt];exact yL.zero _
  ·rw [Nat.mod_eq_of_lt hlt,← hxa];exact h2
 have hxl:=yA hx.len
 have Hx:=yA hx
 have Hpc:=yA hnc.2
 clear ha hb hlt hv cx hxa hnp hnc
 go_enter Tryz.func94,Tryz.ntmps94
 go_wp2_with fail
 refine (yaW.out _ (Below.refl _ _)).mono ?_
 rintro e w1 ⟨rfl,hb1⟩
 have Hb1:=yA hb1
 clear hb1
 have hown0:Hid ((w1.alloc (.cells #[] 100)).ownsRow w.heap.size 100 1 (.slice (some ⟨w1.heap.size,0,none⟩) 0 0) 0 (jE [])):=yA ⟨rfl,.inr ⟨w1.heap.size,0,#[],rfl,Hb1.out.size,ynp _ _,Nat.le_refl _,Nat.zero_le _,rfl,rfl⟩⟩
 cases p with
 | none =>
  obtain rfl:c0=0:=Hpc.out rfl
  obtain rfl:n=0:=by
   rcases Hx.out.cell with h|⟨_,_,h,_⟩
   ·exact h
   ·cases h
  have hx0:x=[]:=List.eq_nil_of_length_eq_zero hxl.out
  have ycQ:=yA (yE.out _ _ (by rw [hx0];exact hown0.out) (Hb1.out.alloc Hb1.out.size _))
  go_wp2_with fail
  go_ret2
  exact ycQ.out
 | some ad =>
  have hlen:Hid (0+n≤maxLen∧(0+n)*8≤140737488355328∧w.heap.size≤(w1.alloc (.cells #[] 100)).heap.size):=yA (by
   have:=hn1.out
   have h:=Hb1.out.size
   refine ⟨by unfold maxLen;omega,by omega,?_⟩
   simp;omega)
  have yc3:=yA (Hx.out.news (Hb1.out.alloc Hb1.out.size (.cells #[] 100)) ad rfl)
  have hul:Hid ((jE x).length=n*1):=yA (by rw [jB,hxl.out,Nat.mul_one])
  go_wp2_with (at_builtin;refine wpList_append_own _ rfl (.tmp 26) (.tmp 27) 42 rfl w.heap.size 100 i0 (.int .u64 0) 1 8 jS hi hz0 hz1 hz2 rfl (by decide) _ _ _ rfl hown0.out ad n _ (jE x) rfl hul.out yc3.out (ybd x) hlen.out.1 hlen.out.2.1 hlen.out.2.2 ?_)
  intro v5 w5 vJ jF _
  have ycQ:=yA (yE.out w5 v5 (by simpa [jE] using vJ) ((Hb1.out.alloc Hb1.out.size _).grown jF (by have:=Hb1.out.size;simp;omega) (fun k hk=>by cases hk;exact Hb1.out.size)))
  clear vJ jF
  go_wp2_with fail
  go_ret2
  exact ycQ.out
theorem yfx (p:Option Addr) (n c0:Nat) (x:List Nat) (q:Option Addr) (m0 d0:Nat) (y:List Nat) (a b K:Nat) (w:World) (hK:K≤1000000) (ha:a<B9^K) (hb0:0<b) (hb:b<B9) (hle:b≤a) (hnc:n≤c0∧(p=none→c0=0)) (hx:Rd w p n x) (cx:zF B9 x) (hxa:val B9 x=a)
  (hmc:m0≤d0∧(q=none→d0=0)) (hy:Rd w q m0 y) (cy:zF B9 y) (hyb:val B9 y=b) :
  Calls Tryz.prog 94 #[.slice p n c0,.slice q m0 d0] w (GE a b w):=by
 have hm1:m0=1:=by
  have h1:=ydw cy hyb (K:=1) (by rw [Nat.pow_one];exact hb) hy
  have h2:m0≠0:=by
   rintro rfl
   have:=hy.len
   rw [List.eq_nil_of_length_eq_zero this] at hyb
   simp [val] at hyb;omega
  omega
 subst hm1
 have hyl:=hy.len
 obtain ⟨bd,rfl⟩:∃ z,y=[z]:=by
  match y,hyl with
  | [z],_=>exact ⟨z,rfl⟩
 have hbd:bd=b:=by simpa [val] using hyb
 subst hbd
 obtain ⟨b1,o1,d,rfl,hb1,hc1,hd⟩:=hy.at (k:=0) (by omega)
 have hdb:d=bd:=by rw [← hd.out];rfl
 subst hdb
 have yaW:Hid (∀ W,Below w.heap.size w W→Calls Tryz.prog 118 #[.slice p n c0,.slice (some ⟨b1,o1,none⟩) 1 d0] W fun e w'=>∃ z:Int,0≤z∧e=.returned (.int .i64 z)∧Below w.heap.size w w'):=yA fun W hW=>by
  have hx2:yL W (.slice p n c0) a:=yL.below ⟨p,n,c0,x,rfl,hnc,hx,cx,hxa⟩ hW
  have h:=yb2 (.slice p n c0) (.slice (some ⟨b1,o1,none⟩) 1 d0) a d (K+1) W (by unfold yT;omega) (by rw [Nat.pow_succ,zN] at *;omega) (by
   have:B9^1≤B9^(K+1):=Nat.pow_le_pow_right jP (by omega)
   rw [Nat.pow_one] at this;omega) hx2 (yL.below ⟨_,1,d0,[d],rfl,hmc,hy,cy,hyb⟩ hW)
  refine h.mono fun e w' h=>?_
  obtain ⟨h1,t,h2⟩:=h
  refine ⟨jQ a d,?_,h1,?_⟩
  ·unfold jQ;rw [if_neg (by omega)];split<;>omega
  ·rw [← h2];exact hW.trans (yJ _ _ _)
 have hsm:Hid (∀ W,Below w.heap.size w W→Calls Tryz.prog 119 #[.slice p n c0,.int .u64 (d:Int)] W (yg1 a d W)):=yA fun W hW=>by
  have h:=yno p n c0 x d W (by have:=ydw cx hxa ha hx;unfold yT;omega) (hx.below hW) cx.1 hb0 hb
  rw [hxa] at h;exact h
 have hno:Hid (∀ W,Calls Tryz.prog 70 #[.int .u64 ((a%d:Nat):Int)] W (zU (a%d) W)):=yA fun W=>yaA _ W (by
  have:=Nat.mod_lt a hb0
  rw [zN] at hb;omega)
 have ybn:Hid (∀ W,Below w.heap.size w W→W.cell? ⟨b1,o1+0,none⟩=some (.int .u64 (d:Int))):=yA fun W hW=>(hW.cell (p:=⟨b1,o1+0,none⟩) hb1).trans hc1
 obtain ⟨rr,hrr⟩:∃ rr,Hid (rr=a%d):=⟨_,yA rfl⟩
 rw [← hrr.out] at hno
 clear ha hb0 hb hle hnc hx cx hxa hmc hy cy hyb hyl hb1 hc1
 go_enter Tryz.func94,Tryz.ntmps94
 go_wp2_with fail
 refine (yaW.out _ (Below.refl _ _)).mono ?_
 rintro e w1 ⟨z,hz,rfl,hb1⟩
 have hzl:decide (z<0)=false:=by simp;exact hz
 have Hb1:=yA hb1
 have hc:=ybn.out w1 hb1
 rw [Nat.add_zero] at hc
 have hs1:=hsm.out w1 hb1
 have Hs1:=yA hs1
 clear hb1 hs1 hz
 go_wp2_with fail
 refine Hs1.out.mono ?_
 rintro e w2 ⟨v,rfl,hv,hb2,_⟩
 obtain ⟨pv,nv,cv,rfl⟩:=hv.slice
 rw [← hrr.out]
 have Hv:=yA hv
 have Hb2:=yA (Hb1.out.trans (hb2.mono Hb1.out.size))
 clear hv hb2
 go_wp2_with fail
 refine (hno.out _).mono ?_
 rintro e w3 ⟨v3,rfl,hv3,hb3,_⟩
 obtain ⟨pv3,nv3,cv3,rfl⟩:=hv3.slice
 have ycQ:Hid (GE a d w (.returned (.tuple #[.slice pv nv cv,.slice pv3 nv3 cv3])) w3):=yA ⟨_,_,rfl,Hv.out.below hb3,by rw [← hrr.out];exact hv3,Hb2.out.trans (hb3.mono Hb2.out.size)⟩
 clear hv3 hb3
 go_wp2_with fail
 go_ret2
 exact ycQ.out
theorem yh6 (u v:Value) (a b K:Nat) (w:World) (hK:K≤1000000) (hK1:1≤K) (ha:a<B9^K) (hb0:0<b) (hb:b<B9) (hu:yL w u a) (hv:yL w v b) :
  Calls Tryz.prog 94 #[u,v] w (GE a b w):=by
 obtain ⟨p,n,c,x,rfl,h1,h2,h3,h4⟩:=hu
 by_cases h:a<b
 ·exact yg3 p n c x v a b K w hK ha (by
   have:B9^1≤B9^K:=Nat.pow_le_pow_right jP hK1
   rw [Nat.pow_one] at this;omega) h h1 h2 h3 h4 hv
 ·obtain ⟨q,m,d,y,rfl,g1,g2,g3,g4⟩:=hv
  exact yfx p n c x q m d y a b K w hK ha hb0 hb (by omega) h1 h2 h3 h4 g1 g2 g3 g4
end Go.Proofs.YtfjnipkpfbkegaaGreatDoor
