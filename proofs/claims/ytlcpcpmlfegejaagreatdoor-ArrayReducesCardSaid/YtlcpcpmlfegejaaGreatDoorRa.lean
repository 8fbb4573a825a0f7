/- The document's Index. -/
import Derived.Test.YtlcpcpmlfegejaaGreatDoorGI
import Derived.Test.YtlcpcpmlfegejaaGreatDoorGB
import Derived.WalkKit
import Derived.WalkSpells
import Derived.WalkLawsBesides
import Derived.Lib.Hide
import Derived.Laws.Externs
import Derived.Shelf.Spec.BitsCarry
import Derived.Laws.CopyOwn
import Derived.Maps.AppendAt
set_option maxHeartbeats 2000000
set_option maxRecDepth 100000
namespace Go.Proofs.YtlcpcpmlfegejaaGreatDoor.Arr
open Go.RowKit
open Go.Lib
attribute [local go_sem] Oper.semAt_some
theorem prod_drop {s:List Nat} {k:Nat} (hk:k<s.length):prod (s.drop k)=s.getD k 0*prod (s.drop (k+1)):=by
 rw [List.drop_eq_getElem_cons hk,prod_cons,List.getD_eq_getElem?_getD,List.getElem?_eq_getElem hk];rfl
theorem prod_split:∀ (s:List Nat) (k:Nat),prod s=prod (s.take k)*prod (s.drop k)
 | s,0=>by simp [prod]
 | [],k+1=>by simp [prod]
 | x::s,k+1=>by rw [List.take_succ_cons,List.drop_succ_cons,prod_cons,prod_cons,prod_split s k,Nat.mul_assoc]
theorem ixOf_getD:∀ (s:List Nat) (i k:Nat),i<prod s→k<s.length→(ixOf s i).getD k 0=(i/prod (s.drop (k+1)))%s.getD k 0
 | [],_,_,_,hk=>absurd hk (by simp)
 | x::s,i,0,hi,_=>by
  rw [prod_cons] at hi
  show i/prod s=(i/prod s)%x
  rw [Nat.mod_eq_of_lt (Nat.div_lt_of_lt_mul (by rw [Nat.mul_comm];exact hi))]
 | x::s,i,k+1,hi,hk=>by
  rw [prod_cons] at hi
  have hp:0<prod s:=by
   rcases Nat.eq_zero_or_pos (prod s) with h0|h0
   ·rw [h0,Nat.mul_zero] at hi;omega
   ·exact h0
  have hk2:k<s.length:=by simpa using hk
  have ih:=ixOf_getD s (i%prod s) k (Nat.mod_lt _ hp) hk2
  show (ixOf s (i%prod s)).getD k 0=(i/prod (s.drop (k+1)))%s.getD k 0
  rw [ih]
  have e:prod s=(prod (s.take k)*s.getD k 0)*prod (s.drop (k+1)):=by rw [prod_split s k,prod_drop hk2,Nat.mul_assoc]
  rw [e,Nat.mod_mul_left_div_self,Nat.mul_comm (prod (s.take k)),Nat.mod_mul_right_mod]
theorem zn_app (k:Nat) (R:List Nat):zn (k+1)++R=zn k++0::R:=by
 unfold zn
 rw [List.replicate_succ',List.append_assoc];rfl
theorem ixOf_small {s:List Nat} {i:Nat} (hi:i<prod s) (hsb:∀ x ∈ s,x≤1024):∀ x ∈ ixOf s i,x<1024:=fun x hx=>by
 obtain ⟨k,hk,e⟩:=List.getElem_of_mem hx
 have h1:=(ixOf_is s i hi).1
 have h2:=h1.2 k (by rw [← h1.1];exact hk)
 have h3:=hsb (s.getD k 0) (by rw [List.getD_eq_getElem?_getD,List.getElem?_eq_getElem (by rw [← h1.1];exact hk)];exact List.getElem_mem _)
 rw [List.getD_eq_getElem?_getD,List.getElem?_eq_getElem hk,Option.getD_some,e] at h2
 omega
theorem rindex_any (p:Option Addr) (c n i:Nat) (s:List Nat) (w:World) (hn:n≤4) (hs:Hid (s.length=n)) (hsb:Hid (∀ x ∈ s,x≤1024)) (hi:Hid (i<prod s)) (h4:prod s≤4096) (hp:RdN w p s) :
  Calls Tryz.prog 39 #[.slice p n c,.int .i64 (i:Int)] w fun e w'=>e=.returned (.slice (some ⟨w.heap.size,0,none⟩) n n)∧w'.heap[w.heap.size]?=some (.cells (ixC (ixOf s i)) 3 (0,0))∧Below w.heap.size w w':=by
 have HP:=Lib.hid hp
 have hni:(n:Int)≤4:=by omega
 have hmk:=fun W=>make_ints n (by omega) W
 have HI4:Hid (i≤4096):=Lib.hid (by have:=hi.out;omega)
 have HIX:Hid ((ixOf s i).length=n):=Lib.hid (by rw [ixOf_len,hs.out])
 obtain ⟨g,HG⟩:∃ g,Hid (g=w.heap.size):=⟨_,rfl⟩
 obtain ⟨W1,HW1⟩:∃ W1,Hid (w.alloc (.cells (ixC (zn n)) 3)=W1):=⟨_,Lib.hid rfl⟩
 have HB1:Hid (Below w.heap.size w W1):=Lib.hid (by rw [← HW1.out];exact (Below.refl _ _).alloc (Nat.le_refl _) _)
 have HG1:Hid (W1.heap[g]?=some (.cells (ixC (zn n)) 3 (0,0))):=Lib.hid (by rw [← HW1.out,HG.out];exact World.alloc_heap_new _ _)
 clear hp h4
 go_enter Tryz.func39,Tryz.ntmps39
 go_wp2_with fail
 rw [HW1.out,← HG.out]
 clear hmk
 go_loopw [1,6] (fun mv kv wr=>∃ (j m:Nat) (t:Int),j≤n∧kv=.int .i64 t∧mv=.int .i64 (m:Int)∧t=(j:Int)-1∧Hid (m=i/prod (s.drop j))∧Hid (wr.heap[g]?=some (.cells (ixC (zn j++(ixOf s i).drop j)) 3 (0,0)))∧Hid (W1.grownBy wr (some g))) (fun _ kv _=>(intOf kv+1).toNat)
 case atStart=>exact ⟨n,i,_,Nat.le_refl _,rfl,rfl,rfl,Lib.hid (by rw [List.drop_of_length_le (by rw [hs.out];omega)];simp [prod]),Lib.hid (by rw [List.drop_of_length_le (by rw [HIX.out];omega),List.append_nil];exact HG1.out),Lib.hid ⟨rfl,rfl,rfl,Nat.le_refl _,fun _ _ _=>rfl⟩⟩
 case round =>
  obtain ⟨j,m,t,hj,rfl,rfl,ht,HM,HR,HB⟩:=hrel
  have HBW:Hid (Below w.heap.size w wr):=Lib.hid ⟨HB.out.os.trans HB1.out.os,HB.out.tape.trans HB1.out.tape,HB.out.output.trans HB1.out.output,Nat.le_trans HB1.out.size HB.out.size,fun k hk=>(HB.out.block k (Nat.lt_of_lt_of_le hk HB1.out.size) (by intro e;injection e with e;rw [e,HG.out] at hk;omega)).trans (HB1.out.block k hk)⟩
  cases j with
  | zero =>
   obtain rfl:t=-1:=by omega
   have hfin:Hid (wr.heap[w.heap.size]?=some (.cells (ixC (ixOf s i)) 3 (0,0))∧Below w.heap.size w wr):=Lib.hid ⟨by rw [← HG.out];exact HR.out,HBW.out⟩
   clear ht
   go_wp2_with fail
   go_ret
   exact ⟨by rw [HG.out];rfl,hfin.out.1,hfin.out.2⟩
  | succ k =>
   obtain rfl:t=(k:Int):=by omega
   clear ht
   have hkn:(k:Int)<(n:Int):=by omega
   obtain ⟨b1,o1,x,rfl,hb1,hc1,HX⟩:=HP.out.at (k:=k) (by rw [hs.out];omega)
   have hks:k<s.length:=by rw [hs.out];omega
   have hxp:0<x:=by
    have h1:=(ixOf_is s i hi.out).1.2 k hks
    rw [← HX.out] at h1;omega
   have hx1024:x≤1024:=by
    rw [HX.out,List.getD_eq_getElem?_getD,List.getElem?_eq_getElem hks]
    exact hsb.out _ (List.getElem_mem _)
   have hm4:m≤4096:=by
    rw [HM.out];exact Nat.le_trans (Nat.div_le_self _ _) HI4.out
   have imi:(m:Int)≤4096:=by omega
   have ixi:(x:Int)≤1024:=by omega
   have ixp:(0:Int)<(x:Int):=by omega
   have ixn:¬ (x:Int)=0:=by omega
   obtain ⟨y,HY⟩:∃ y,Hid (y=m%x):=⟨_,rfl⟩
   obtain ⟨m2,HM2⟩:∃ m2,Hid (m2=m/x):=⟨_,rfl⟩
   have hmod:(m:Int).tmod (x:Int)=(y:Int):=by rw [HY.out];exact (Int.ofNat_tmod m x).symm
   have hdiv:(m:Int).tdiv (x:Int)=(m2:Int):=by rw [HM2.out];exact (Int.ofNat_tdiv m x).symm
   have iy:(y:Int)≤4096:=by rw [HY.out];have:=Nat.mod_le m x;omega
   have im2:(m2:Int)≤4096:=by rw [HM2.out];have:=Nat.div_le_self m x;omega
   have hyx:Hid (y=(ixOf s i).getD k 0):=Lib.hid (by rw [ixOf_getD s i k hi.out hks,HY.out,HM.out,HX.out])
   have hstm:Hid (m2=i/prod (s.drop k)):=Lib.hid (by rw [prod_drop hks,Nat.mul_comm,← Nat.div_div_eq_div_mul,HM2.out,HM.out,HX.out])
   have hdr:(ixOf s i).drop k=y::(ixOf s i).drop (k+1):=by
    rw [List.drop_eq_getElem_cons (by rw [HIX.out];omega),hyx.out,List.getD_eq_getElem?_getD,List.getElem?_eq_getElem (by rw [HIX.out];omega)];rfl
   have HDR:=Lib.hid hdr
   have HZL:Hid ((zn k).length=k):=Lib.hid (by simp [zn])
   have HR0:Hid (wr.heap[g]?=some (.cells (ixC (zn k++0::(ixOf s i).drop (k+1))) 3 (0,0))):=Lib.hid (by rw [← zn_app];exact HR.out)
   have hcg:wr.cell? ⟨g,k,none⟩=some (.int .i64 0):=by
    have h:=cell_row HR0.out (k:=k) (by simp [zn])
    rw [getD_mid HZL.out] at h
    exact h
   have hfg:wr.frozen? ⟨g,k,none⟩=false:=free_row HR0.out
   have d1:wr.cell? ⟨b1,o1+k,none⟩=some (.int .i64 (x:Int)):=(HBW.out.cell (p:=⟨b1,o1+k,none⟩) hb1).trans hc1
   obtain ⟨W2,HW2⟩:∃ W2,Hid (wr.setCell ⟨g,k,none⟩ (.int .i64 (y:Int))=W2):=⟨_,Lib.hid rfl⟩
   have HR1:Hid (W2.heap[g]?=some (.cells (ixC (zn k++(ixOf s i).drop k)) 3 (0,0))):=Lib.hid (by
    rw [HDR.out,← HW2.out,← ixC_set (zn k) 0 y ((ixOf s i).drop (k+1)) HZL.out]
    exact heap_set wr g k _ _ _ HR0.out)
   have HB2:Hid (W1.grownBy W2 (some g)):=Lib.hid (HB.out.trans (by rw [← HW2.out];exact gb_set _ _ _ _))
   have d2:W2.cell? ⟨b1,o1+k,none⟩=some (.int .i64 (x:Int)):=by
    have hne:b1≠g:=by rw [HG.out];omega
    have hh:=(HB2.out.block b1 (Nat.lt_of_lt_of_le hb1 HB1.out.size) (by intro e;injection e with e;exact hne e)).trans (HB1.out.block b1 hb1)
    rw [World.cell?_of_block (a:=⟨b1,o1+k,none⟩) hh];exact hc1
   rw [← HW2.out] at d2
   clear hc1 hdr
   go_wp2_with fail
   rw [HW2.out]
   go_roundw
   case rel=>exact ⟨k,m2,_,by omega,rfl,rfl,by go_num,hstm,HR1,HB2⟩
   case measure=>simp [intOf]
end Go.Proofs.YtlcpcpmlfegejaaGreatDoor.Arr
set_option maxRecDepth 100000
set_option maxHeartbeats 800000
namespace Go.Proofs.YtlcpcpmlfegejaaGreatDoor
end Go.Proofs.YtlcpcpmlfegejaaGreatDoor
namespace Big
theorem Canon.of_last {B:Nat} {l:List Nat} (h:Dig B l) (k:Nat) (hk:l.length=k+1) (h0:l.getD k 0≠0):Canon B l:=by
 refine ⟨h,?_⟩
 rw [List.getLast?_eq_getElem?,hk,Nat.add_sub_cancel]
 rw [List.getD_eq_getElem?_getD] at h0
 intro e;rw [e] at h0;simp at h0
theorem Canon.zero_iff {B:Nat} (hB:0<B) {l:List Nat} (h:Canon B l):val B l=0↔l=[]:=by
 constructor
 ·intro h0
  cases l with
  | nil=>rfl
  | cons x t =>
   have:=h.pow_le t.length (by simp)
   have hp:0<B^t.length:=Nat.pow_pos hB
   omega
 ·rintro rfl;rfl
end Big
namespace Go.Proofs.YtlcpcpmlfegejaaGreatDoor
open Go.RowKit
end Go.Proofs.YtlcpcpmlfegejaaGreatDoor
namespace Go.Proofs.YtlcpcpmlfegejaaGreatDoor
open Go.RowKit Big
end Go.Proofs.YtlcpcpmlfegejaaGreatDoor
set_option maxRecDepth 100000
set_option maxHeartbeats 3200000
namespace Big
def B9:Nat:=1000000000
theorem B9_eq:B9=1000000000:=rfl
theorem B9_pos:0<B9:=by rw [B9_eq];omega
theorem val_shift (B j:Nat) (l:List Nat):val B (List.replicate j 0++l)=B^j*val B l:=by
 rw [val_append,val_zeros];simp
theorem Canon.shift {B:Nat} {l:List Nat} (h:Canon B l) (hl:l≠[]) (hB:0<B) (j:Nat):Canon B (List.replicate j 0++l):=by
 refine ⟨(Dig.zeros hB j).append h.1,?_⟩
 rw [List.getLast?_append]
 have h2:=h.2
 cases he:l.getLast? with
 | none=>exact absurd (List.getLast?_eq_none_iff.1 he) hl
 | some x=>rw [he] at h2;simpa using h2
theorem val_drop_D (B:Nat) (l:List Nat) (m:Nat):val B (l.drop m)=l.getD m 0+B*val B (l.drop (m+1)):=by
 by_cases h:m<l.length
 ·rw [List.drop_eq_getElem_cons h,val_cons,List.getD_eq_getElem?_getD,List.getElem?_eq_getElem h];rfl
 ·rw [List.drop_eq_nil_of_le (by omega),List.drop_eq_nil_of_le (by omega),List.getD_eq_getElem?_getD,List.getElem?_eq_none (by omega)];simp [val]
theorem val_div_pow {B:Nat} (hB:0<B) {l:List Nat} (hd:Dig B l) (m:Nat):val B l/B^m=val B (l.drop m):=by
 by_cases h:m≤l.length
 ·have h1:=val_split B l m h
  have h2:=val_lt (l.take m) (hd.take m)
  rw [List.length_take,Nat.min_eq_left h] at h2
  rw [h1,Nat.add_mul_div_left _ _ (Nat.pow_pos hB),Nat.div_eq_of_lt h2,Nat.zero_add]
 ·rw [List.drop_eq_nil_of_le (by omega)]
  have h2:=val_lt l hd
  have h3:B^l.length≤B^m:=Nat.pow_le_pow_right hB (by omega)
  rw [Nat.div_eq_of_lt (by omega)];rfl
theorem top_two {B:Nat} (hB:0<B) {l:List Nat} (hd:Dig B l) (m:Nat) (hl:l.length≤m+2):val B l/B^m=l.getD (m+1) 0*B+l.getD m 0:=by
 rw [val_div_pow hB hd,val_drop_D,val_drop_D,List.drop_eq_nil_of_le (by omega)]
 simp [val];rw [Nat.mul_comm,Nat.add_comm]
structure DivInv (B A V M j:Nat) (L:List Nat) (R:Nat):Prop where
 len:L.length=M
 dig:Dig B L
 eq:A=val B (L.drop j)*V*B^j+R
 lt:R<V*B^j
theorem DivInv.start {B A V M:Nat} (hB:0<B) (h:A<V*B^M):DivInv B A V M M (List.replicate M 0) A :=
 ⟨by simp,Dig.zeros hB M,by rw [List.drop_eq_nil_of_le (by simp)];simp [val],h⟩
theorem digit_below {B V R j:Nat} (h:R<V*B^(j+1)) (hp:0<V*B^j):R/(V*B^j)<B:=by
 rw [Nat.div_lt_iff_lt_mul hp]
 have:B*(V*B^j)=V*B^(j+1):=by rw [Nat.pow_succ];grind
 omega
theorem DivInv.step {B A V M j:Nat} {L:List Nat} {R:Nat} (hB:0<B) (hV:0<V) (h:DivInv B A V M (j+1) L R) (hj:j<M) (q:Nat) (hq:q=R/(V*B^j)) :
  DivInv B A V M j (L.set j q) (R-q*(V*B^j)):=by
 have hp:0<V*B^j:=Nat.mul_pos hV (Nat.pow_pos hB)
 have hqB:q<B:=by rw [hq];exact digit_below h.lt hp
 have hR:R=q*(V*B^j)+R%(V*B^j):=by rw [hq,Nat.mul_comm];exact (Nat.div_add_mod R _).symm
 have hsub:R-q*(V*B^j)=R%(V*B^j):=by omega
 have hjl:j<L.length:=by rw [h.len];exact hj
 refine ⟨by rw [List.length_set];exact h.len,h.dig.set j q hqB,?_,?_⟩
 ·rw [val_drop_D,List.drop_set_of_lt (by omega)]
  have hg:(L.set j q).getD j 0=q:=by rw [List.getD_eq_getElem?_getD,List.getElem?_set_self hjl];rfl
  rw [hg]
  refine quo_inv h.eq ?_
  rw [hsub]
  have:q*V*B^j=q*(V*B^j):=by rw [Nat.mul_assoc]
  omega
 ·rw [hsub];exact Nat.mod_lt _ hp
theorem DivInv.done {B A V M:Nat} {L:List Nat} {R:Nat} (h:DivInv B A V M 0 L R):val B L=A/V∧R=A%V:=by
 have h1:=h.eq
 have h2:=h.lt
 rw [Nat.pow_zero,Nat.mul_one] at h1 h2
 rw [List.drop_zero] at h1
 have hV:0<V:=by omega
 constructor
 ·rw [h1,Nat.mul_comm,Nat.mul_add_div hV,Nat.div_eq_of_lt h2];rfl
 ·rw [h1,Nat.mul_comm,Nat.mul_add_mod,Nat.mod_eq_of_lt h2]
theorem first_guess {B V R j k:Nat} {v r:List Nat} (hB:0<B) (cv:Canon B v) (hv:val B v=V) (hk:v.length=k+1) (cr:Canon B r) (hr:val B r=R) (h:R<V*B^(j+1)) :
  r.length≤j+k+2∧0<v.getD k 0∧R/(V*B^j)≤min ((r.getD (j+k+1) 0*B+r.getD (j+k) 0)/v.getD k 0) (B-1):=by
 have hlv:=val_lt v cv.1
 rw [hk,hv] at hlv
 have hlen:r.length≤j+k+2:=by
  apply Nat.le_of_not_lt;intro h1
  obtain ⟨m,hm⟩:∃ m,r.length=m+1:=⟨r.length-1,by omega⟩
  have h2:=cr.pow_le m hm
  have h3:B^(j+k+2)≤B^m:=Nat.pow_le_pow_right hB (by omega)
  have h4:V*B^(j+1)≤B^(k+1)*B^(j+1):=Nat.mul_le_mul_right _ (by omega)
  rw [← Nat.pow_add] at h4
  have h5:k+1+(j+1)=j+k+2:=by omega
  rw [h5] at h4
  omega
 have hkl:k<v.length:=by omega
 have hvt:v.getD k 0≠0:=by
  rw [List.getD_eq_getElem?_getD]
  intro e
  apply cv.2
  rw [List.getLast?_eq_getElem?,hk,Nat.add_sub_cancel,List.getElem?_eq_getElem hkl]
  rw [List.getElem?_eq_getElem hkl] at e
  simpa using e
 have hVge:v.getD k 0*B^k≤V:=by
  have h1:=val_take_succD B v k
  rw [List.take_of_length_le (by omega),hv] at h1
  rw [h1,Nat.mul_comm];omega
 have hV:0<V:=by
  have:0<v.getD k 0*B^k:=Nat.mul_pos (by omega) (Nat.pow_pos hB)
  omega
 have hp:0<V*B^j:=Nat.mul_pos hV (Nat.pow_pos hB)
 refine ⟨hlen,by omega,?_⟩
 rw [Nat.le_min]
 constructor
 ·have ht:=top_two hB cr.1 (j+k) (by omega)
  rw [hr] at ht
  rw [← ht]
  refine guess_ge (D:=V*B^j) (R:=R) (P:=B^(j+k)) (low:=R%B^(j+k)) (by omega) (Nat.div_mul_le_self _ _) ?_ ?_ (Nat.mod_lt _ (Nat.pow_pos hB))
  ·have:v.getD k 0*B^(j+k)=v.getD k 0*B^k*B^j:=by rw [Nat.mul_assoc,← Nat.pow_add,Nat.add_comm k j]
   rw [this];exact Nat.mul_le_mul_right _ hVge
  ·rw [Nat.mul_comm];exact (Nat.div_add_mod R _).symm
 ·have:=digit_below h hp;omega
theorem guess_low {D R g:Nat} (_hD:0<D) (_hq:R/D≤g) (h:R<D*g):R/D≤g-1∧0<g:=by
 have h1:R/D<g:=by rw [Nat.div_lt_iff_lt_mul _hD,Nat.mul_comm];exact h
 exact ⟨Nat.le_sub_one_of_lt h1,Nat.lt_of_le_of_lt (Nat.zero_le _) h1⟩
theorem guess_right {D R g:Nat} (hD:0<D) (hq:R/D≤g) (h:¬ R<D*g):g=R/D:=by
 have:g≤R/D:=by rw [Nat.le_div_iff_mul_le hD,Nat.mul_comm];omega
 omega
theorem scaled_end {a b s q R:Nat} (hs:0<s) (_hb:0<b) (hq:q=a*s/(b*s)) (hR:R=a*s%(b*s)):q=a/b∧R/s=a%b:=by
 subst hq hR
 constructor
 ·exact Nat.mul_div_mul_right a b hs
 ·rw [Nat.mul_mod_mul_right,Nat.mul_div_cancel _ hs]
theorem quo_places {B A V k:Nat} {v r:List Nat} (cv:Canon B v) (hv:val B v=V) (hk:v.length=k+1) (cr:Canon B r) (hr:val B r=A) (h:V≤A) :
  k+1≤r.length∧A<V*B^(r.length-(k+1)+1):=by
 have h1:v.length≤r.length:=Canon.length_le cv cr.1 (by omega)
 refine ⟨by omega,?_⟩
 have h2:=val_lt r cr.1
 have h3:=cv.pow_le k hk
 rw [hv] at h3
 have h4:B^k*B^(r.length-(k+1)+1)≤V*B^(r.length-(k+1)+1):=Nat.mul_le_mul_right _ h3
 rw [← Nat.pow_add,show k+(r.length-(k+1)+1)=r.length from by omega] at h4
 omega
theorem B9_pow (k:Nat):B9^k=10^(9*k):=by
 rw [B9_eq,show (1000000000:Nat)=10^9 from rfl,← Nat.pow_mul]
theorem less_step {B p c c' a b s z x y:Nat} (h:z+y=x+p*c) (hs:s+b+c=a+B*c'):(z+p*s)+(y+p*b)=(x+p*a)+p*B*c':=by
 have:p*(s+b+c)=p*(a+B*c'):=by rw [hs]
 grind
end Big
namespace Go.Proofs.YtlcpcpmlfegejaaGreatDoor
open Go.RowKit Big
def Nat9 (w:World) (v:Value) (x:Nat):Prop:=∃ p n c l,v=.slice p n c∧(n≤c∧(p=none→c=0))∧Rd w p n l∧Canon B9 l∧val B9 l=x
theorem Nat9.below {w w':World} {v:Value} {x:Nat} (h:Nat9 w v x) (hb:Below w.heap.size w w'):Nat9 w' v x:=by
 obtain ⟨p,n,c,l,h1,h2,h3,h4⟩:=h
 exact ⟨p,n,c,l,h1,h2,h3.below hb,h4⟩
theorem Nat9.zero (w:World):Nat9 w (.slice none 0 0) 0:=⟨none,0,0,[],rfl,⟨Nat.le_refl _,fun _=>rfl⟩,Rd.nil _ _,Canon.nil _,rfl⟩
theorem Nat9.slice {w:World} {v:Value} {x:Nat} (h:Nat9 w v x):∃ p n c,v=.slice p n c:=by
 obtain ⟨p,n,c,_,h1,_⟩:=h
 exact ⟨p,n,c,h1⟩
theorem limbs9 {l:List Nat} {x K:Nat} (h:Canon B9 l) (hx:val B9 l=x) (hK:x<B9^K):l.length≤K:=by
 apply Nat.le_of_not_lt;intro h1
 obtain ⟨k,hk⟩:∃ k,l.length=k+1:=⟨l.length-1,by omega⟩
 have h2:=h.pow_le k hk
 have h3:B9^K≤B9^k:=Nat.pow_le_pow_right B9_pos (by omega)
 omega
theorem pow9 {x K:Nat} {l:List Nat} {n:Nat} {p:Option Addr} {w:World} (hc:Canon B9 l) (hv:val B9 l=x) (hx:x<B9^K) (hl:Rd w p n l):n≤K:=by
 have:=limbs9 hc hv hx;rw [hl.len] at this;exact this
theorem Nat9.zero_iff {w:World} {p:Option Addr} {n c x:Nat} (h:Nat9 w (.slice p n c) x):n=0↔x=0:=by
 obtain ⟨p',n',c',l,h1,h2,h3,h4,h5⟩:=h
 cases h1
 have:=Canon.zero_iff B9_pos h4
 rw [h5] at this
 rw [this,← h3.len,List.length_eq_zero_iff]
def Fresh (B:Nat) (v:Value):Prop:=∀ b o n c,v=.slice (some ⟨b,o,none⟩) n c→B≤b
def Post9 (x:Nat) (w:World) (e:Ending) (w':World):Prop:=∃ v,e=.returned v∧Nat9 w' v x∧Below w.heap.size w w'∧Fresh w.heap.size v
theorem drop_zeros9 (L:List Nat) (k:Nat) (h:∀ j,k≤j→j<L.length→L.getD j 0=0):val B9 (L.drop k)=0:=by
 have:L.drop k=List.replicate (L.length-k) 0:=by
  apply List.ext_getElem
  ·simp
  ·intro i h1 h2
   have:=h (k+i) (by omega) (by simp at h1;omega)
   rw [List.getD_eq_getElem?_getD,List.getElem?_eq_getElem (by simp at h1;omega)] at this
   simpa using this
 rw [this,val_zeros]
theorem trim_post9 {p:Option Addr} {n c:Nat} {l:List Nat} {w0 w w':World} {e:Ending} (hnc:n≤c∧(p=none→c=0)) (hf:∀ b o,p=some ⟨b,o,none⟩→w0.heap.size≤b) (hl:Rd w p n l) (hd:Dig B9 l) (hb:Below w0.heap.size w0 w) (h:Trim p n c l w e w'):Post9 (val B9 l) w0 e w':=by
 obtain ⟨k,hk,rfl,rfl,hz,h0⟩:=h
 refine ⟨_,rfl,⟨p,k,c,l.take k,rfl,⟨by omega,hnc.2⟩,hl.take k hk,⟨hd.take k,?_⟩,?_⟩,hb,fun b o n' c' h=>by cases h;exact hf b o rfl⟩
 ·rcases h0 with rfl|h0
  ·simp
  ·obtain ⟨j,rfl⟩:∃ j,k=j+1:=⟨k-1,by
    have:k≠0:=by
     rintro rfl
     by_cases h1:0<n
     ·exact h0 (hz 0 (by omega) h1)
     ·apply h0;rw [List.getD_eq_getElem?_getD,List.getElem?_eq_none (by rw [hl.len];omega)];rfl
    omega⟩
   rw [List.getLast?_eq_getElem?,List.length_take,Nat.min_eq_left (by rw [hl.len];exact hk),Nat.add_sub_cancel,List.getElem?_take_of_lt (by omega)]
   rw [Nat.add_sub_cancel,List.getD_eq_getElem?_getD] at h0
   intro e1;rw [e1] at h0;exact h0 rfl
 ·rw [val_split B9 l k (by rw [hl.len];exact hk),drop_zeros9 l k (fun j h1 h2=>hz j h1 (by rw [hl.len] at h2;exact h2))]
  omega
theorem own_rd {w:World} {base n:Nat} {v:Value} {L:List Nat} (h:w.ownsRow base 137 1 v n (u64s L)):∃ p c,v=.slice p n c∧(n≤c∧(p=none→c=0))∧Rd w p n L∧∀ b o,p=some ⟨b,o,none⟩→base≤b:=by
 obtain ⟨h1,h2⟩:=h
 rw [u64s_length,Nat.mul_one] at h1
 rcases h2 with ⟨rfl,rfl⟩|⟨g,cap,cur,rfl,hg,hh,hn,hm,hs,hc⟩
 ·exact ⟨none,0,rfl,⟨Nat.le_refl _,fun _=>rfl⟩,by rw [List.eq_nil_of_length_eq_zero h1];exact Rd.nil _ _,fun b o h=>by cases h⟩
 ·refine ⟨_,cap,rfl,⟨hn,fun h=>by cases h⟩,⟨h1,?_⟩,fun b o h=>by cases h;exact hg⟩
  by_cases h0:n=0
  ·exact .inl h0
  ·refine .inr ⟨g,0,rfl,(Array.getElem?_eq_some_iff.1 hh).1,fun j hj=>?_⟩
   rw [Nat.mul_one] at hc
   have hjl:j<L.length:=by omega
   have e:cur[j]?=(u64s L)[j]?:=by
    rw [← hc,List.getElem?_take_of_lt hj,Array.getElem?_toList]
   rw [Nat.zero_add]
   simp only [World.cell?,hh]
   simp [e,u64s,List.getD_eq_getElem?_getD,hjl]
structure Acc (w wr:World) (v:Value) (L:List Nat):Prop where
 own:wr.ownsRow w.heap.size 137 1 v L.length (u64s L)
 below:Below w.heap.size w wr
theorem Acc.nil (w wr:World) (h:Below w.heap.size w wr):Acc w wr (.slice none 0 0) []:=⟨World.ownsRow_nil _ _ _ _,h⟩
theorem Acc.next {w wr w5:World} {v v5:Value} {L:List Nat} {m x:Nat} {o:Obj} (h:Acc w wr v L) (hm:m=L.length+1) (hown:w5.ownsRow w.heap.size 137 1 v5 m (u64s L++[.int .u64 (x:Int)])) (hg:(wr.alloc o).grownBy w5 v.ownBlock):Acc w w5 v5 (L++[x]):=by
 subst hm
 refine ⟨?_,?_⟩
 ·have e:u64s (L++[x])=u64s L++[.int .u64 (x:Int)]:=by simp [u64s]
  rw [e,List.length_append];exact hown
 ·exact (h.below.alloc h.below.size o).grown hg (by simp;have:=h.below.size;omega) (fun k hk=>(h.own.lt k hk).1)
theorem Acc.drewN {w wr:World} {v:Value} {L:List Nat} (h:Acc w wr v L) (k:Nat):Acc w (wr.drewN k) v L:=⟨h.own,h.below.trans (below_drewN _ _ _)⟩
theorem Acc.nat {w wr:World} {v:Value} {L:List Nat} (h:Acc w wr v L) (hc:Canon B9 L):Post9 (val B9 L) w (.returned v) wr:=by
 obtain ⟨p,c,rfl,hn,hr,hf⟩:=own_rd h.own
 exact ⟨_,rfl,⟨p,_,c,L,rfl,hn,hr,hc,rfl⟩,h.below,fun b o n c' h=>by cases h;exact hf b o rfl⟩
theorem underlying36:Tryz.prog.underlying 98=some (.slice 137):=by kernel_rfl
theorem trim_any (p:Option Addr) (n c:Nat) (l:List Nat) (w:World) (hn:n≤maxLen) (hnc:n≤c) (hl:Rd w p n l) :
  Calls Tryz.prog 151 #[.slice p n c] w (Trim p n c l w):=by
 unfold maxLen at hn
 go_enter Tryz.func151,Tryz.ntmps151
 go_wp2
 go_loop [3] (fun i=>∃ k:Nat,k≤n∧i=.int .i64 k∧∀ j,k≤j→j<n→l.getD j 0=0) (fun i=>(intOf i).toNat)
 case atStart=>exact ⟨n,Nat.le_refl _,rfl,fun j h1 h2=>by omega⟩
 case round =>
  obtain ⟨k,hk,rfl,hz⟩:=hrel
  have Hz:=hiD hz
  clear hz
  by_cases h0:k=0
  ·subst h0
   go_wp2
   go_ret
   exact ⟨0,by omega,rfl,rfl,Hz.out,.inl rfl⟩
  ·obtain ⟨b,off,d,rfl,hb,hc,hd⟩:=hl.at (k:=k-1) (by omega)
   by_cases hz:d=0
   ·subst hz
    go_wp2
    go_round
    case rel=>exact ⟨k-1,by omega,by go_num,fun j h1 h2=>by
     by_cases e:j=k-1
     ·rw [e];exact hd.out
     ·exact Hz.out j (by omega) h2⟩
    case measure=>simp [intOf];omega
   ·have hz':((d:Int)==0)=false:=by simpa using hz
    go_wp2
    go_ret
    exact ⟨k,hk,rfl,rfl,Hz.out,.inr (by rw [hd.out];exact hz)⟩
theorem natOf_step {N k:Nat} {L:List Nat} (h:k≤N∧L.length≤3∧Dig B9 L∧val B9 L+B9^L.length*k=N∧(k=0→Canon B9 L)) (hN:N<18446744073709551616) (h0:¬ k=0) :
  k/1000000000≤N∧(L++[k%1000000000]).length≤3∧Dig B9 (L++[k%1000000000])∧val B9 (L++[k%1000000000])+B9^(L++[k%1000000000]).length*(k/1000000000)=N∧(k/1000000000=0→Canon B9 (L++[k%1000000000])):=by
 obtain ⟨h1,h2,h3,h4,h5⟩:=h
 have hd:Dig B9 (L++[k%1000000000]):=h3.append (Dig.one (by rw [B9_eq];omega))
 have hl:L.length≤2:=by
  apply Nat.le_of_not_lt;intro h6
  have:L.length=3:=by omega
  rw [this] at h4
  have h7:B9^3*1≤B9^3*k:=Nat.mul_le_mul_left _ (by omega)
  have h8:B9^3=1000000000000000000000000000:=by rw [B9_eq]
  omega
 refine ⟨by omega,by simp;omega,hd,?_,?_⟩
 ·rw [val_snoc,List.length_append,List.length_singleton,Nat.pow_succ,← h4]
  have:k=k%1000000000+B9*(k/1000000000):=by rw [B9_eq];omega
  have h9:B9^L.length*k=B9^L.length*(k%1000000000+B9*(k/1000000000)):=by rw [← this]
  rw [h9];grind
 ·intro h6
  refine Canon.of_last hd L.length (by simp) ?_
  rw [List.getD_eq_getElem?_getD,List.getElem?_append_right (Nat.le_refl _),Nat.sub_self]
  simp;omega
theorem natOf_any (N:Nat) (w:World) (hN:N<18446744073709551616) :
  Calls Tryz.prog 117 #[.int .u64 N] w (Post9 N w):=by
 obtain ⟨i0,hi,hz0,hz1,hz2⟩:=info_parts info79
 have HN:=hiD hN
 clear hN
 go_enter Tryz.func117,Tryz.ntmps117
 go_wp2_with fail
 go_loopw [0,3] (fun nv ov wr=>∃ (k:Nat) (L:List Nat),nv=.int .u64 k∧Hid (k≤N∧L.length≤3∧Dig B9 L∧val B9 L+B9^L.length*k=N∧(k=0→Canon B9 L))∧Hid (Acc w wr ov L)) (fun nv _ _=>(intOf nv).toNat)
 case atStart=>exact ⟨N,[],rfl,hiD ⟨Nat.le_refl _,by simp,Dig.nil _,by simp [val],fun _=>Canon.nil _⟩,hiD (Acc.nil _ _ (Below.refl _ _))⟩
 case round =>
  obtain ⟨k,L,rfl,hinv,hacc⟩:=hrel
  obtain ⟨po,no,co,rfl⟩:∃ p n c,u3=.slice p n c:=by
   obtain ⟨p,c,h,_⟩:=own_rd hacc.out.own;exact ⟨_,_,_,h⟩
  by_cases h0:k=0
  ·subst h0
   have hfin:Hid (Post9 N w (.returned (.slice po no co)) wr):=hiD (by
    have h:=hacc.out.nat (hinv.out.2.2.2.2 rfl)
    have h2:=hinv.out.2.2.2.1
    rw [Nat.mul_zero,Nat.add_zero] at h2
    rw [← h2];exact h)
   go_wp2_with fail
   go_ret
   exact hfin.out
  ·have hlen:Hid (L.length+1≤maxLen∧(L.length+1)*8≤140737488355328∧w.heap.size≤wr.heap.size+1):=hiD (by
    have:=hinv.out.2.1
    have h:=hacc.out.below.size
    unfold maxLen;omega)
   have hstep:=hiD (natOf_step hinv.out HN.out h0)
   have hk:(0:Int)<k:=by omega
   have hkb:(k:Int)≤18446744073709551615:=by have h1:=hinv.out.1;have h2:=HN.out;omega
   go_wp2_with (at_builtin;refine wpList_append_own _ rfl (.tmp 6) (.tmp 9) 98 rfl w.heap.size 137 i0 (.int .u64 0) 1 8 underlying36 hi hz0 hz1 hz2 rfl (by decide) _ _ _ rfl ((hacc.out.own).alloc _) ⟨_,0,none⟩ 1 1 [.int .u64 ((k:Int)%1000000000)] rfl rfl (cell_one_new _ _ _) (by intro u hu;simp at hu;subst hu;rfl) hlen.out.1 hlen.out.2.1 (by simp;exact hlen.out.2.2) ?_)
   intro v5 w5 hown5 hgrow5 _
   have hnext:=hiD (hacc.out.next (x:=k%1000000000) rfl hown5 hgrow5)
   clear hown5 hgrow5
   go_wp2_with fail
   go_roundw
   case rel=>exact ⟨k/1000000000,_,rfl,hstep,hnext⟩
   case measure=>simp [intOf];omega
theorem drewN2 (w:World) (a b:Nat):∃ k,w.drewN k=(w.drewN a).drewN b:=⟨a+b,by simp only [World.drewN_drewN]⟩
theorem cmp_length9 {x y:List Nat} (hx:Canon B9 x) (hy:Canon B9 y) (h:x.length<y.length):cmp3 (val B9 x) (val B9 y)=-1∧cmp3 (val B9 y) (val B9 x)=1:=by
 have:=Canon.lt_of_length hx.1 hy h
 unfold cmp3
 constructor
 ·rw [if_pos this]
 ·rw [if_neg (by omega),if_pos this]
theorem cmp_digit9 {x y:List Nat} (hl:x.length=y.length) (hx:Dig B9 x) (k:Nat) (hk:k<x.length) (hd:x.drop (k+1)=y.drop (k+1)) (hne:x.getD k 0<y.getD k 0):cmp3 (val B9 x) (val B9 y)=-1∧cmp3 (val B9 y) (val B9 x)=1:=by
 have e1:=val_split B9 x (k+1) (by omega)
 have e2:=val_split B9 y (k+1) (by omega)
 have hky:k<y.length:=by rw [← hl];exact hk
 have g1:x.getD k 0=x[k]:=by rw [List.getD_eq_getElem?_getD,List.getElem?_eq_getElem hk];rfl
 have g2:y.getD k 0=y[k]:=by rw [List.getD_eq_getElem?_getD,List.getElem?_eq_getElem hky];rfl
 rw [g1,g2] at hne
 rw [hd] at e1
 have:=val_lt_of_digit (B:=B9) x y k hx hk hky hne
 unfold cmp3
 constructor
 ·rw [if_pos (by omega)]
 ·rw [if_neg (by omega),if_pos (by omega)]
theorem natCmp_same (p:Option Addr) (n c:Nat) (x:List Nat) (q:Option Addr) (d:Nat) (y:List Nat) (w:World) (hn:n≤most) (hx:Rd w p n x) (hy:Rd w q n y) (dx:Dig B9 x) (dy:Dig B9 y) :
  Calls Tryz.prog 121 #[.slice p n c,.slice q n d] w (CmpPost (val B9 x) (val B9 y) w):=by
 have hn1:(n:Int)≤4294967296:=by unfold most at hn;omega
 have h1:((n:Int) != n)=false:=by simp
 have hl:x.length=y.length:=by rw [hx.len,hy.len]
 have Hl:=hiD hl
 clear hl
 go_enter Tryz.func121,Tryz.ntmps121
 go_wp2
 go_loopw [5] (fun i wr=>∃ (k:Nat) (z:Int) (t:Nat),k≤n∧i=.int .i64 z∧z+1=k∧x.drop k=y.drop k∧wr=w.drewN t) (fun i _=>(intOf i+1).toNat)
 case atStart=>exact ⟨n,(n:Int)-1,0,Nat.le_refl _,rfl,by omega,by rw [List.drop_eq_nil_of_le (by rw [hx.len];omega),List.drop_eq_nil_of_le (by rw [hy.len];omega)],rfl⟩
 case round =>
  obtain ⟨k,z,t,hk,rfl,hz,hd,rfl⟩:=hrel
  have Hd:=hiD hd
  clear hd
  by_cases h0:k=0
  ·obtain rfl:z=-1:=by omega
   subst h0
   have hxy:cmp3 (val B9 x) (val B9 y)=0:=by
    have:=Hd.out;simp at this;rw [this];simp [cmp3]
   have Hxy:=hiD hxy
   clear hxy hz
   go_wp2
   go_ret
   exact ⟨by rw [Hxy.out];rfl,t,rfl⟩
  ·obtain ⟨j,rfl⟩:∃ j:Nat,z=j:=⟨z.toNat,by omega⟩
   obtain rfl:k=j+1:=by omega
   clear hz h0
   obtain ⟨b1,o1,a,rfl,hb1,hc1,ha⟩:=hx.at (k:=j) (by omega)
   obtain ⟨b2,o2,b,rfl,hb2,hc2,hb⟩:=hy.at (k:=j) (by omega)
   have g1:(w.drewN t).cell? ⟨b1,o1+j,none⟩=some (.int .u64 (a:Int)):=hc1
   have g2:(w.drewN t).cell? ⟨b2,o2+j,none⟩=some (.int .u64 (b:Int)):=hc2
   have bj:(0:Int)≤j:=by omega
   have bj2:(j:Int)<n:=by omega
   have hlx:j<x.length:=by rw [hx.len];omega
   rcases Nat.lt_trichotomy a b with hab|hab|hab
   ·have e1:decide (a<b)=true:=by simpa using hab
    have hcmp:=(cmp_digit9 Hl.out dx j hlx Hd.out (by rw [ha.out,hb.out];exact hab)).1
    have Hcmp:=hiD hcmp
    clear hcmp hab
    go_wp2
    go_quiet (fail)
    go_wp2
    go_ret
    exact ⟨by rw [Hcmp.out];rfl,drewN2 _ _ _⟩
   ·subst hab
    have e1:decide (a<a)=false:=by simp
    have hd':=drop_eq_of_succ Hl.out j hlx Hd.out (by rw [ha.out,hb.out])
    have Hd':=hiD hd'
    clear hd'
    go_wp2
    go_quiet (fail)
    go_wp2
    go_quiet (fail)
    go_wp2
    go_roundw
    case rel=>exact ⟨j,(j:Int)-1,_,by omega,rfl,by omega,Hd'.out,rfl⟩
    case measure=>simp [intOf]
   ·have e1:decide (a<b)=false:=by simp;omega
    have e2:decide (b<a)=true:=by simpa using hab
    have hcmp:=(cmp_digit9 Hl.out.symm dy j (by rw [← Hl.out];exact hlx) Hd.out.symm (by rw [ha.out,hb.out];exact hab)).2
    have Hcmp:=hiD hcmp
    clear hcmp hab
    go_wp2
    go_quiet (fail)
    go_wp2
    go_quiet (fail)
    go_wp2
    go_ret
    exact ⟨by rw [Hcmp.out];rfl,drewN3 _ _ _ _⟩
theorem natCmp_other (p:Option Addr) (n c:Nat) (x:List Nat) (q:Option Addr) (m d:Nat) (y:List Nat) (w:World) (hn:n≤most) (hm:m≤most) (hnm:n≠m) (hx:Rd w p n x) (hy:Rd w q m y) (cx:Canon B9 x) (cy:Canon B9 y) :
  Calls Tryz.prog 121 #[.slice p n c,.slice q m d] w (CmpPost (val B9 x) (val B9 y) w):=by
 have hn1:(n:Int)≤4294967296:=by unfold most at hn;omega
 have hm1:(m:Int)≤4294967296:=by unfold most at hm;omega
 have h1:((n:Int) != m)=true:=by simp;omega
 rcases Nat.lt_or_gt_of_ne hnm with h2|h2
 ·have Hc:=hiD (cmp_length9 cx cy (by rw [hx.len,hy.len];exact h2)).1
  have h3:(n:Int)<m:=by omega
  go_enter Tryz.func121,Tryz.ntmps121
  go_wp2
  go_ret
  exact ⟨by rw [Hc.out];rfl,0,rfl⟩
 ·have Hc:=hiD (cmp_length9 cy cx (by rw [hx.len,hy.len];exact h2)).2
  have h3:¬ (n:Int)<m:=by omega
  go_enter Tryz.func121,Tryz.ntmps121
  go_wp2
  go_ret
  exact ⟨by rw [Hc.out];rfl,0,rfl⟩
theorem natCmp_nat (u v:Value) (a b K:Nat) (w:World) (hK:K≤most) (ha:a<B9^K) (hb:b<B9^K) (hu:Nat9 w u a) (hv:Nat9 w v b):Calls Tryz.prog 121 #[u,v] w (CmpPost a b w):=by
 obtain ⟨p,n,c,x,rfl,h1,h2,h3,h4⟩:=hu
 obtain ⟨q,m,d,y,rfl,g1,g2,g3,g4⟩:=hv
 have hn:=pow9 h3 h4 ha h2
 have hm:=pow9 g3 g4 hb g2
 rw [← h4,← g4]
 by_cases hnm:n=m
 ·subst hnm
  exact natCmp_same p n c x q d y w (by omega) h2 g2 h3.1 g3.1
 ·exact natCmp_other p n c x q m d y w (by omega) (by omega) hnm h2 g2 h3 g3
end Go.Proofs.YtlcpcpmlfegejaaGreatDoor
