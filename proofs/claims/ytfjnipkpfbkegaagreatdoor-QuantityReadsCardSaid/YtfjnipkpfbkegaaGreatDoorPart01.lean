/- Contracts. -/
import Derived.WalkSpells
import Derived.WalkLawsBesides
import Derived.Test.YtfjnipkpfbkegaaGreatDoorShelf
import Derived.Shelf.Spec.BitsCarry
import Derived.Laws.CopyOwn
set_option maxHeartbeats 800000
set_option maxRecDepth 100000
namespace Go.Proofs.YtfjnipkpfbkegaaGreatDoor
theorem yA {p:Prop} (h:p):RowKit.Hid p:=h
end Go.Proofs.YtfjnipkpfbkegaaGreatDoor
namespace Big
def val (B:Nat):List Nat→Nat
 | []=>0
 | x::l=>x+B*val B l
def yW (B:Nat) (l:List Nat):Prop:=∀ x,x ∈ l→x<B
def zF (B:Nat) (l:List Nat):Prop:=yW B l∧l.getLast?≠some 0
theorem yl9 (B:Nat):val B []=0:=rfl
theorem ybc (B x:Nat) (l:List Nat):val B (x::l)=x+B*val B l:=rfl
theorem uE (B:Nat) (a b:List Nat):val B (a++b)=val B a+B^a.length*val B b:=by
 induction a with
 | nil=>simp [val]
 | cons x l ih=>simp only [List.cons_append,ybc,ih,List.length_cons,Nat.pow_succ];grind
theorem jY (B x:Nat) (a:List Nat):val B (a++[x])=val B a+B^a.length*x:=by
 rw [uE];simp [val]
theorem uQ (B k:Nat):val B (List.replicate k 0)=0:=by
 induction k with
 | zero=>rfl
 | succ k ih=>simp [List.replicate_succ,ybc,ih]
theorem yW.nil (B:Nat):yW B []:=by intro x h;simp at h
theorem yW.append {B:Nat} {a b:List Nat} (ha:yW B a) (hb:yW B b):yW B (a++b):=by
 intro x h;rcases List.mem_append.1 h with h|h
 ·exact ha x h
 ·exact hb x h
theorem yW.left {B:Nat} {a b:List Nat} (h:yW B (a++b)):yW B a:=fun x hx=>h x (by simp [hx])
theorem yW.right {B:Nat} {a b:List Nat} (h:yW B (a++b)):yW B b:=fun x hx=>h x (by simp [hx])
theorem yW.take {B:Nat} {l:List Nat} (h:yW B l) (k:Nat):yW B (l.take k):=fun x hx=>h x (List.mem_of_mem_take hx)
theorem yW.drop {B:Nat} {l:List Nat} (h:yW B l) (k:Nat):yW B (l.drop k):=fun x hx=>h x (List.mem_of_mem_drop hx)
theorem yW.get {B:Nat} {l:List Nat} (h:yW B l) (k:Nat) (hk:k<l.length):l[k]<B:=h _ (List.getElem_mem hk)
theorem yW.getD {B:Nat} {l:List Nat} (h:yW B l) (hB:0<B) (k:Nat):l.getD k 0<B:=by
 by_cases hk:k<l.length
 ·rw [List.getD_eq_getElem?_getD,List.getElem?_eq_getElem hk];exact h.get k hk
 ·rw [List.getD_eq_getElem?_getD,List.getElem?_eq_none (by omega)];exact hB
theorem yW.one {B x:Nat} (h:x<B):yW B [x]:=by intro y hy;simp at hy;omega
theorem yW.zeros {B:Nat} (hB:0<B) (k:Nat):yW B (List.replicate k 0):=by intro y hy;simp at hy;omega
theorem yW.set {B:Nat} {l:List Nat} (h:yW B l) (k x:Nat) (hx:x<B):yW B (l.set k x):=by
 intro y hy;rcases List.mem_or_eq_of_mem_set hy with h1|h1
 ·exact h y h1
 ·omega
theorem vT {B:Nat} (l:List Nat) (h:yW B l):val B l<B^l.length:=by
 induction l with
 | nil=>simp [val]
 | cons x l ih =>
  have h1:=ih (fun y hy=>h y (by simp [hy]))
  have h2:=h x (by simp)
  rw [ybc,List.length_cons,Nat.pow_succ,Nat.mul_comm _ B]
  have h3:B*(val B l+1)≤B*B^l.length:=Nat.mul_le_mul_left B h1
  rw [Nat.mul_add] at h3;omega
theorem yaO (B:Nat) (l:List Nat) (k:Nat) (hk:k<l.length):val B (l.take (k+1))=val B (l.take k)+B^k*l[k]:=by
 rw [List.take_succ_eq_append_getElem hk,jY];simp [List.length_take,Nat.min_eq_left (Nat.le_of_lt hk)]
theorem vR (B:Nat) (l:List Nat) (k:Nat) (hk:k≤l.length):val B l=val B (l.take k)+B^k*val B (l.drop k):=by
 conv=>lhs;rw [← List.take_append_drop k l]
 rw [uE];simp [List.length_take,Nat.min_eq_left hk]
theorem yma {B:Nat} (hB:0<B):∀ (a b:List Nat),yW B a→yW B b→a.length=b.length→val B a=val B b→a=b
 | [],[],_,_,_,_=>rfl
 | [],_::_,_,_,h,_=>by simp at h
 | _::_,[],_,_,h,_=>by simp at h
 | x::a,y::b,ha,hb,hl,hv=>by
  rw [ybc,ybc] at hv
  have hx:=ha x (by simp)
  have hy:=hb y (by simp)
  have h1:(x+B*val B a)%B=x:=by rw [Nat.add_mul_mod_self_left,Nat.mod_eq_of_lt hx]
  have h2:(y+B*val B b)%B=y:=by rw [Nat.add_mul_mod_self_left,Nat.mod_eq_of_lt hy]
  have h3:(x+B*val B a)/B=val B a:=by rw [Nat.add_mul_div_left _ _ hB,Nat.div_eq_of_lt hx];omega
  have h4:(y+B*val B b)/B=val B b:=by rw [Nat.add_mul_div_left _ _ hB,Nat.div_eq_of_lt hy];omega
  rw [hv] at h1 h3
  have e1:x=y:=h1.symm.trans h2
  have e2:a=b:=yma hB a b (fun z hz=>ha z (by simp [hz])) (fun z hz=>hb z (by simp [hz])) (by simpa using hl) (h3.symm.trans h4)
  rw [e1,e2]
theorem zF.nil (B:Nat):zF B []:=⟨yW.nil B,by simp⟩
theorem zF.of_last {B:Nat} {l:List Nat} (h:yW B l) (k:Nat) (hk:l.length=k+1) (h0:l.getD k 0≠0):zF B l:=by
 refine ⟨h,?_⟩
 rw [List.getLast?_eq_getElem?,hk,Nat.add_sub_cancel]
 rw [List.getD_eq_getElem?_getD] at h0
 intro e;rw [e] at h0;simp at h0
theorem zF.pow_le {B:Nat} {l:List Nat} (h:zF B l) (k:Nat) (hk:l.length=k+1):B^k≤val B l:=by
 have hlt:k<l.length:=by omega
 have h1:=yaO B l k hlt
 rw [List.take_of_length_le (by omega)] at h1
 have h2:l[k]≠0:=by
  intro e;apply h.2;rw [List.getLast?_eq_getElem?,hk,Nat.add_sub_cancel,List.getElem?_eq_getElem hlt,e]
 have h3:B^k*1≤B^k*l[k]:=Nat.mul_le_mul_left _ (by omega)
 omega
theorem zF.zero_iff {B:Nat} (hB:0<B) {l:List Nat} (h:zF B l):val B l=0↔l=[]:=by
 constructor
 ·intro h0
  cases l with
  | nil=>rfl
  | cons x t =>
   have:=h.pow_le t.length (by simp)
   have hp:0<B^t.length:=Nat.pow_pos hB
   omega
 ·rintro rfl;rfl
theorem zF.lt_of_length {B:Nat} {a b:List Nat} (ha:yW B a) (hb:zF B b) (h:a.length<b.length):val B a<val B b:=by
 obtain ⟨k,hk⟩:∃ k,b.length=k+1:=⟨b.length-1,by omega⟩
 have h1:=vT a ha
 have h2:=hb.pow_le k hk
 by_cases hB:B=0
 ·subst hB
  cases b with
  | nil=>simp at hk
  | cons x t=>have:=hb.1 x (by simp);omega
 ·have h3:B^a.length≤B^k:=Nat.pow_le_pow_right (by omega) (by omega)
  omega
theorem zF.length_le {B:Nat} {a b:List Nat} (ha:zF B a) (hb:yW B b) (h:val B a≤val B b):a.length≤b.length:=by
 apply Nat.le_of_not_lt;intro h1
 have:=zF.lt_of_length hb ha h1;omega
theorem zF.inj {B:Nat} (hB:0<B) {a b:List Nat} (ha:zF B a) (hb:zF B b) (h:val B a=val B b):a=b :=
 yma hB a b ha.1 hb.1 (Nat.le_antisymm (ha.length_le hb.1 (by omega)) (hb.length_le ha.1 (by omega))) h
theorem yaX {B:Nat} (a b:List Nat) (k:Nat) (ha:yW B a) (hka:k<a.length) (hkb:k<b.length) (h:a[k]<b[k]):val B (a.take (k+1))<val B (b.take (k+1)):=by
 rw [yaO B a k hka,yaO B b k hkb]
 have h1:=vT (a.take k) (ha.take k)
 rw [List.length_take,Nat.min_eq_left (by omega)] at h1
 have h2:B^k*(a[k]+1)≤B^k*b[k]:=Nat.mul_le_mul_left _ h
 rw [Nat.mul_add] at h2;omega
theorem ypm {B p c c' a b s x y z:Nat} (h:z+p*c=x+y) (hs:s+B*c'=a+b+c):(z+p*s)+(p*B)*c'=(x+p*a)+(y+p*b):=by
 have:p*s+p*B*c'=p*(s+B*c'):=by grind
 rw [Nat.add_assoc,this,hs];grind
theorem yiS {B p c c' a b s x y z:Nat} (h:z+y=x+p*c) (hs:s+b+c=a+B*c'):(z+p*s)+(y+p*b)=(x+p*a)+(p*B)*c':=by
 have h1:p*(s+b+c)=p*(a+B*c'):=by rw [hs]
 have h2:p*(s+b+c)=p*s+p*b+p*c:=by grind
 have h3:p*(a+B*c')=p*a+p*B*c':=by grind
 omega
theorem yej {B p c c' v w s z0 x y z:Nat} (h:z+p*c=x+y*w) (hs:s+B*c'=z0+v*w+c):(z+p*s)+(p*B)*c'=(x+p*z0)+(y+p*v)*w:=by
 have h1:p*(s+B*c')=p*(z0+v*w+c):=by rw [hs]
 grind
theorem yjC {B p c c' v w s z0 x y z:Nat} (h:z+y*w=x+p*c) (hs:s+v*w+c=z0+B*c'):(z+p*s)+(y+p*v)*w=(x+p*z0)+(p*B)*c':=by
 have h1:p*(s+v*w+c)=p*(z0+B*c'):=by rw [hs]
 grind
theorem yfc {q D R d top P low:Nat} (hd:0<d) (hq:q*D≤R) (hD:d*P≤D) (hR:R=top*P+low) (yae:low<P):q≤top/d:=by
 rw [Nat.le_div_iff_mul_le hd]
 apply Nat.le_of_lt_succ
 have h1:q*(d*P)≤q*D:=Nat.mul_le_mul_left q hD
 have h2:q*d*P<(top+1)*P:=by
  have:q*d*P=q*(d*P):=by grind
  rw [this]
  have:(top+1)*P=top*P+P:=by grind
  omega
 exact Nat.lt_of_mul_lt_mul_right h2
theorem ygK {X a b x y q r:Nat} (h:X=a*x+b*y) (hx:x=q*y+r):X=(q*a+b)*y+a*r:=by
 subst hx;grind
theorem yY (B:Nat) (l:List Nat) (k:Nat):val B (l.take (k+1))=val B (l.take k)+B^k*l.getD k 0:=by
 by_cases hk:k<l.length
 ·rw [yaO B l k hk,List.getD_eq_getElem?_getD,List.getElem?_eq_getElem hk];rfl
 ·rw [List.take_of_length_le (by omega),List.take_of_length_le (by omega),List.getD_eq_getElem?_getD,List.getElem?_eq_none (by omega)];simp
def yS (L:List Nat) (off n:Nat):List Nat:=(L.drop off).take n
structure Put (L:List Nat) (off n:Nat) (L':List Nat):Prop where
 length:L'.length=L.length
 before:L'.take off=L.take off
 behind:L'.drop (off+n)=L.drop (off+n)
theorem zX (L:List Nat) (off n:Nat) (h:off+n≤L.length):(yS L off n).length=n:=by simp [yS];omega
theorem ybz (L:List Nat) (off:Nat):yS L off 0=[]:=by simp [yS]
theorem yar (L:List Nat) (off n:Nat) (h:off+n<L.length):yS L off (n+1)=yS L off n++[L.getD (off+n) 0]:=by
 unfold yS
 rw [List.take_succ_eq_append_getElem (by simp;omega)]
 simp [List.getD_eq_getElem?_getD,List.getElem?_eq_getElem h]
theorem ybA (L:List Nat) (off n j:Nat) (hj:j<n):(yS L off n).getD j 0=L.getD (off+j) 0:=by
 simp [yS,List.getD_eq_getElem?_getD,List.getElem?_take_of_lt hj]
theorem ybB (L:List Nat) (off n k:Nat) (h:k≤n):(yS L off n).take k=yS L off k:=by
 simp [yS,List.take_take,Nat.min_eq_left h]
theorem GY (L:List Nat) (n:Nat) (h:n=L.length):yS L 0 n=L:=by subst h;simp [yS]
theorem Put.refl (L:List Nat) (off:Nat):Put L off 0 L:=⟨rfl,rfl,rfl⟩
theorem Put.getD {L L':List Nat} {off n:Nat} (h:Put L off n L') (j:Nat) (hj:off+n≤j):L'.getD j 0=L.getD j 0:=by
 have e:∀ M:List Nat,M.getD j 0=(M.drop (off+n)).getD (j-(off+n)) 0:=by
  intro M;rw [List.getD_eq_getElem?_getD,List.getD_eq_getElem?_getD,List.getElem?_drop];congr 2;omega
 rw [e L',e L,h.behind]
theorem Put.set {L L':List Nat} {off n:Nat} (h:Put L off n L') (x:Nat):Put L off (n+1) (L'.set (off+n) x):=by
 refine ⟨by simp [h.length],?_,?_⟩
 ·rw [List.take_set_of_le (by omega)];exact h.before
 ·rw [List.drop_set_of_lt (by omega)]
  have:=congrArg (List.drop 1) h.behind
  simpa [List.drop_drop,Nat.add_assoc,Nat.add_comm,Nat.add_left_comm] using this
theorem Put.seg_set {L L':List Nat} {off n:Nat} (h:Put L off n L') (hn:off+n<L.length) (x:Nat):yS (L'.set (off+n) x) off (n+1)=yS L' off n++[x]:=by
 rw [yar _ _ _ (by simp [h.length];exact hn)]
 congr 1
 ·unfold yS
  apply List.ext_getElem?
  intro i
  by_cases hi:i<n
  ·rw [List.getElem?_take_of_lt hi,List.getElem?_take_of_lt hi,List.getElem?_drop,List.getElem?_drop,List.getElem?_set_ne (by omega)]
  ·rw [List.getElem?_take,List.getElem?_take,if_neg hi,if_neg hi]
 ·simp [List.getD_eq_getElem?_getD,h.length,hn]
theorem Put.behind_seg {L L':List Nat} {off n:Nat} (h:Put L off n L') (o k:Nat) (ho:off+n≤o):yS L' o k=yS L o k:=by
 have e:∀ M:List Nat,yS M o k=((M.drop (off+n)).drop (o-(off+n))).take k:=by
  intro M;rw [List.drop_drop];unfold yS;congr 2;omega
 rw [e L',e L,h.behind]
theorem Put.before_seg {L L':List Nat} {off n:Nat} (h:Put L off n L') (o k:Nat) (ho:o+k≤off):yS L' o k=yS L o k:=by
 have e:∀ M:List Nat,yS M o k=((M.take off).drop o).take k:=by
  intro M;rw [List.drop_take,List.take_take];unfold yS;congr 1;omega
 rw [e L',e L,h.before]
theorem Put.trans {L L' L'':List Nat} {off n:Nat} (h:Put L off n L') (k:Put L' off n L''):Put L off n L'' :=
 ⟨k.length.trans h.length,k.before.trans h.before,k.behind.trans h.behind⟩
theorem Put.mono {L L':List Nat} {off n m:Nat} (h:Put L off n L') (hm:n≤m):Put L off m L':=by
 refine ⟨h.length,h.before,?_⟩
 have:=congrArg (List.drop (m-n)) h.behind
 rw [List.drop_drop,List.drop_drop] at this
 rwa [show off+n+(m-n)=off+m from by omega] at this
theorem Put.all {L L':List Nat} (h:L'.length=L.length) (n:Nat) (hn:n=L.length):Put L 0 n L':=by
 subst hn;exact ⟨h,by simp,by rw [List.drop_eq_nil_of_le (by omega),List.drop_eq_nil_of_le (by omega)]⟩
end Big
namespace Go.Proofs.YtfjnipkpfbkegaaGreatDoor
open Go.RowKit
theorem yck {a b:Bool} (h:a=b):Ending.returned (.bool a)=.returned (.bool b):=by rw [h]
structure Rd (w:World) (p:Option Addr) (n:Nat) (l:List Nat):Prop where
 len:l.length=n
 cell:n=0∨∃ b off,p=some ⟨b,off,none⟩∧b<w.heap.size∧∀ j,j<n→w.cell? ⟨b,off+j,none⟩=some (.int .u64 ((l.getD j 0:Nat):Int))
theorem Rd.nil (w:World) (p:Option Addr):Rd w p 0 []:=⟨rfl,.inl rfl⟩
theorem Rd.below {w w':World} {p:Option Addr} {n:Nat} {l:List Nat} (h:Rd w p n l) (hb:Below w.heap.size w w'):Rd w' p n l:=by
 refine ⟨h.len,?_⟩
 rcases h.cell with h0|⟨b,off,hp,hlt,hc⟩
 ·exact .inl h0
 ·exact .inr ⟨b,off,hp,Nat.lt_of_lt_of_le hlt hb.size,fun j hj=>(hb.cell (p:=⟨b,off+j,none⟩) hlt).trans (hc j hj)⟩
theorem Rd.opened {w:World} {p:Option Addr} {n:Nat} {l:List Nat} (h:Rd w p n l) (hn:0<n):∃ b off,p=some ⟨b,off,none⟩∧b<w.heap.size∧∀ j,j<n→w.cell? ⟨b,off+j,none⟩=some (.int .u64 ((l.getD j 0:Nat):Int)):=by
 rcases h.cell with h0|h0
 ·omega
 ·exact h0
theorem Rd.at {w:World} {p:Option Addr} {n:Nat} {l:List Nat} (h:Rd w p n l) {k:Nat} (hk:k<n):∃ b off d,p=some ⟨b,off,none⟩∧b<w.heap.size∧w.cell? ⟨b,off+k,none⟩=some (.int .u64 ((d:Nat):Int))∧Hid (l.getD k 0=d):=by
 obtain ⟨b,off,h1,h2,h3⟩:=h.opened (by omega)
 exact ⟨b,off,_,h1,h2,h3 k hk,rfl⟩
theorem Rd.take {w:World} {p:Option Addr} {n:Nat} {l:List Nat} (h:Rd w p n l) (k:Nat) (hk:k≤n):Rd w p k (l.take k):=by
 refine ⟨by simp [List.length_take,h.len,Nat.min_eq_left hk],?_⟩
 by_cases h0:k=0
 ·exact .inl h0
 ·obtain ⟨b,off,h1,h2,h3⟩:=h.opened (by omega)
  refine .inr ⟨b,off,h1,h2,fun j hj=>?_⟩
  rw [h3 j (by omega),List.getD_eq_getElem?_getD,List.getD_eq_getElem?_getD,List.getElem?_take_of_lt hj]
def jE (L:List Nat):List Value:=L.map fun d=>Value.int .u64 ((d:Nat):Int)
def jA (w:World) (g:Nat) (t:TypeId) (L:List Nat):Prop:=w.heap[g]?=some (.cells (jE L).toArray t (0,0))
theorem jA.lt {w:World} {g:Nat} {t:TypeId} {L:List Nat} (h:jA w g t L):g<w.heap.size:=(Array.getElem?_eq_some_iff.1 h).1
theorem jA.cell {w:World} {g:Nat} {t:TypeId} {L:List Nat} (h:jA w g t L) (k:Nat) (hk:k<L.length):w.cell? ⟨g,k,none⟩=some (.int .u64 ((L.getD k 0:Nat):Int)):=by
 unfold jA at h
 simp [World.cell?,h,jE,hk]
theorem jA.free {w:World} {g:Nat} {t:TypeId} {L:List Nat} (h:jA w g t L) (k:Nat):w.frozen? ⟨g,k,none⟩=false:=by
 unfold jA at h
 simp [World.frozen?,h]
theorem jA.set {w:World} {g:Nat} {t:TypeId} {L:List Nat} (h:jA w g t L) (k d:Nat):jA (w.setCell ⟨g,k,none⟩ (.int .u64 ((d:Nat):Int))) g t (L.set k d):=by
 have hlt:=h.lt
 have hv:w.heap[g]=.cells (jE L).toArray t (0,0):=(Array.getElem?_eq_some_iff.1 h).2
 unfold jA World.setCell
 rw [Array.getElem?_eq_getElem (by simpa using hlt),Array.getElem_modify]
 simp [hv,jE,List.map_set]
theorem jA.drew {w:World} {g:Nat} {t:TypeId} {L:List Nat} (h:jA w g t L):jA w.drew g t L:=h
theorem jA.rd {w:World} {g:Nat} {t:TypeId} {L:List Nat} (h:jA w g t L) (off n:Nat) (hn:off+n≤L.length):Rd w (some ⟨g,off,none⟩) n ((L.drop off).take n):=by
 refine ⟨by simp;omega,.inr ⟨g,off,rfl,h.lt,fun j hj=>?_⟩⟩
 rw [h.cell (off+j) (by omega)]
 simp [List.getD_eq_getElem?_getD,List.getElem?_take_of_lt hj]
theorem jA.rd0 {w:World} {g:Nat} {t:TypeId} {L:List Nat} (h:jA w g t L) (n:Nat) (hn:n=L.length):Rd w (some ⟨g,0,none⟩) n L:=by
 have:=h.rd 0 n (by omega)
 rwa [List.drop_zero,List.take_of_length_le (by omega)] at this
structure Only (g:Nat) (w w':World):Prop where
 os:w'.os=w.os
 tape:w'.tape=w.tape
 output:w'.output=w.output
 size:w'.heap.size=w.heap.size
 block:∀ k,k≠g→w'.heap[k]?=w.heap[k]?
theorem Only.refl (g:Nat) (w:World):Only g w w:=⟨rfl,rfl,rfl,rfl,fun _ _=>rfl⟩
theorem Only.trans {g:Nat} {a b c:World} (h:Only g a b) (k:Only g b c):Only g a c :=
 ⟨k.os.trans h.os,k.tape.trans h.tape,k.output.trans h.output,k.size.trans h.size,fun i hi=>(k.block i hi).trans (h.block i hi)⟩
theorem Only.drew {g:Nat} {a w:World} (h:Only g a w):Only g a w.drew:=⟨h.os,h.tape,h.output,h.size,h.block⟩
theorem Only.setCell {g:Nat} {a w:World} (h:Only g a w) (k:Nat) (u:Value):Only g a (w.setCell ⟨g,k,none⟩ u) :=
 h.trans ⟨rfl,rfl,rfl,by simp [World.setCell],fun i hi=>Below.heap_setCell _ _ _ _ hi⟩
theorem Only.below {g B:Nat} {a w w':World} (h:Below B a w) (ho:Only g w w') (hB:B≤g):Below B a w' :=
 h.trans ⟨ho.os,ho.tape,ho.output,by rw [ho.size];exact Nat.le_refl _,fun k hk=>ho.block k (by omega)⟩
theorem Only.rd {g:Nat} {w w':World} {p:Option Addr} {n:Nat} {l:List Nat} (ho:Only g w w') (h:Rd w p n l) (hg:n=0∨∀ b off,p=some ⟨b,off,none⟩→b≠g):Rd w' p n l:=by
 refine ⟨h.len,?_⟩
 rcases h.cell with h0|⟨b,off,hp,hlt,hc⟩
 ·exact .inl h0
 ·rcases hg with h0|hg
  ·exact .inl h0
  ·refine .inr ⟨b,off,hp,by rw [ho.size];exact hlt,fun j hj=>?_⟩
   rw [← hc j hj]
   exact World.cell?_of_block (w:=w) (ho.block b (hg b off hp))
theorem Only.row {g g':Nat} {t:TypeId} {L:List Nat} {w w':World} (ho:Only g w w') (h:jA w g' t L) (hne:g'≠g):jA w' g' t L:=(ho.block g' hne).trans h
theorem Below.row {B g:Nat} {t:TypeId} {L:List Nat} {w w':World} (hb:Below B w w') (h:jA w g t L) (hg:g<B):jA w' g t L:=(hb.block g hg).trans h
theorem vK {w:World} {base g n:Nat} {e:TypeId} (h:w.ownsRow base e 1 (.slice (some ⟨g,0,none⟩) n n) n (madeCells #[Value.int .u64 0] n).toList):jA w g e (List.replicate n 0):=by
 obtain ⟨h1,h2⟩:=h
 rcases h2 with ⟨h2,_⟩|⟨g',cap,cur,hv,hg,hh,hn,hm,hs,hc⟩
 ·cases h2
 ·simp only [Value.slice.injEq,Option.some.injEq,Addr.mk.injEq] at hv
  obtain ⟨⟨rfl,-,-⟩,-,rfl⟩:=hv
  unfold jA
  rw [hh]
  have e1:cur=(madeCells #[Value.int .u64 0] n):=by
   apply Array.ext'
   rw [← hc,List.take_of_length_le (by simp;omega)]
  have e2:madeCells #[Value.int .u64 0] n=(jE (List.replicate n 0)).toArray:=by
   apply Array.ext
   ·simp [madeCells,jE]
   ·intro i h1 h2
    simp [madeCells,jE,Nat.mod_one]
  rw [e1,e2]
theorem vA (p:Option Addr) (n c:Nat) (w:World) :
  Calls Tryz.prog 75 #[.slice p n c] w fun e w'=>e=.returned (.bool ((n:Int)==0))∧w=w':=by
 go_enter Tryz.func75,Tryz.ntmps75
 go_wp2
 go_ret
 exact ⟨rfl,rfl⟩
def yeK (p:Option Addr) (n c:Nat) (l:List Nat) (w:World) (e:Ending) (w':World):Prop :=
 ∃ k,k≤n∧e=.returned (.slice p k c)∧w=w'∧(∀ j,k≤j→j<n→l.getD j 0=0)∧(k=0∨l.getD (k-1) 0≠0)
theorem GL (p:Option Addr) (n c:Nat) (l:List Nat) (w:World) (hn:n≤maxLen) (hnc:n≤c) (hl:Rd w p n l) :
  Calls Tryz.prog 56 #[.slice p n c] w (yeK p n c l w):=by
 unfold maxLen at hn
 go_enter Tryz.func56,Tryz.ntmps56
 go_wp2
 go_loop [3] (fun i=>∃ k:Nat,k≤n∧i=.int .i64 k∧∀ j,k≤j→j<n→l.getD j 0=0) (fun i=>(intOf i).toNat)
 case atStart=>exact ⟨n,Nat.le_refl _,rfl,fun j h1 h2=>by omega⟩
 case round =>
  obtain ⟨k,hk,rfl,hz⟩:=hrel
  have Hz:=yA hz
  clear hz
  by_cases h0:k=0
  ·subst h0
   go_wp2
   go_ret
   exact ⟨0,by omega,rfl,rfl,Hz.out,.inl rfl⟩
  ·obtain ⟨b,off,d,rfl,hb,hc,hd⟩:=hl.at (k:=k-1) (by omega)
   by_cases hz:d=0
   ·subst hz
    go_wp2
    go_round
    case rel=>exact ⟨k-1,by omega,by go_num,fun j h1 h2=>by
     by_cases e:j=k-1
     ·rw [e];exact hd.out
     ·exact Hz.out j (by omega) h2⟩
    case measure=>simp [intOf];omega
   ·have hz':((d:Int)==0)=false:=by simpa using hz
    go_wp2
    go_ret
    exact ⟨k,hk,rfl,rfl,Hz.out,.inr (by rw [hd.out];exact hz)⟩
end Go.Proofs.YtfjnipkpfbkegaaGreatDoor
namespace Go.Proofs.YtfjnipkpfbkegaaGreatDoor
open Go.RowKit Big
def yC:Nat:=18446744073709551616
theorem yQ:yC=18446744073709551616:=rfl
theorem yU:0<yC:=by rw [yQ];omega
theorem ynD {x:Nat} (h:x<yC):(x:Int)≤18446744073709551615:=by rw [yQ] at h;omega
theorem yik (x y c:Nat) (hc:c≤1) (hx:x<yC) (hy:y<yC):∃ s c':Nat,Hid (s+yC*c'=x+y+c)∧s<yC∧c'≤1 ∧
  ∀ w:World,(callFunc 130 #[.int .u64 x,.int .u64 y,.int .u64 c]).run Tryz.prog w=.ok (.value (.tuple #[.int .u64 (s:Int),.int .u64 (c':Int)])) w:=by
 refine ⟨(x+y+c)%yC,(x+y+c)/yC,Nat.mod_add_div _ _,Nat.mod_lt _ yU,?_,fun w=>?_⟩
 ·have:(x+y+c)/yC<2:=by
   rw [Nat.div_lt_iff_lt_mul yU];omega
  omega
 ·rw [run_callFunc_extern Tryz.func130 (by kernel_rfl) (by kernel_rfl) (by kernel_rfl) (e:=add64Entry) (by kernel_rfl),run_add64 x y c (by omega) (by omega) (by omega) (by omega)]
  simp only [Result.andThen,yQ]
  congr 5<;>omega
theorem yoi (x y c:Nat) (hc:c≤1) (hx:x<yC) (hy:y<yC):∃ s c':Nat,Hid (s+y+c=x+yC*c')∧s<yC∧c'≤1 ∧
  ∀ w:World,(callFunc 131 #[.int .u64 x,.int .u64 y,.int .u64 c]).run Tryz.prog w=.ok (.value (.tuple #[.int .u64 (s:Int),.int .u64 (c':Int)])) w:=by
 refine ⟨(x+yC-y-c)%yC,if x<y+c then 1 else 0,?_,Nat.mod_lt _ yU,by split<;>omega,fun w=>?_⟩
 ·show _=_
  rw [yQ] at *
  split<;>omega
 ·rw [run_callFunc_extern Tryz.func131 (by kernel_rfl) (by kernel_rfl) (by kernel_rfl) (e:=Go.Proofs.sub64Entry) (by kernel_rfl),Go.Proofs.run_sub64 x y c hc]
  simp only [Result.andThen,yQ]
theorem yoj (x y:Nat) (hx:x<yC) (hy:y<yC):∃ hi lo:Nat,Hid (lo+yC*hi=x*y)∧lo<yC∧hi+2≤yC ∧
  ∀ w:World,Calls Tryz.prog 137 #[.int .u64 x,.int .u64 y] w fun e w'=>e=.returned (.tuple #[.int .u64 (hi:Int),.int .u64 (lo:Int)])∧w=w':=by
 refine ⟨x*y/yC,x*y%yC,Nat.mod_add_div _ _,Nat.mod_lt _ yU,?_,fun w=>(Go.Proofs.Tryz.bits_Mul64 x y hx hy w).mono fun e w' ⟨he,hw⟩=>⟨he,hw.symm⟩⟩
 have h1:x*y≤(yC-1)*(yC-1):=Nat.mul_le_mul (by omega) (by omega)
 have h2:(yC-1)*(yC-1)<(yC-1)*yC:=by rw [yQ];omega
 have h3:x*y/yC<yC-1:=by
  rw [Nat.div_lt_iff_lt_mul yU];omega
 omega
def yqH (L:List Nat) (g off n:Nat) (t:TypeId) (y:List Nat) (w:World) (e:Ending) (w':World):Prop :=
 ∃ L' c,Put L off n L'∧yW yC (yS L' off n)∧c≤1∧val yC (yS L' off n)+yC^n*c=val yC (yS L off n)+val yC y ∧
  e=.returned (.bool ((c:Int)==1))∧Only g w w'∧jA w' g t L'
theorem ybq (g off n cap:Nat) (t:TypeId) (L:List Nat) (q:Option Addr) (m c:Nat) (y:List Nat) (w:World) (hn:n≤maxLen) (hL:off+n≤L.length) (hm:m≤n)
  (hz:jA w g t L) (hy:Rd w q m y) (hq:m=0∨∀ b o,q=some ⟨b,o,none⟩→b≠g) (dL:yW yC (yS L off n)) (dy:yW yC y) :
  Calls Tryz.prog 104 #[.slice (some ⟨g,off,none⟩) n cap,.slice q m c] w (yqH L g off n t y w):=by
 unfold maxLen at hn
 go_enter Tryz.func104,Tryz.ntmps104
 go_wp2
 go_loopw [5,10] (fun cy i wr=>∃ (k:Nat) (L':List Nat) (d:Nat),k≤n∧i=.int .i64 k∧cy=.int .u64 d∧d≤1∧Put L off k L'∧yW yC (yS L' off k) ∧
   val yC (yS L' off k)+yC^k*d=val yC (yS L off k)+val yC (y.take k)∧Only g w wr∧jA wr g t L') (fun _ i _=>n-(intOf i).toNat)
 case atStart=>exact ⟨0,L,0,Nat.zero_le _,rfl,rfl,by omega,Put.refl _ _,by rw [ybz];exact yW.nil _,by simp [ybz,val],Only.refl _ _,hz⟩
 case round =>
  obtain ⟨k,L',d,hk,rfl,rfl,hd,zY,uI,yZ,ho,hr⟩:=hrel
  have Hval:=yA yZ
  clear yZ
  by_cases hlt:k<n
  ·have hc:=hr.cell (off+k) (by rw [zY.length];omega)
   rw [zY.getD _ (by omega)] at hc
   have hf:=hr.free (off+k)
   have dk:L.getD (off+k) 0<yC:=by rw [← ybA L off n k hlt];exact dL.getD yU k
   obtain ⟨a,ha⟩:∃ a,Hid (L.getD (off+k) 0=a):=⟨_,rfl⟩
   have hw:∃ b:Nat,Hid (y.getD k 0=b)∧b<yC:=⟨_,rfl,dy.getD yU k⟩
   obtain ⟨b,hb,ynX⟩:=hw
   rw [ha.out] at hc dk
   obtain ⟨s,c',hs,hs1,hs2,jJ⟩:=yik a b d hd dk ynX
   have yca:∀ wr',Only g w wr'→jA wr' g t (L'.set (off+k) s)→∃ (k':Nat) (L'':List Nat) (d':Nat),k'≤n∧Value.int .i64 ((k:Int)+1)=.int .i64 k'∧Value.int .u64 (c':Int)=.int .u64 d'∧d'≤1∧Put L off k' L''∧yW yC (yS L'' off k') ∧
     val yC (yS L'' off k')+yC^k'*d'=val yC (yS L off k')+val yC (y.take k')∧Only g w wr'∧jA wr' g t L'':=by
    intro wr' h1 h2
    refine ⟨k+1,L'.set (off+k) s,c',by omega,by go_num,rfl,hs2,zY.set s,?_,?_,h1,h2⟩
    ·rw [zY.seg_set (by omega)];exact uI.append (yW.one hs1)
    ·rw [zY.seg_set (by omega),yar L off k (by omega),jY,jY,yY,zX _ _ _ (by rw [zY.length];omega),zX _ _ _ (by omega),ha.out,hb.out,Nat.pow_succ]
     exact ypm Hval.out hs.out
   have Hrel:=yA yca
   clear yca
   by_cases hkm:k<m
   ·obtain ⟨b0,o0,d0,rfl,hb0,hc0,hd0⟩:=hy.at hkm
    have e0:d0=b:=by rw [← hd0.out];exact hb.out
    subst e0
    have hcy:wr.cell? ⟨b0,o0+k,none⟩=some (.int .u64 (d0:Int)):=by
     rw [← hc0]
     exact World.cell?_of_block (w:=w) (ho.block b0 ((hq.resolve_left (by omega)) b0 o0 rfl))
    go_wp2
    go_roundw
    case rel=>exact Hrel.out _ (ho.setCell _ _) (hr.set _ _)
    case measure=>simp [intOf];omega
   ·have e0:b=0:=by
     rw [← hb.out,List.getD_eq_getElem?_getD,List.getElem?_eq_none (by rw [hy.len];omega)];rfl
    subst e0
    rw [show ((0:Nat):Int)=0 from rfl] at jJ
    clear ynX hb
    go_wp2
    go_roundw
    case rel=>exact Hrel.out _ (ho.setCell _ _) (hr.set _ _)
    case measure=>simp [intOf];omega
  ·obtain rfl:k=n:=by omega
   have yZ:=Hval.out
   rw [List.take_of_length_le (by rw [hy.len];exact hm)] at yZ
   have Hv:=yA yZ
   clear yZ
   go_wp2
   go_ret
   exact ⟨L',d,zY,uI,hd,Hv.out,rfl,ho,hr⟩
def yqI (L:List Nat) (g off n:Nat) (t:TypeId) (y:List Nat) (w:World) (e:Ending) (w':World):Prop :=
 ∃ L' c,Put L off n L'∧yW yC (yS L' off n)∧c≤1∧val yC (yS L' off n)+val yC y=val yC (yS L off n)+yC^n*c ∧
  e=.returned (.tuple #[])∧Only g w w'∧jA w' g t L'
theorem yea (g off n cap:Nat) (t:TypeId) (L:List Nat) (q:Option Addr) (m c:Nat) (y:List Nat) (w:World) (hn:n≤maxLen) (hL:off+n≤L.length) (hm:m≤n)
  (hz:jA w g t L) (hy:Rd w q m y) (hq:m=0∨∀ b o,q=some ⟨b,o,none⟩→b≠g) (dL:yW yC (yS L off n)) (dy:yW yC y) :
  Calls Tryz.prog 105 #[.slice (some ⟨g,off,none⟩) n cap,.slice q m c] w (yqI L g off n t y w):=by
 unfold maxLen at hn
 go_enter Tryz.func105,Tryz.ntmps105
 go_wp2
 go_loopw [4,9] (fun cy i wr=>∃ (k:Nat) (L':List Nat) (d:Nat),k≤n∧i=.int .i64 k∧cy=.int .u64 d∧d≤1∧Put L off k L'∧yW yC (yS L' off k) ∧
   val yC (yS L' off k)+val yC (y.take k)=val yC (yS L off k)+yC^k*d∧Only g w wr∧jA wr g t L') (fun _ i _=>n-(intOf i).toNat)
 case atStart=>exact ⟨0,L,0,Nat.zero_le _,rfl,rfl,by omega,Put.refl _ _,by rw [ybz];exact yW.nil _,by simp [val],Only.refl _ _,hz⟩
 case round =>
  obtain ⟨k,L',d,hk,rfl,rfl,hd,zY,uI,yZ,ho,hr⟩:=hrel
  have Hval:=yA yZ
  clear yZ
  by_cases hlt:k<n
  ·have hc:=hr.cell (off+k) (by rw [zY.length];omega)
   rw [zY.getD _ (by omega)] at hc
   have hf:=hr.free (off+k)
   have dk:L.getD (off+k) 0<yC:=by rw [← ybA L off n k hlt];exact dL.getD yU k
   obtain ⟨a,ha⟩:∃ a,Hid (L.getD (off+k) 0=a):=⟨_,rfl⟩
   have hw:∃ b:Nat,Hid (y.getD k 0=b)∧b<yC:=⟨_,rfl,dy.getD yU k⟩
   obtain ⟨b,hb,ynX⟩:=hw
   rw [ha.out] at hc dk
   obtain ⟨s,c',hs,hs1,hs2,jJ⟩:=yoi a b d hd dk ynX
   have yca:∀ wr',Only g w wr'→jA wr' g t (L'.set (off+k) s)→∃ (k':Nat) (L'':List Nat) (d':Nat),k'≤n∧Value.int .i64 ((k:Int)+1)=.int .i64 k'∧Value.int .u64 (c':Int)=.int .u64 d'∧d'≤1∧Put L off k' L''∧yW yC (yS L'' off k') ∧
     val yC (yS L'' off k')+val yC (y.take k')=val yC (yS L off k')+yC^k'*d'∧Only g w wr'∧jA wr' g t L'':=by
    intro wr' h1 h2
    refine ⟨k+1,L'.set (off+k) s,c',by omega,by go_num,rfl,hs2,zY.set s,?_,?_,h1,h2⟩
    ·rw [zY.seg_set (by omega)];exact uI.append (yW.one hs1)
    ·rw [zY.seg_set (by omega),yar L off k (by omega),jY,jY,yY,zX _ _ _ (by rw [zY.length];omega),zX _ _ _ (by omega),ha.out,hb.out,Nat.pow_succ]
     exact yiS Hval.out hs.out
   have Hrel:=yA yca
   clear yca
   by_cases hkm:k<m
   ·obtain ⟨b0,o0,d0,rfl,hb0,hc0,hd0⟩:=hy.at hkm
    have e0:d0=b:=by rw [← hd0.out];exact hb.out
    subst e0
    have hcy:wr.cell? ⟨b0,o0+k,none⟩=some (.int .u64 (d0:Int)):=by
     rw [← hc0]
     exact World.cell?_of_block (w:=w) (ho.block b0 ((hq.resolve_left (by omega)) b0 o0 rfl))
    go_wp2
    go_roundw
    case rel=>exact Hrel.out _ (ho.setCell _ _) (hr.set _ _)
    case measure=>simp [intOf];omega
   ·have e0:b=0:=by
     rw [← hb.out,List.getD_eq_getElem?_getD,List.getElem?_eq_none (by rw [hy.len];omega)];rfl
    subst e0
    rw [show ((0:Nat):Int)=0 from rfl] at jJ
    clear ynX hb
    go_wp2
    go_roundw
    case rel=>exact Hrel.out _ (ho.setCell _ _) (hr.set _ _)
    case measure=>simp [intOf];omega
  ·obtain rfl:k=n:=by omega
   have yZ:=Hval.out
   rw [List.take_of_length_le (by rw [hy.len];exact hm)] at yZ
   have Hv:=yA yZ
   clear yZ
   go_wp2
   go_end0
   exact ⟨L',d,zY,uI,hd,Hv.out,rfl,ho,hr⟩
def yhF (L:List Nat) (g off n:Nat) (t:TypeId) (y:List Nat) (f:Nat) (w:World) (e:Ending) (w':World):Prop :=
 ∃ L' c:_,Put L off n L'∧yW yC (yS L' off n)∧c<yC∧val yC (yS L' off n)+yC^n*c=val yC (yS L off n)+val yC y*f ∧
  e=.returned (.int .u64 ((c:Nat):Int))∧Only g w w'∧jA w' g t L'
theorem yk5 {a v f lo hi c lo2 c1 s c2 B:Nat} (hm:lo+B*hi=v*f) (h1:lo2+B*c1=lo+c+0) (h2:s+B*c2=a+lo2+0):s+B*(hi+c1+c2)=a+v*f+c:=by
 rw [← hm]
 have:B*(hi+c1+c2)=B*hi+B*c1+B*c2:=by grind
 omega
theorem ypn {a v f c t s B:Nat} (h:s+B*t=a+v*f+c) (ha:a<B) (hv:v<B) (hf:f<B) (hc:c<B):t<B:=by
 obtain ⟨n,rfl⟩:∃ n,B=n+1:=⟨B-1,by omega⟩
 have h1:v*f≤n*n:=Nat.mul_le_mul (by omega) (by omega)
 apply Nat.lt_of_mul_lt_mul_left (a:=n+1)
 have h2:(n+1)*(n+1)=n*n+2*n+1:=by grind
 omega
theorem ydB (g off n cap:Nat) (t:TypeId) (L:List Nat) (q:Option Addr) (c:Nat) (y:List Nat) (f:Nat) (w:World) (hn:n≤maxLen) (hL:off+n≤L.length)
  (hz:jA w g t L) (hy:Rd w q n y) (hq:n=0∨∀ b o,q=some ⟨b,o,none⟩→b≠g) (dL:yW yC (yS L off n)) (dy:yW yC y) (df:f<yC) :
  Calls Tryz.prog 114 #[.slice (some ⟨g,off,none⟩) n cap,.slice q n c,.int .u64 f] w (yhF L g off n t y f w):=by
 unfold maxLen at hn
 go_enter Tryz.func114,Tryz.ntmps114
 go_wp2
 go_loopw [7,15] (fun cy i wr=>∃ (k:Nat) (L':List Nat) (d:Nat),k≤n∧i=.int .i64 k∧cy=.int .u64 d∧d<yC∧Put L off k L'∧yW yC (yS L' off k) ∧
   val yC (yS L' off k)+yC^k*d=val yC (yS L off k)+val yC (y.take k)*f∧Only g w wr∧jA wr g t L') (fun _ i _=>n-(intOf i).toNat)
 case atStart=>exact ⟨0,L,0,Nat.zero_le _,rfl,rfl,yU,Put.refl _ _,by rw [ybz];exact yW.nil _,by simp [val],Only.refl _ _,hz⟩
 case round =>
  obtain ⟨k,L',d,hk,rfl,rfl,hd,zY,uI,yZ,ho,hr⟩:=hrel
  have Hval:=yA yZ
  clear yZ
  by_cases hlt:k<n
  ·have hc:=hr.cell (off+k) (by rw [zY.length];omega)
   rw [zY.getD _ (by omega)] at hc
   have hf:=hr.free (off+k)
   have dk:L.getD (off+k) 0<yC:=by rw [← ybA L off n k hlt];exact dL.getD yU k
   obtain ⟨a,ha⟩:∃ a,Hid (L.getD (off+k) 0=a):=⟨_,rfl⟩
   rw [ha.out] at hc dk
   obtain ⟨b0,o0,v,rfl,hb0,hc0,hv⟩:=hy.at hlt
   have dv:v<yC:=by rw [← hv.out];exact dy.getD yU k
   have hcy:wr.cell? ⟨b0,o0+k,none⟩=some (.int .u64 (v:Int)):=by
    rw [← hc0]
    exact World.cell?_of_block (w:=w) (ho.block b0 ((hq.resolve_left (by omega)) b0 o0 rfl))
   obtain ⟨hi,lo,yaw,hlo,hhi,ycC⟩:=yoj v f dv df
   obtain ⟨lo2,c1,h1,ykD,hc1,yiq⟩:=yik lo d 0 (by omega) hlo hd
   obtain ⟨s,c2,h2,hs,hc2,jC⟩:=yik a lo2 0 (by omega) dk ykD
   have hds:=yk5 yaw.out h1.out h2.out
   have hdl:=ypn hds dk dv df hd
   have Hds:=yA hds
   clear hds
   have Hcall:=yA ycC
   clear ycC
   rw [show ((0:Nat):Int)=0 from rfl] at yiq jC
   have b1:(hi:Int)+c1≤18446744073709551615:=by rw [yQ] at hhi;omega
   have b2:(hi:Int)+c1+c2≤18446744073709551615:=by rw [yQ] at hdl;omega
   have yca:∀ wr',Only g w wr'→jA wr' g t (L'.set (off+k) s)→∃ (k':Nat) (L'':List Nat) (d':Nat),k'≤n∧Value.int .i64 ((k:Int)+1)=.int .i64 k'∧Value.int .u64 ((hi:Int)+c1+c2)=.int .u64 d'∧d'<yC∧Put L off k' L''∧yW yC (yS L'' off k') ∧
     val yC (yS L'' off k')+yC^k'*d'=val yC (yS L off k')+val yC (y.take k')*f∧Only g w wr'∧jA wr' g t L'':=by
    intro wr' g1 g2
    refine ⟨k+1,L'.set (off+k) s,hi+c1+c2,by omega,by go_num,by go_num,hdl,zY.set s,?_,?_,g1,g2⟩
    ·rw [zY.seg_set (by omega)];exact uI.append (yW.one hs)
    ·rw [zY.seg_set (by omega),yar L off k (by omega),jY,jY,yY,zX _ _ _ (by rw [zY.length];omega),zX _ _ _ (by omega),ha.out,hv.out,Nat.pow_succ]
     exact yej Hval.out Hds.out
   have Hrel:=yA yca
   clear yca
   go_wp2_with (go_at_call 137;refine (Hcall.out _).mono ?_;rintro e w' ⟨rfl,rfl⟩)
   go_roundw
   case rel=>exact Hrel.out _ (ho.setCell _ _) (hr.set _ _)
   case measure=>simp [intOf];omega
  ·obtain rfl:k=n:=by omega
   have yZ:=Hval.out
   rw [List.take_of_length_le (by rw [hy.len];omega)] at yZ
   have Hv:=yA yZ
   clear yZ
   go_wp2
   go_ret
   exact ⟨L',d,zY,uI,hd,Hv.out,rfl,ho,hr⟩
def ydC (L:List Nat) (g off n:Nat) (t:TypeId) (y:List Nat) (f:Nat) (w:World) (e:Ending) (w':World):Prop :=
 ∃ L' c:_,Put L off n L'∧yW yC (yS L' off n)∧c≤1∧val yC (yS L' off n)+val yC y*f=val yC (yS L off n)+yC^n*c ∧
  e=.returned (.bool (((c:Nat):Int)==1))∧Only g w w'∧jA w' g t L'
theorem yfF {z v f lo hi d lo2 c1 s c2 B:Nat} (hm:lo+B*hi=v*f) (h1:lo2+B*c1=lo+d+0) (h2:s+lo2+0=z+B*c2):s+v*f+d=z+B*(hi+c1+c2):=by
 rw [← hm]
 have:B*(hi+c1+c2)=B*hi+B*c1+B*c2:=by grind
 omega
theorem yhG {z v f d t s B:Nat} (h:s+v*f+d=z+B*t) (hs:s<B) (hv:v<B) (hf:f<B) (hd:d<B):t<B:=by
 obtain ⟨n,rfl⟩:∃ n,B=n+1:=⟨B-1,by omega⟩
 have h1:v*f≤n*n:=Nat.mul_le_mul (by omega) (by omega)
 apply Nat.lt_of_mul_lt_mul_left (a:=n+1)
 have h2:(n+1)*(n+1)=n*n+2*n+1:=by grind
 omega
theorem ybu (g off n cap:Nat) (t:TypeId) (L:List Nat) (q:Option Addr) (c:Nat) (y:List Nat) (f:Nat) (w:World) (hn:n+1≤maxLen) (hL:off+(n+1)≤L.length)
  (hz:jA w g t L) (hy:Rd w q n y) (hq:n=0∨∀ b o,q=some ⟨b,o,none⟩→b≠g) (dL:yW yC (yS L off (n+1))) (dy:yW yC y) (df:f<yC) :
  Calls Tryz.prog 166 #[.slice (some ⟨g,off,none⟩) (n+1) cap,.slice q n c,.int .u64 f] w (ydC L g off (n+1) t y f w):=by
 unfold maxLen at hn
 go_enter Tryz.func166,Tryz.ntmps166
 go_wp2
 go_loopw [7,15] (fun cy i wr=>∃ (k:Nat) (L':List Nat) (d:Nat),k≤n∧i=.int .i64 k∧cy=.int .u64 d∧d<yC∧Put L off k L'∧yW yC (yS L' off k) ∧
   val yC (yS L' off k)+val yC (y.take k)*f=val yC (yS L off k)+yC^k*d∧Only g w wr∧jA wr g t L') (fun _ i _=>n-(intOf i).toNat)
 case atStart=>exact ⟨0,L,0,Nat.zero_le _,rfl,rfl,yU,Put.refl _ _,by rw [ybz];exact yW.nil _,by simp [val],Only.refl _ _,hz⟩
 case round =>
  obtain ⟨k,L',d,hk,rfl,rfl,hd,zY,uI,yZ,ho,hr⟩:=hrel
  have Hval:=yA yZ
  clear yZ
  have hc:=hr.cell (off+k) (by rw [zY.length];omega)
  rw [zY.getD _ (by omega)] at hc
  have hf:=hr.free (off+k)
  have dk:L.getD (off+k) 0<yC:=by rw [← ybA L off (n+1) k (by omega)];exact dL.getD yU k
  obtain ⟨a,ha⟩:∃ a,Hid (L.getD (off+k) 0=a):=⟨_,rfl⟩
  rw [ha.out] at hc dk
  by_cases hlt:k<n
  ·obtain ⟨b0,o0,v,rfl,hb0,hc0,hv⟩:=hy.at hlt
   have dv:v<yC:=by rw [← hv.out];exact dy.getD yU k
   have hcy:wr.cell? ⟨b0,o0+k,none⟩=some (.int .u64 (v:Int)):=by
    rw [← hc0]
    exact World.cell?_of_block (w:=w) (ho.block b0 ((hq.resolve_left (by omega)) b0 o0 rfl))
   obtain ⟨hi,lo,yaw,hlo,hhi,ycC⟩:=yoj v f dv df
   obtain ⟨lo2,c1,h1,ykD,hc1,yiq⟩:=yik lo d 0 (by omega) hlo hd
   obtain ⟨s,c2,h2,hs,hc2,jC⟩:=yoi a lo2 0 (by omega) dk ykD
   have hds:=yfF yaw.out h1.out h2.out
   have hdl:=yhG hds hs dv df hd
   have Hds:=yA hds
   clear hds
   have Hcall:=yA ycC
   clear ycC
   rw [show ((0:Nat):Int)=0 from rfl] at yiq jC
   have b1:(hi:Int)+c1≤18446744073709551615:=by rw [yQ] at hhi;omega
   have b2:(hi:Int)+c1+c2≤18446744073709551615:=by rw [yQ] at hdl;omega
   have yca:∀ wr',Only g w wr'→jA wr' g t (L'.set (off+k) s)→∃ (k':Nat) (L'':List Nat) (d':Nat),k'≤n∧Value.int .i64 ((k:Int)+1)=.int .i64 k'∧Value.int .u64 ((hi:Int)+c1+c2)=.int .u64 d'∧d'<yC∧Put L off k' L''∧yW yC (yS L'' off k') ∧
     val yC (yS L'' off k')+val yC (y.take k')*f=val yC (yS L off k')+yC^k'*d'∧Only g w wr'∧jA wr' g t L'':=by
    intro wr' g1 g2
    refine ⟨k+1,L'.set (off+k) s,hi+c1+c2,by omega,by go_num,by go_num,hdl,zY.set s,?_,?_,g1,g2⟩
    ·rw [zY.seg_set (by omega)];exact uI.append (yW.one hs)
    ·rw [zY.seg_set (by omega),yar L off k (by omega),jY,jY,yY,zX _ _ _ (by rw [zY.length];omega),zX _ _ _ (by omega),ha.out,hv.out,Nat.pow_succ]
     exact yjC Hval.out Hds.out
   have Hrel:=yA yca
   clear yca
   go_wp2_with (go_at_call 137;refine (Hcall.out _).mono ?_;rintro e w' ⟨rfl,rfl⟩)
   go_roundw
   case rel=>exact Hrel.out _ (ho.setCell _ _) (hr.set _ _)
   case measure=>simp [intOf];omega
  ·obtain rfl:k=n:=by omega
   obtain ⟨s,c2,h2,hs,hc2,jC⟩:=yoi a d 0 (by omega) dk hd
   rw [show ((0:Nat):Int)=0 from rfl] at jC
   have yE:∀ wr',Only g w wr'→jA wr' g t (L'.set (off+k) s)→ydC L g off (k+1) t y f w (.returned (.bool ((c2:Int)==1))) wr':=by
    intro wr' g1 g2
    refine ⟨L'.set (off+k) s,c2,zY.set s,?_,hc2,?_,rfl,g1,g2⟩
    ·rw [zY.seg_set (by omega)];exact uI.append (yW.one hs)
    ·have yZ:=Hval.out
     rw [List.take_of_length_le (by rw [hy.len];omega)] at yZ
     rw [zY.seg_set (by omega),yar L off k (by omega),jY,jY,zX _ _ _ (by rw [zY.length];omega),zX _ _ _ (by omega),ha.out,Nat.pow_succ]
     have:=yiS (y:=val yC y*f) (b:=0) yZ (show s+0+d=a+yC*c2 by have:=h2.out;omega)
     simpa using this
   have Hfin:=yA yE
   clear yE
   go_wp2
   go_ret
   exact Hfin.out _ (ho.setCell _ _) (hr.set _ _)
def yH (w:World) (v:Value) (x:Nat):Prop:=∃ p n c l,v=.slice p n c∧n≤c∧Rd w p n l∧zF yC l∧val yC l=x
theorem yH.below {w w':World} {v:Value} {x:Nat} (h:yH w v x) (hb:Below w.heap.size w w'):yH w' v x:=by
 obtain ⟨p,n,c,l,h1,h2,h3,h4⟩:=h
 exact ⟨p,n,c,l,h1,h2,h3.below hb,h4⟩
theorem yH.zero (w:World):yH w (.slice none 0 0) 0:=⟨none,0,0,[],rfl,Nat.le_refl _,Rd.nil _ _,zF.nil _,rfl⟩
theorem yiT {l:List Nat} {x K:Nat} (h:zF yC l) (hx:val yC l=x) (hK:x<yC^K):l.length≤K:=by
 apply Nat.le_of_not_lt;intro h1
 obtain ⟨k,hk⟩:∃ k,l.length=k+1:=⟨l.length-1,by omega⟩
 have h2:=h.pow_le k hk
 have h3:yC^K≤yC^k:=Nat.pow_le_pow_right yU (by omega)
 omega
def zI (x:Nat) (w:World) (e:Ending) (w':World):Prop:=∃ v,e=.returned v∧yH w' v x∧Below w.heap.size w w'
theorem yc8 (L:List Nat) (k:Nat) (h:∀ j,k≤j→j<L.length→L.getD j 0=0):val yC (L.drop k)=0:=by
 have:L.drop k=List.replicate (L.length-k) 0:=by
  apply List.ext_getElem
  ·simp
  ·intro i h1 h2
   have:=h (k+i) (by omega) (by simp at h1;omega)
   rw [List.getD_eq_getElem?_getD,List.getElem?_eq_getElem (by simp at h1;omega)] at this
   simpa using this
 rw [this,uQ]
theorem yiU {p:Option Addr} {n c:Nat} {l:List Nat} {w0 w w':World} {e:Ending} (hnc:n≤c) (hl:Rd w p n l) (hd:yW yC l) (hb:Below w0.heap.size w0 w) (h:yeK p n c l w e w'):zI (val yC l) w0 e w':=by
 obtain ⟨k,hk,rfl,rfl,hz,h0⟩:=h
 refine ⟨_,rfl,⟨p,k,c,l.take k,rfl,by omega,hl.take k hk,⟨hd.take k,?_⟩,?_⟩,hb⟩
 ·rcases h0 with rfl|h0
  ·simp
  ·obtain ⟨j,rfl⟩:∃ j,k=j+1:=⟨k-1,by
    have:k≠0:=by
     rintro rfl
     by_cases h1:0<n
     ·exact h0 (hz 0 (by omega) h1)
     ·apply h0;rw [List.getD_eq_getElem?_getD,List.getElem?_eq_none (by rw [hl.len];omega)];rfl
    omega⟩
   rw [List.getLast?_eq_getElem?,List.length_take,Nat.min_eq_left (by rw [hl.len];exact hk),Nat.add_sub_cancel,List.getElem?_take_of_lt (by omega)]
   rw [Nat.add_sub_cancel,List.getD_eq_getElem?_getD] at h0
   intro e1;rw [e1] at h0;exact h0 rfl
 ·rw [vR yC l k (by rw [hl.len];exact hk),yc8 l k (fun j h1 h2=>hz j h1 (by rw [hl.len] at h2;exact h2))]
  omega
theorem GM (p:Option Addr) (n c:Nat) (l:List Nat) (w0 w:World) (hn:n≤maxLen) (hnc:n≤c) (hl:Rd w p n l) (hd:yW yC l) (hb:Below w0.heap.size w0 w) :
  Calls Tryz.prog 56 #[.slice p n c] w (zI (val yC l) w0) :=
 (GL p n c l w hn hnc hl).mono fun _ _ h=>yiU hnc hl hd hb h
theorem yiV {B n s c a b:Nat} (h:s+B^(n+1)*c=a+b) (ha:a<B^n) (hb:b<B^n) (hB:2≤B):s=a+b∧c=0:=by
 have h1:2*B^n≤B^(n+1):=by rw [Nat.pow_succ,Nat.mul_comm];exact Nat.mul_le_mul_left _ hB
 have h2:c=0:=by
  apply Nat.eq_zero_of_not_pos;intro hc
  have:B^(n+1)*1≤B^(n+1)*c:=Nat.mul_le_mul_left _ hc
  omega
 subst h2;exact ⟨by omega,rfl⟩
theorem jB (L:List Nat):(jE L).length=L.length:=by simp [jE]
theorem ybd (L:List Nat):∀ v ∈ jE L,v.oneCell'=true:=by
 intro v hv;simp only [jE,List.mem_map] at hv;obtain ⟨d,_,rfl⟩:=hv;rfl
theorem ybr (L l:List Nat) (off:Nat) (cs:List Value) (h:cs=jE l):splice (jE L) off cs=jE (splice L off l):=by
 subst h;simp [splice,jE]
theorem Rd.cells {w:World} {p:Option Addr} {n:Nat} {l:List Nat} (h:Rd w p n l) (hn:0<(jE l).length):∃ ad,p=some ad∧∀ j v,(jE l)[j]?=some v→w.cell? (ad.add j)=some v:=by
 rw [jB,h.len] at hn
 obtain ⟨b,off,h1,_,h3⟩:=h.opened hn
 refine ⟨_,h1,fun j v hv=>?_⟩
 obtain ⟨hj,rfl⟩:=List.getElem?_eq_some_iff.1 hv
 rw [jB,h.len] at hj
 have:=h3 j hj
 have e:(⟨b,off,none⟩:Addr).add j=⟨b,off+j,none⟩:=by
  simp only [Addr.add];split
  ·rename_i h0;subst h0;rfl
  ·rfl
 rw [e,this]
 have hjl:j<l.length:=by rw [h.len];exact hj
 simp [jE,List.getD_eq_getElem?_getD,List.getElem?_eq_getElem hjl]
theorem GA:(Tryz.prog.info? 100).map (fun i=>(i.zero,i.size,i.bytes))=some (some (.int .u64 0),1,8):=by kernel_rfl
theorem ybs (l:List Nat) (n:Nat) (_:l.length≤n):splice (List.replicate n 0) 0 l=l++List.replicate (n-l.length) 0:=by simp [splice]
def yT:Nat:=4294967296
theorem yqJ (p:Option Addr) (n c:Nat) (x:List Nat) (q:Option Addr) (m d:Nat) (y:List Nat) (w:World) (hn0:n≤yT) (hmn:m≤n) (hx:Rd w p n x) (hy:Rd w q m y) (dx:yW yC x) (dy:yW yC y) :
  Calls Tryz.prog 78 #[.slice p n c,.slice q m d] w (zI (val yC x+val yC y) w):=by
 obtain ⟨i0,hi,hz0,hz1,hz2⟩:=info_parts GA
 have hn:(n:Int)≤4294967296:=by unfold yT at hn0;omega
 go_enter Tryz.func78,Tryz.ntmps78
 go_wp2_with (at_make;refine wpList_make_full _ rfl _ _ 62 rfl w.heap.size 100 i0 (.int .u64 0) 1 Tryz.underlying62 hi hz0 hz1 _ _ _ _ (n+1) rfl rfl (by omega) (by omega) ?b2 ?b3 (Nat.le_refl _) ?_)
 case b2=>rw [hz2];unfold yT at hn0;omega
 case b3=>unfold maxLen;unfold yT at hn0;omega
 intro w1 jH jT
 have hr1:jA w1 w.heap.size 100 (List.replicate (n+1) 0):=vK jH
 have hb1:Below w.heap.size w w1:=(Below.refl _ _).grown jT (Nat.le_refl _) (fun k h=>by cases h)
 have hx1:=hx.below hb1
 clear jH jT
 go_wp2_with (refine wpList_copy_splice (o:=⟨some 19,_,_,_,_,_⟩) rfl (.tmp 17) (.tmp 18) 62 62 rfl 100 Tryz.underlying62 (by kernel_rfl) _ _ _ _ _ _ rfl rfl w.heap.size 0 (jE (List.replicate (n+1) 0)) 100 hr1 (jE x) ?c1 ?c2 ?c3 (ybd x) w.heap.size w hb1 (Nat.le_refl _) ?_)
 case c1=>rw [jB,hx.len];exact (Nat.min_eq_left (by omega)).symm
 case c2=>exact fun h=>hx1.cells h
 case c3=>rw [jB,jB,hx.len,List.length_replicate];omega
 intro w2 hr2 hb2
 have hr:jA w2 w.heap.size 100 (x++List.replicate (n+1-n) 0):=by
  have:=hr2.out
  rw [ybr _ x _ _ rfl,ybs x (n+1) (by rw [hx.len];omega),hx.len] at this
  exact this
 have hlen:(x++List.replicate (n+1-n) 0).length=n+1:=by rw [List.length_append,List.length_replicate,hx.len];omega
 have uI:yW yC (x++List.replicate (n+1-n) 0):=dx.append (yW.zeros yU _)
 have yZ:val yC (x++List.replicate (n+1-n) 0)=val yC x:=by rw [uE,uQ];omega
 obtain ⟨L,hL⟩:∃ L,Hid (L=x++List.replicate (n+1-n) 0):=⟨_,yA rfl⟩
 rw [← hL.out] at hr hlen uI yZ
 have Hlen:=yA hlen
 have Hval:=yA yZ
 have hq:m=0∨∀ b o,q=some ⟨b,o,none⟩→b≠w.heap.size:=by
  rcases hy.cell with h|⟨b,o,h1,h2,_⟩
  ·exact .inl h
  ·refine .inr fun b' o' h=>?_
   rw [h1] at h;cases h;omega
 have ycb:yS L 0 (n+1)=L:=GY L (n+1) hlen.symm
 have yir:yW yC (yS L 0 (n+1)):=by rw [ycb];exact uI
 have HsegL:=yA ycb
 clear hr2 hlen yZ ycb
 have hbn:n+1≤maxLen:=by unfold maxLen;omega
 go_wp2_with fail
 refine (ybq w.heap.size 0 (n+1) (n+1) 100 L q m d y _ hbn (by rw [Hlen.out];omega) (by omega) hr (hy.below hb2) hq yir dy).mono ?_
 rintro e w3 ⟨L',cy,zY,hd',hc1,hv',rfl,ho,hr'⟩
 have hl':L'.length=n+1:=by rw [zY.length];exact Hlen.out
 rw [HsegL.out,Hval.out,GY L' (n+1) hl'.symm] at hv'
 rw [GY L' (n+1) hl'.symm] at hd'
 have hlx:=vT x dx
 have hly:=vT y dy
 rw [hx.len] at hlx
 rw [hy.len] at hly
 have ydy:yC^m≤yC^n:=Nat.pow_le_pow_right yU hmn
 obtain ⟨hs,-⟩:=yiV hv' hlx (by omega) (by rw [yQ];omega)
 have hb3:=Only.below hb2 ho (Nat.le_refl _)
 have ht:=GM (some ⟨w.heap.size,0,none⟩) (n+1) (n+1) L' w w3 hbn (Nat.le_refl _) (hr'.rd0 (n+1) hl'.symm) hd' hb3
 rw [hs] at ht
 have Ht:=yA ht
 clear ht hs hv' hl' hlx hly ydy
 go_wp2_with fail
 refine Ht.out.mono ?_
 rintro e w4 ⟨v,rfl,hv⟩
 go_wp2_with fail
 go_ret
 exact ⟨v,rfl,hv⟩
end Go.Proofs.YtfjnipkpfbkegaaGreatDoor
