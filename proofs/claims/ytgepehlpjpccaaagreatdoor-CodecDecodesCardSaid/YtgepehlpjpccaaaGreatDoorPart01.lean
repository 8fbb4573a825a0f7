/- Contracts. -/
import Derived.Test.YtgepehlpjpccaaaGreatDoorAA
import Derived.WalkSpells
import Derived.WalkLawsBesides
import Derived.Test.YtgepehlpjpccaaaGreatDoorShelf
import Derived.Shelf.Spec.BitsCarry
import Derived.Laws.CopyOwn
set_option maxHeartbeats 800000
set_option maxRecDepth 100000
namespace Go.Proofs.YtgepehlpjpccaaaGreatDoor
theorem yA {p:Prop} (h:p):RowKit.Hid p:=h
end Go.Proofs.YtgepehlpjpccaaaGreatDoor
namespace Big
open Go.Proofs.YtgepehlpjpccaaaGreatDoor
def yC (B:Nat):List Nat→Nat
 | []=>0
 | x::l=>x+B*yC B l
def yO (B:Nat) (l:List Nat):Prop:=∀ x,x ∈ l→x<B
def yV (B:Nat) (l:List Nat):Prop:=yO B l∧l.getLast?≠some 0
theorem ynl (B:Nat):yC B []=0:=rfl
theorem ybg (B x:Nat) (l:List Nat):yC B (x::l)=x+B*yC B l:=rfl
theorem vR (B:Nat) (a b:List Nat):yC B (a++b)=yC B a+B^a.length*yC B b:=by
 induction a with
 | nil=>simp [yC]
 | cons x l ih=>simp only [List.cons_append,ybg,ih,List.length_cons,Nat.pow_succ];grind
theorem jJ (B x:Nat) (a:List Nat):yC B (a++[x])=yC B a+B^a.length*x:=by
 rw [vR];simp [yC]
theorem uO (B k:Nat):yC B (List.replicate k 0)=0:=by
 induction k with
 | zero=>rfl
 | succ k ih=>simp [List.replicate_succ,ybg,ih]
theorem yO.nil (B:Nat):yO B []:=by intro x h;simp at h
theorem yO.append {B:Nat} {a b:List Nat} (ha:yO B a) (hb:yO B b):yO B (a++b):=by
 intro x h;rcases List.mem_append.1 h with h|h
 ·exact ha x h
 ·exact hb x h
theorem yO.left {B:Nat} {a b:List Nat} (h:yO B (a++b)):yO B a:=fun x hx=>h x (by simp [hx])
theorem yO.right {B:Nat} {a b:List Nat} (h:yO B (a++b)):yO B b:=fun x hx=>h x (by simp [hx])
theorem yO.take {B:Nat} {l:List Nat} (h:yO B l) (k:Nat):yO B (l.take k):=fun x hx=>h x (List.mem_of_mem_take hx)
theorem yO.drop {B:Nat} {l:List Nat} (h:yO B l) (k:Nat):yO B (l.drop k):=fun x hx=>h x (List.mem_of_mem_drop hx)
theorem yO.get {B:Nat} {l:List Nat} (h:yO B l) (k:Nat) (hk:k<l.length):l[k]<B:=h _ (List.getElem_mem hk)
theorem yO.getD {B:Nat} {l:List Nat} (h:yO B l) (hB:0<B) (k:Nat):l.getD k 0<B:=by
 by_cases hk:k<l.length
 ·rw [gD hk];exact h.get k hk
 ·rw [List.getD_eq_getElem?_getD,List.getElem?_eq_none (by omega)];exact hB
theorem yO.one {B x:Nat} (h:x<B):yO B [x]:=by intro y hy;simp at hy;omega
theorem yO.zeros {B:Nat} (hB:0<B) (k:Nat):yO B (List.replicate k 0):=by intro y hy;simp at hy;omega
theorem yO.set {B:Nat} {l:List Nat} (h:yO B l) (k x:Nat) (hx:x<B):yO B (l.set k x):=by
 intro y hy;rcases List.mem_or_eq_of_mem_set hy with h1|h1
 ·exact h y h1
 ·omega
theorem vE {B:Nat} (l:List Nat) (h:yO B l):yC B l<B^l.length:=by
 induction l with
 | nil=>simp [yC]
 | cons x l ih =>
  have h1:=ih (fun y hy=>h y (by simp [hy]))
  have h2:=h x (by simp)
  rw [ybg,List.length_cons,Nat.pow_succ,Nat.mul_comm _ B]
  have h3:B*(yC B l+1)≤B*B^l.length:=Nat.mul_le_mul_left B h1
  rw [Nat.mul_add] at h3;omega
theorem yaO (B:Nat) (l:List Nat) (k:Nat) (hk:k<l.length):yC B (l.take (k+1))=yC B (l.take k)+B^k*l[k]:=by
 rw [List.take_succ_eq_append_getElem hk,jJ];simp [List.length_take,Nat.min_eq_left (Nat.le_of_lt hk)]
theorem vB (B:Nat) (l:List Nat) (k:Nat) (hk:k≤l.length):yC B l=yC B (l.take k)+B^k*yC B (l.drop k):=by
 conv=>lhs;rw [← List.take_append_drop k l]
 rw [vR];simp [List.length_take,Nat.min_eq_left hk]
theorem ynm {B:Nat} (hB:0<B):∀ (a b:List Nat),yO B a→yO B b→a.length=b.length→yC B a=yC B b→a=b
 | [],[],_,_,_,_=>rfl
 | [],_::_,_,_,h,_=>by simp at h
 | _::_,[],_,_,h,_=>by simp at h
 | x::a,y::b,ha,hb,hl,hv=>by
  rw [ybg,ybg] at hv
  have hx:=ha x (by simp)
  have hy:=hb y (by simp)
  have h1:(x+B*yC B a)%B=x:=by rw [Nat.add_mul_mod_self_left,Nat.mod_eq_of_lt hx]
  have h2:(y+B*yC B b)%B=y:=by rw [Nat.add_mul_mod_self_left,Nat.mod_eq_of_lt hy]
  have h3:(x+B*yC B a)/B=yC B a:=by rw [Nat.add_mul_div_left _ _ hB,Nat.div_eq_of_lt hx];omega
  have h4:(y+B*yC B b)/B=yC B b:=by rw [Nat.add_mul_div_left _ _ hB,Nat.div_eq_of_lt hy];omega
  rw [hv] at h1 h3
  have e1:x=y:=h1.symm.trans h2
  have e2:a=b:=ynm hB a b (fun z hz=>ha z (by simp [hz])) (fun z hz=>hb z (by simp [hz])) (by simpa using hl) (h3.symm.trans h4)
  rw [e1,e2]
theorem yV.nil (B:Nat):yV B []:=⟨yO.nil B,by simp⟩
theorem yV.pow_le {B:Nat} {l:List Nat} (h:yV B l) (k:Nat) (hk:l.length=k+1):B^k≤yC B l:=by
 have hlt:k<l.length:=by omega
 have h1:=yaO B l k hlt
 rw [List.take_of_length_le (by omega)] at h1
 have h2:l[k]≠0:=by
  intro e;apply h.2;rw [List.getLast?_eq_getElem?,hk,Nat.add_sub_cancel,List.getElem?_eq_getElem hlt,e]
 have h3:B^k*1≤B^k*l[k]:=Nat.mul_le_mul_left _ (by omega)
 omega
theorem yV.lt_of_length {B:Nat} {a b:List Nat} (ha:yO B a) (hb:yV B b) (h:a.length<b.length):yC B a<yC B b:=by
 obtain ⟨k,hk⟩:∃ k,b.length=k+1:=⟨b.length-1,by omega⟩
 have h1:=vE a ha
 have h2:=hb.pow_le k hk
 by_cases hB:B=0
 ·subst hB
  cases b with
  | nil=>simp at hk
  | cons x t=>have:=hb.1 x (by simp);omega
 ·have h3:B^a.length≤B^k:=Nat.pow_le_pow_right (by omega) (by omega)
  omega
theorem yV.length_le {B:Nat} {a b:List Nat} (ha:yV B a) (hb:yO B b) (h:yC B a≤yC B b):a.length≤b.length:=by
 apply Nat.le_of_not_lt;intro h1
 have:=yV.lt_of_length hb ha h1;omega
theorem yV.inj {B:Nat} (hB:0<B) {a b:List Nat} (ha:yV B a) (hb:yV B b) (h:yC B a=yC B b):a=b :=
 ynm hB a b ha.1 hb.1 (Nat.le_antisymm (ha.length_le hb.1 (by omega)) (hb.length_le ha.1 (by omega))) h
theorem yaY {B:Nat} (a b:List Nat) (k:Nat) (ha:yO B a) (hka:k<a.length) (hkb:k<b.length) (h:a[k]<b[k]):yC B (a.take (k+1))<yC B (b.take (k+1)):=by
 rw [yaO B a k hka,yaO B b k hkb]
 have h1:=vE (a.take k) (ha.take k)
 rw [List.length_take,Nat.min_eq_left (by omega)] at h1
 have h2:B^k*(a[k]+1)≤B^k*b[k]:=Nat.mul_le_mul_left _ h
 rw [Nat.mul_add] at h2;omega
theorem yrk {B p c c' a b s x y z:Nat} (h:z+p*c=x+y) (hs:s+B*c'=a+b+c):(z+p*s)+(p*B)*c'=(x+p*a)+(y+p*b):=by
 have:p*s+p*B*c'=p*(s+B*c'):=by grind
 rw [Nat.add_assoc,this,hs];grind
theorem yjH {B p c c' a b s x y z:Nat} (h:z+y=x+p*c) (hs:s+b+c=a+B*c'):(z+p*s)+(y+p*b)=(x+p*a)+(p*B)*c':=by
 have h1:p*(s+b+c)=p*(a+B*c'):=by rw [hs]
 have h2:p*(s+b+c)=p*s+p*b+p*c:=by grind
 have h3:p*(a+B*c')=p*a+p*B*c':=by grind
 omega
theorem yeN {B p c c' v w s z0 x y z:Nat} (h:z+p*c=x+y*w) (hs:s+B*c'=z0+v*w+c):(z+p*s)+(p*B)*c'=(x+p*z0)+(y+p*v)*w:=by
 have h1:p*(s+B*c')=p*(z0+v*w+c):=by rw [hs]
 grind
theorem ykx {B p c c' v w s z0 x y z:Nat} (h:z+y*w=x+p*c) (hs:s+v*w+c=z0+B*c'):(z+p*s)+(y+p*v)*w=(x+p*z0)+(p*B)*c':=by
 have h1:p*(s+v*w+c)=p*(z0+B*c'):=by rw [hs]
 grind
theorem yfG {q D R d top P low:Nat} (hd:0<d) (hq:q*D≤R) (hD:d*P≤D) (hR:R=top*P+low) (GS:low<P):q≤top/d:=by
 rw [Nat.le_div_iff_mul_le hd]
 apply Nat.le_of_lt_succ
 have h1:q*(d*P)≤q*D:=Nat.mul_le_mul_left q hD
 have h2:q*d*P<(top+1)*P:=by
  have:q*d*P=q*(d*P):=by grind
  rw [this]
  have:(top+1)*P=top*P+P:=by grind
  omega
 exact Nat.lt_of_mul_lt_mul_right h2
theorem yha {X a b x y q r:Nat} (h:X=a*x+b*y) (hx:x=q*y+r):X=(q*a+b)*y+a*r:=by
 subst hx;grind
theorem yN (B:Nat) (l:List Nat) (k:Nat):yC B (l.take (k+1))=yC B (l.take k)+B^k*l.getD k 0:=by
 by_cases hk:k<l.length
 ·rw [yaO B l k hk,List.getD_eq_getElem?_getD,List.getElem?_eq_getElem hk];rfl
 ·rw [List.take_of_length_le (by omega),List.take_of_length_le (by omega),List.getD_eq_getElem?_getD,List.getElem?_eq_none (by omega)];simp
def yR (L:List Nat) (off n:Nat):List Nat:=(L.drop off).take n
structure Put (L:List Nat) (off n:Nat) (L':List Nat):Prop where
 length:L'.length=L.length
 before:L'.take off=L.take off
 behind:L'.drop (off+n)=L.drop (off+n)
theorem zM (L:List Nat) (off n:Nat) (h:off+n≤L.length):(yR L off n).length=n:=by simp [yR];omega
theorem ybU (L:List Nat) (off:Nat):yR L off 0=[]:=by simp [yR]
theorem yai (L:List Nat) (off n:Nat) (h:off+n<L.length):yR L off (n+1)=yR L off n++[L.getD (off+n) 0]:=by
 unfold yR
 rw [List.take_succ_eq_append_getElem (by simp;omega)]
 simp [List.getD_eq_getElem?_getD,List.getElem?_eq_getElem h]
theorem ybV (L:List Nat) (off n j:Nat) (hj:j<n):(yR L off n).getD j 0=L.getD (off+j) 0:=by
 simp [yR,List.getD_eq_getElem?_getD,List.getElem?_take_of_lt hj]
theorem yfH (L:List Nat) (off n k:Nat) (h:k≤n):(yR L off n).take k=yR L off k:=by
 simp [yR,List.take_take,Nat.min_eq_left h]
theorem GM (L:List Nat) (n:Nat) (h:n=L.length):yR L 0 n=L:=by subst h;simp [yR]
theorem Put.refl (L:List Nat) (off:Nat):Put L off 0 L:=⟨rfl,rfl,rfl⟩
theorem Put.getD {L L':List Nat} {off n:Nat} (h:Put L off n L') (j:Nat) (hj:off+n≤j):L'.getD j 0=L.getD j 0:=by
 have e:∀ M:List Nat,M.getD j 0=(M.drop (off+n)).getD (j-(off+n)) 0:=by
  intro M;rw [List.getD_eq_getElem?_getD,List.getD_eq_getElem?_getD,List.getElem?_drop];congr 2;omega
 rw [e L',e L,h.behind]
theorem Put.set {L L':List Nat} {off n:Nat} (h:Put L off n L') (x:Nat):Put L off (n+1) (L'.set (off+n) x):=by
 refine ⟨by simp [h.length],?_,?_⟩
 ·rw [List.take_set_of_le (by omega)];exact h.before
 ·rw [List.drop_set_of_lt (by omega)]
  have:=congrArg (List.drop 1) h.behind
  simpa [List.drop_drop,Nat.add_assoc,Nat.add_comm,Nat.add_left_comm] using this
theorem Put.seg_set {L L':List Nat} {off n:Nat} (h:Put L off n L') (hn:off+n<L.length) (x:Nat):yR (L'.set (off+n) x) off (n+1)=yR L' off n++[x]:=by
 rw [yai _ _ _ (by simp [h.length];exact hn)]
 congr 1
 ·unfold yR
  apply List.ext_getElem?
  intro i
  by_cases hi:i<n
  ·rw [List.getElem?_take_of_lt hi,List.getElem?_take_of_lt hi,List.getElem?_drop,List.getElem?_drop,List.getElem?_set_ne (by omega)]
  ·rw [List.getElem?_take,List.getElem?_take,if_neg hi,if_neg hi]
 ·simp [List.getD_eq_getElem?_getD,h.length,hn]
theorem Put.behind_seg {L L':List Nat} {off n:Nat} (h:Put L off n L') (o k:Nat) (ho:off+n≤o):yR L' o k=yR L o k:=by
 have e:∀ M:List Nat,yR M o k=((M.drop (off+n)).drop (o-(off+n))).take k:=by
  intro M;rw [List.drop_drop];unfold yR;congr 2;omega
 rw [e L',e L,h.behind]
theorem Put.before_seg {L L':List Nat} {off n:Nat} (h:Put L off n L') (o k:Nat) (ho:o+k≤off):yR L' o k=yR L o k:=by
 have e:∀ M:List Nat,yR M o k=((M.take off).drop o).take k:=by
  intro M;rw [List.drop_take,List.take_take];unfold yR;congr 1;omega
 rw [e L',e L,h.before]
theorem Put.trans {L L' L'':List Nat} {off n:Nat} (h:Put L off n L') (k:Put L' off n L''):Put L off n L'' :=
 ⟨k.length.trans h.length,k.before.trans h.before,k.behind.trans h.behind⟩
theorem Put.mono {L L':List Nat} {off n m:Nat} (h:Put L off n L') (hm:n≤m):Put L off m L':=by
 refine ⟨h.length,h.before,?_⟩
 have:=congrArg (List.drop (m-n)) h.behind
 rw [List.drop_drop,List.drop_drop] at this
 rwa [show off+n+(m-n)=off+m from by omega] at this
theorem Put.all {L L':List Nat} (h:L'.length=L.length) (n:Nat) (hn:n=L.length):Put L 0 n L':=by
 subst hn;exact ⟨h,by simp,by rw [List.drop_eq_nil_of_le (by omega),List.drop_eq_nil_of_le (by omega)]⟩
end Big
namespace Go.Proofs.YtgepehlpjpccaaaGreatDoor
open Go.RowKit
theorem yrl {a b:Bool} (h:a=b):Ending.returned (.bool a)=.returned (.bool b):=by rw [h]
structure Rd (w:World) (p:Oa) (n:Nat) (l:List Nat):Prop where
 len:l.length=n
 cell:n=0∨∃ b off,p=some ⟨b,off,none⟩∧b<w.heap.size∧∀ j,j<n→w.cell? ⟨b,off+j,none⟩=some (.int .u64 ((l.getD j 0:Nat):Int))
theorem Rd.nil (w:World) (p:Oa):Rd w p 0 []:=⟨rfl,.inl rfl⟩
theorem Rd.below {w w':World} {p:Oa} {n:Nat} {l:List Nat} (h:Rd w p n l) (hb:Be w w'):Rd w' p n l:=by
 refine ⟨h.len,?_⟩
 rcases h.cell with h0|⟨b,off,hp,hlt,hc⟩
 ·exact .inl h0
 ·exact .inr ⟨b,off,hp,Nat.lt_of_lt_of_le hlt hb.size,fun j hj=>(hb.cell (p:=⟨b,off+j,none⟩) hlt).trans (hc j hj)⟩
theorem Rd.opened {w:World} {p:Oa} {n:Nat} {l:List Nat} (h:Rd w p n l) (hn:0<n):∃ b off,p=some ⟨b,off,none⟩∧b<w.heap.size∧∀ j,j<n→w.cell? ⟨b,off+j,none⟩=some (.int .u64 ((l.getD j 0:Nat):Int)):=by
 rcases h.cell with h0|h0
 ·omega
 ·exact h0
theorem Rd.at {w:World} {p:Oa} {n:Nat} {l:List Nat} (h:Rd w p n l) {k:Nat} (hk:k<n):∃ b off d,p=some ⟨b,off,none⟩∧b<w.heap.size∧w.cell? ⟨b,off+k,none⟩=some (.int .u64 ((d:Nat):Int))∧Hid (l.getD k 0=d):=by
 obtain ⟨b,off,h1,h2,h3⟩:=h.opened (by omega)
 exact ⟨b,off,_,h1,h2,h3 k hk,rfl⟩
theorem Rd.take {w:World} {p:Oa} {n:Nat} {l:List Nat} (h:Rd w p n l) (k:Nat) (hk:k≤n):Rd w p k (l.take k):=by
 refine ⟨by simp [List.length_take,h.len,Nat.min_eq_left hk],?_⟩
 by_cases h0:k=0
 ·exact .inl h0
 ·obtain ⟨b,off,h1,h2,h3⟩:=h.opened (by omega)
  refine .inr ⟨b,off,h1,h2,fun j hj=>?_⟩
  rw [h3 j (by omega),List.getD_eq_getElem?_getD,List.getD_eq_getElem?_getD,List.getElem?_take_of_lt hj]
def zK (L:List Nat):List Value:=L.map fun d=>Value.int .u64 ((d:Nat):Int)
def zV (w:World) (g:Nat) (t:TypeId) (L:List Nat):Prop:=w.heap[g]?=some (.cells (zK L).toArray t (0,0))
theorem zV.lt {w:World} {g:Nat} {t:TypeId} {L:List Nat} (h:zV w g t L):g<w.heap.size:=(Array.getElem?_eq_some_iff.1 h).1
theorem zV.cell {w:World} {g:Nat} {t:TypeId} {L:List Nat} (h:zV w g t L) (k:Nat) (hk:k<L.length):w.cell? ⟨g,k,none⟩=some (.int .u64 ((L.getD k 0:Nat):Int)):=by
 unfold zV at h
 simp [World.cell?,h,zK,hk]
theorem zV.free {w:World} {g:Nat} {t:TypeId} {L:List Nat} (h:zV w g t L) (k:Nat):w.frozen? ⟨g,k,none⟩=false:=by
 unfold zV at h
 simp [World.frozen?,h]
theorem zV.set {w:World} {g:Nat} {t:TypeId} {L:List Nat} (h:zV w g t L) (k d:Nat):zV (w.setCell ⟨g,k,none⟩ (.int .u64 ((d:Nat):Int))) g t (L.set k d):=by
 have hlt:=h.lt
 have hv:w.heap[g]=.cells (zK L).toArray t (0,0):=(Array.getElem?_eq_some_iff.1 h).2
 unfold zV World.setCell
 rw [Array.getElem?_eq_getElem (by simpa using hlt),Array.getElem_modify]
 simp [hv,zK,List.map_set]
theorem zV.drew {w:World} {g:Nat} {t:TypeId} {L:List Nat} (h:zV w g t L):zV w.drew g t L:=h
theorem zV.rd {w:World} {g:Nat} {t:TypeId} {L:List Nat} (h:zV w g t L) (off n:Nat) (hn:off+n≤L.length):Rd w (some ⟨g,off,none⟩) n ((L.drop off).take n):=by
 refine ⟨by simp;omega,.inr ⟨g,off,rfl,h.lt,fun j hj=>?_⟩⟩
 rw [h.cell (off+j) (by omega)]
 simp [List.getD_eq_getElem?_getD,List.getElem?_take_of_lt hj]
theorem zV.rd0 {w:World} {g:Nat} {t:TypeId} {L:List Nat} (h:zV w g t L) (n:Nat) (hn:n=L.length):Rd w (some ⟨g,0,none⟩) n L:=by
 have:=h.rd 0 n (by omega)
 rwa [List.drop_zero,List.take_of_length_le (by omega)] at this
structure Only (g:Nat) (w w':World):Prop where
 os:w'.os=w.os
 tape:w'.tape=w.tape
 output:w'.output=w.output
 size:w'.heap.size=w.heap.size
 block:∀ k,k≠g→w'.heap[k]?=w.heap[k]?
theorem Only.refl (g:Nat) (w:World):Only g w w:=⟨rfl,rfl,rfl,rfl,fun _ _=>rfl⟩
theorem Only.trans {g:Nat} {a b c:World} (h:Only g a b) (k:Only g b c):Only g a c :=
 ⟨k.os.trans h.os,k.tape.trans h.tape,k.output.trans h.output,k.size.trans h.size,fun i hi=>(k.block i hi).trans (h.block i hi)⟩
theorem Only.drew {g:Nat} {a w:World} (h:Only g a w):Only g a w.drew:=⟨h.os,h.tape,h.output,h.size,h.block⟩
theorem Only.setCell {g:Nat} {a w:World} (h:Only g a w) (k:Nat) (u:Value):Only g a (w.setCell ⟨g,k,none⟩ u) :=
 h.trans ⟨rfl,rfl,rfl,by simp [World.setCell],fun i hi=>Below.heap_setCell _ _ _ _ hi⟩
theorem Only.below {g B:Nat} {a w w':World} (h:Below B a w) (ho:Only g w w') (hB:B≤g):Below B a w' :=
 h.trans ⟨ho.os,ho.tape,ho.output,by rw [ho.size];exact Nat.le_refl _,fun k hk=>ho.block k (by omega)⟩
theorem Only.rd {g:Nat} {w w':World} {p:Oa} {n:Nat} {l:List Nat} (ho:Only g w w') (h:Rd w p n l) (hg:n=0∨∀ b off,p=some ⟨b,off,none⟩→b≠g):Rd w' p n l:=by
 refine ⟨h.len,?_⟩
 rcases h.cell with h0|⟨b,off,hp,hlt,hc⟩
 ·exact .inl h0
 ·rcases hg with h0|hg
  ·exact .inl h0
  ·refine .inr ⟨b,off,hp,by rw [ho.size];exact hlt,fun j hj=>?_⟩
   rw [← hc j hj]
   exact World.cell?_of_block (w:=w) (ho.block b (hg b off hp))
theorem Only.row {g g':Nat} {t:TypeId} {L:List Nat} {w w':World} (ho:Only g w w') (h:zV w g' t L) (hne:g'≠g):zV w' g' t L:=(ho.block g' hne).trans h
theorem Below.row {B g:Nat} {t:TypeId} {L:List Nat} {w w':World} (hb:Below B w w') (h:zV w g t L) (hg:g<B):zV w' g t L:=(hb.block g hg).trans h
theorem jN {w:World} {base g n:Nat} {e:TypeId} (h:w.ownsRow base e 1 (.slice (some ⟨g,0,none⟩) n n) n (madeCells #[Value.int .u64 0] n).toList):zV w g e (List.replicate n 0):=by
 obtain ⟨h1,h2⟩:=h
 rcases h2 with ⟨h2,_⟩|⟨g',cap,cur,hv,hg,hh,hn,hm,hs,hc⟩
 ·cases h2
 ·simp only [Value.slice.injEq,Option.some.injEq,Addr.mk.injEq] at hv
  obtain ⟨⟨rfl,-,-⟩,-,rfl⟩:=hv
  unfold zV
  rw [hh]
  have e1:cur=(madeCells #[Value.int .u64 0] n):=by
   apply Array.ext'
   rw [← hc,List.take_of_length_le (by simp;omega)]
  have e2:madeCells #[Value.int .u64 0] n=(zK (List.replicate n 0)).toArray:=by
   apply Array.ext
   ·simp [madeCells,zK]
   ·intro i h1 h2
    simp [madeCells,zK,Nat.mod_one]
  rw [e1,e2]
theorem jS (p:Oa) (n c:Nat) (w:World) :
  Calls Tryz.prog 141 #[.slice p n c] w (Qp (.bool ((n:Int)==0)) w):=by
 go_in
 go_wp2
 go_ret
 exact ⟨rfl,rfl⟩
def ygv (p:Oa) (n c:Nat) (l:List Nat) (w:World) (e:Ending) (w':World):Prop :=
 ∃ k,k≤n∧e=.returned (.slice p k c)∧w=w'∧(∀ j,k≤j→j<n→l.getD j 0=0)∧(k=0∨l.getD (k-1) 0≠0)
theorem yab (p:Oa) (n c:Nat) (l:List Nat) (w:World) (hn:n≤maxLen) (hnc:n≤c) (hl:Rd w p n l) :
  Calls Tryz.prog 136 #[.slice p n c] w (ygv p n c l w):=by
 unfold maxLen at hn
 go_in
 go_wp2
 go_loop [3] (fun i=>∃ k:Nat,k≤n∧i=.int .i64 k∧∀ j,k≤j→j<n→l.getD j 0=0) (fun i=>(intOf i).toNat)
 case atStart=>exact ⟨n,Nat.le_refl _,rfl,fun j h1 h2=>by omega⟩
 case round =>
  obtain ⟨k,hk,rfl,hz⟩:=hrel
  have Hz:=yA hz
  clear hz
  by_cases h0:k=0
  ·subst h0
   go_wp2
   go_ret
   exact ⟨0,by omega,rfl,rfl,Hz.out,.inl rfl⟩
  ·obtain ⟨b,off,d,rfl,hb,hc,hd⟩:=hl.at (k:=k-1) (by omega)
   by_cases hz:d=0
   ·subst hz
    go_wp2
    go_round
    case rel=>exact ⟨k-1,by omega,by go_num,fun j h1 h2=>by
     by_cases e:j=k-1
     ·rw [e];exact hd.out
     ·exact Hz.out j (by omega) h2⟩
    case measure=>simp [intOf];omega
   ·have hz':((d:Int)==0)=false:=by simpa using hz
    go_wp2
    go_ret
    exact ⟨k,hk,rfl,rfl,Hz.out,.inr (by rw [hd.out];exact hz)⟩
end Go.Proofs.YtgepehlpjpccaaaGreatDoor
namespace Go.Proofs.YtgepehlpjpccaaaGreatDoor
open Go.RowKit Big
def yB:Nat:=18446744073709551616
theorem yS:yB=18446744073709551616:=rfl
theorem yU:0<yB:=by rw [yS];omega
theorem ypb {x:Nat} (h:x<yB):(x:Int)≤18446744073709551615:=by rw [yS] at h;omega
theorem yiT (x y c:Nat) (hc:c≤1) (hx:x<yB) (hy:y<yB):∃ s c':Nat,Hid (s+yB*c'=x+y+c)∧s<yB∧c'≤1 ∧
  ∀ w:World,(callFunc 218 #[.int .u64 x,.int .u64 y,.int .u64 c]).run Tryz.prog w=.ok (.value (.tuple #[.int .u64 (s:Int),.int .u64 (c':Int)])) w:=by
 refine ⟨(x+y+c)%yB,(x+y+c)/yB,Nat.mod_add_div _ _,Nat.mod_lt _ yU,?_,fun w=>?_⟩
 ·have:(x+y+c)/yB<2:=by
   rw [Nat.div_lt_iff_lt_mul yU];omega
  omega
 ·rw [run_callFunc_extern Tryz.func218 (by kernel_rfl) (by kernel_rfl) (by kernel_rfl) (e:=add64Entry) (by kernel_rfl),run_add64 x y c (by omega) (by omega) (by omega) (by omega)]
  simp only [Result.andThen,yS]
  congr 5<;>omega
theorem ypQ (x y c:Nat) (hc:c≤1) (hx:x<yB) (hy:y<yB):∃ s c':Nat,Hid (s+y+c=x+yB*c')∧s<yB∧c'≤1 ∧
  ∀ w:World,(callFunc 219 #[.int .u64 x,.int .u64 y,.int .u64 c]).run Tryz.prog w=.ok (.value (.tuple #[.int .u64 (s:Int),.int .u64 (c':Int)])) w:=by
 refine ⟨(x+yB-y-c)%yB,if x<y+c then 1 else 0,?_,Nat.mod_lt _ yU,by split<;>omega,fun w=>?_⟩
 ·show _=_
  rw [yS] at *
  split<;>omega
 ·rw [run_callFunc_extern Tryz.func219 (by kernel_rfl) (by kernel_rfl) (by kernel_rfl) (e:=Go.Proofs.sub64Entry) (by kernel_rfl),Go.Proofs.run_sub64 x y c hc]
  simp only [Result.andThen,yS]
theorem ypR (x y:Nat) (hx:x<yB) (hy:y<yB):∃ hi lo:Nat,Hid (lo+yB*hi=x*y)∧lo<yB∧hi+2≤yB ∧
  ∀ w:World,Calls Tryz.prog 247 #[.int .u64 x,.int .u64 y] w (Qp (.tuple #[.int .u64 (hi:Int),.int .u64 (lo:Int)]) w):=by
 refine ⟨x*y/yB,x*y%yB,Nat.mod_add_div _ _,Nat.mod_lt _ yU,?_,fun w=>(Go.Proofs.Tryz.bits_Mul64 x y hx hy w).mono fun e w' ⟨he,hw⟩=>⟨he,hw.symm⟩⟩
 have h1:x*y≤(yB-1)*(yB-1):=Nat.mul_le_mul (by omega) (by omega)
 have h2:(yB-1)*(yB-1)<(yB-1)*yB:=by rw [yS];omega
 have h3:x*y/yB<yB-1:=by
  rw [Nat.div_lt_iff_lt_mul yU];omega
 omega
def ytp (L:List Nat) (g off n:Nat) (t:TypeId) (y:List Nat) (w:World) (e:Ending) (w':World):Prop :=
 ∃ L' c,Put L off n L'∧yO yB (yR L' off n)∧c≤1∧yC yB (yR L' off n)+yB^n*c=yC yB (yR L off n)+yC yB y ∧
  e=.returned (.bool ((c:Int)==1))∧Only g w w'∧zV w' g t L'
theorem ybC (g off n cap:Nat) (t:TypeId) (L:List Nat) (q:Oa) (m c:Nat) (y:List Nat) (w:World) (hn:n≤maxLen) (hL:off+n≤L.length) (hm:m≤n)
  (hz:zV w g t L) (hy:Rd w q m y) (hq:m=0∨∀ b o,q=some ⟨b,o,none⟩→b≠g) (dL:yO yB (yR L off n)) (dy:yO yB y) :
  Calls Tryz.prog 181 #[.slice (some ⟨g,off,none⟩) n cap,.slice q m c] w (ytp L g off n t y w):=by
 unfold maxLen at hn
 go_in
 go_wp2
 go_loopw [5,10] (fun cy i wr=>∃ (k:Nat) (L':List Nat) (d:Nat),k≤n∧i=.int .i64 k∧cy=.int .u64 d∧d≤1∧Put L off k L'∧yO yB (yR L' off k) ∧
   yC yB (yR L' off k)+yB^k*d=yC yB (yR L off k)+yC yB (y.take k)∧Only g w wr∧zV wr g t L') (fun _ i _=>n-(intOf i).toNat)
 case atStart=>exact ⟨0,L,0,Nat.zero_le _,rfl,rfl,by omega,Put.refl _ _,by rw [ybU];exact yO.nil _,by simp [ybU,yC],Only.refl _ _,hz⟩
 case round =>
  obtain ⟨k,L',d,hk,rfl,rfl,hd,zQ,uG,zT,ho,hr⟩:=hrel
  have Hval:=yA zT
  clear zT
  by_cases hlt:k<n
  ·have hc:=hr.cell (off+k) (by rw [zQ.length];omega)
   rw [zQ.getD _ (by omega)] at hc
   have hf:=hr.free (off+k)
   have dk:L.getD (off+k) 0<yB:=by rw [← ybV L off n k hlt];exact dL.getD yU k
   obtain ⟨a,ha⟩:=ez (L.getD (off+k) 0)
   have hw:∃ b:Nat,Hid (y.getD k 0=b)∧b<yB:=⟨_,rfl,dy.getD yU k⟩
   obtain ⟨b,hb,ypv⟩:=hw
   rw [ha.out] at hc dk
   obtain ⟨s,c',hs,hs1,hs2,uT⟩:=yiT a b d hd dk ypv
   have ycy:∀ wr',Only g w wr'→zV wr' g t (L'.set (off+k) s)→∃ (k':Nat) (L'':List Nat) (d':Nat),k'≤n∧Value.int .i64 ((k:Int)+1)=.int .i64 k'∧Value.int .u64 (c':Int)=.int .u64 d'∧d'≤1∧Put L off k' L''∧yO yB (yR L'' off k') ∧
     yC yB (yR L'' off k')+yB^k'*d'=yC yB (yR L off k')+yC yB (y.take k')∧Only g w wr'∧zV wr' g t L'':=by
    intro wr' h1 h2
    refine ⟨k+1,L'.set (off+k) s,c',by omega,by go_num,rfl,hs2,zQ.set s,?_,?_,h1,h2⟩
    ·rw [zQ.seg_set (by omega)];exact uG.append (yO.one hs1)
    ·rw [zQ.seg_set (by omega),yai L off k (by omega),jJ,jJ,yN,zM _ _ _ (by rw [zQ.length];omega),zM _ _ _ (by omega),ha.out,hb.out,Nat.pow_succ]
     exact yrk Hval.out hs.out
   have Hrel:=yA ycy
   clear ycy
   by_cases hkm:k<m
   ·obtain ⟨b0,o0,d0,rfl,hb0,hc0,hd0⟩:=hy.at hkm
    have e0:d0=b:=by rw [← hd0.out];exact hb.out
    subst e0
    have hcy:wr.cell? ⟨b0,o0+k,none⟩=some (.int .u64 (d0:Int)):=by
     rw [← hc0]
     exact World.cell?_of_block (w:=w) (ho.block b0 ((hq.resolve_left (by omega)) b0 o0 rfl))
    go_wp2
    go_roundw
    case rel=>exact Hrel.out _ (ho.setCell _ _) (hr.set _ _)
    case measure=>simp [intOf];omega
   ·have e0:b=0:=by
     rw [← hb.out,List.getD_eq_getElem?_getD,List.getElem?_eq_none (by rw [hy.len];omega)];rfl
    subst e0
    rw [show ((0:Nat):Int)=0 from rfl] at uT
    clear ypv hb
    go_wp2
    go_roundw
    case rel=>exact Hrel.out _ (ho.setCell _ _) (hr.set _ _)
    case measure=>simp [intOf];omega
  ·obtain rfl:k=n:=by omega
   have zT:=Hval.out
   rw [List.take_of_length_le (by rw [hy.len];exact hm)] at zT
   have Hv:=yA zT
   clear zT
   go_wp2
   go_ret
   exact ⟨L',d,zQ,uG,hd,Hv.out,rfl,ho,hr⟩
def yir (L:List Nat) (g off n:Nat) (t:TypeId) (y:List Nat) (f:Nat) (w:World) (e:Ending) (w':World):Prop :=
 ∃ L' c:_,Put L off n L'∧yO yB (yR L' off n)∧c<yB∧yC yB (yR L' off n)+yB^n*c=yC yB (yR L off n)+yC yB y*f ∧
  e=.returned (.int .u64 ((c:Nat):Int))∧Only g w w'∧zV w' g t L'
theorem yl8 {a v f lo hi c lo2 c1 s c2 B:Nat} (hm:lo+B*hi=v*f) (h1:lo2+B*c1=lo+c+0) (h2:s+B*c2=a+lo2+0):s+B*(hi+c1+c2)=a+v*f+c:=by
 rw [← hm]
 have:B*(hi+c1+c2)=B*hi+B*c1+B*c2:=by grind
 omega
theorem yrm {a v f c t s B:Nat} (h:s+B*t=a+v*f+c) (ha:a<B) (hv:v<B) (hf:f<B) (hc:c<B):t<B:=by
 obtain ⟨n,rfl⟩:∃ n,B=n+1:=⟨B-1,by omega⟩
 have h1:v*f≤n*n:=Nat.mul_le_mul (by omega) (by omega)
 apply Nat.lt_of_mul_lt_mul_left (a:=n+1)
 have h2:(n+1)*(n+1)=n*n+2*n+1:=by grind
 omega
theorem yis (g off n cap:Nat) (t:TypeId) (L:List Nat) (q:Oa) (c:Nat) (y:List Nat) (f:Nat) (w:World) (hn:n≤maxLen) (hL:off+n≤L.length)
  (hz:zV w g t L) (hy:Rd w q n y) (hq:n=0∨∀ b o,q=some ⟨b,o,none⟩→b≠g) (dL:yO yB (yR L off n)) (dy:yO yB y) (df:f<yB) :
  Calls Tryz.prog 215 #[.slice (some ⟨g,off,none⟩) n cap,.slice q n c,.int .u64 f] w (yir L g off n t y f w):=by
 unfold maxLen at hn
 go_in
 go_wp2
 go_loopw [7,15] (fun cy i wr=>∃ (k:Nat) (L':List Nat) (d:Nat),k≤n∧i=.int .i64 k∧cy=.int .u64 d∧d<yB∧Put L off k L'∧yO yB (yR L' off k) ∧
   yC yB (yR L' off k)+yB^k*d=yC yB (yR L off k)+yC yB (y.take k)*f∧Only g w wr∧zV wr g t L') (fun _ i _=>n-(intOf i).toNat)
 case atStart=>exact ⟨0,L,0,Nat.zero_le _,rfl,rfl,yU,Put.refl _ _,by rw [ybU];exact yO.nil _,by simp [yC],Only.refl _ _,hz⟩
 case round =>
  obtain ⟨k,L',d,hk,rfl,rfl,hd,zQ,uG,zT,ho,hr⟩:=hrel
  have Hval:=yA zT
  clear zT
  by_cases hlt:k<n
  ·have hc:=hr.cell (off+k) (by rw [zQ.length];omega)
   rw [zQ.getD _ (by omega)] at hc
   have hf:=hr.free (off+k)
   have dk:L.getD (off+k) 0<yB:=by rw [← ybV L off n k hlt];exact dL.getD yU k
   obtain ⟨a,ha⟩:=ez (L.getD (off+k) 0)
   rw [ha.out] at hc dk
   obtain ⟨b0,o0,v,rfl,hb0,hc0,hv⟩:=hy.at hlt
   have dv:v<yB:=by rw [← hv.out];exact dy.getD yU k
   have hcy:wr.cell? ⟨b0,o0+k,none⟩=some (.int .u64 (v:Int)):=by
    rw [← hc0]
    exact World.cell?_of_block (w:=w) (ho.block b0 ((hq.resolve_left (by omega)) b0 o0 rfl))
   obtain ⟨hi,lo,GJ,hlo,hhi,yef⟩:=ypR v f dv df
   obtain ⟨lo2,c1,h1,ylJ,hc1,yi4⟩:=yiT lo d 0 (by omega) hlo hd
   obtain ⟨s,c2,h2,hs,hc2,uI⟩:=yiT a lo2 0 (by omega) dk ylJ
   have hds:=yl8 GJ.out h1.out h2.out
   have hdl:=yrm hds dk dv df hd
   have Hds:=yA hds
   clear hds
   have Hcall:=yA yef
   clear yef
   rw [show ((0:Nat):Int)=0 from rfl] at yi4 uI
   have b1:(hi:Int)+c1≤18446744073709551615:=by rw [yS] at hhi;omega
   have b2:(hi:Int)+c1+c2≤18446744073709551615:=by rw [yS] at hdl;omega
   have ycy:∀ wr',Only g w wr'→zV wr' g t (L'.set (off+k) s)→∃ (k':Nat) (L'':List Nat) (d':Nat),k'≤n∧Value.int .i64 ((k:Int)+1)=.int .i64 k'∧Value.int .u64 ((hi:Int)+c1+c2)=.int .u64 d'∧d'<yB∧Put L off k' L''∧yO yB (yR L'' off k') ∧
     yC yB (yR L'' off k')+yB^k'*d'=yC yB (yR L off k')+yC yB (y.take k')*f∧Only g w wr'∧zV wr' g t L'':=by
    intro wr' g1 g2
    refine ⟨k+1,L'.set (off+k) s,hi+c1+c2,by omega,by go_num,by go_num,hdl,zQ.set s,?_,?_,g1,g2⟩
    ·rw [zQ.seg_set (by omega)];exact uG.append (yO.one hs)
    ·rw [zQ.seg_set (by omega),yai L off k (by omega),jJ,jJ,yN,zM _ _ _ (by rw [zQ.length];omega),zM _ _ _ (by omega),ha.out,hv.out,Nat.pow_succ]
     exact yeN Hval.out Hds.out
   have Hrel:=yA ycy
   clear ycy
   go_wp2_with (go_at_call 247;refine (Hcall.out _).mono ?_;rintro e w' ⟨rfl,rfl⟩)
   go_roundw
   case rel=>exact Hrel.out _ (ho.setCell _ _) (hr.set _ _)
   case measure=>simp [intOf];omega
  ·obtain rfl:k=n:=by omega
   have zT:=Hval.out
   rw [List.take_of_length_le (by rw [hy.len];omega)] at zT
   have Hv:=yA zT
   clear zT
   go_wp2
   go_ret
   exact ⟨L',d,zQ,uG,hd,Hv.out,rfl,ho,hr⟩
def yd9 (L:List Nat) (g off n:Nat) (t:TypeId) (y:List Nat) (f:Nat) (w:World) (e:Ending) (w':World):Prop :=
 ∃ L' c:_,Put L off n L'∧yO yB (yR L' off n)∧c≤1∧yC yB (yR L' off n)+yC yB y*f=yC yB (yR L off n)+yB^n*c ∧
  e=.returned (.bool (((c:Nat):Int)==1))∧Only g w w'∧zV w' g t L'
theorem ygl {z v f lo hi d lo2 c1 s c2 B:Nat} (hm:lo+B*hi=v*f) (h1:lo2+B*c1=lo+d+0) (h2:s+lo2+0=z+B*c2):s+v*f+d=z+B*(hi+c1+c2):=by
 rw [← hm]
 have:B*(hi+c1+c2)=B*hi+B*c1+B*c2:=by grind
 omega
theorem yit {z v f d t s B:Nat} (h:s+v*f+d=z+B*t) (hs:s<B) (hv:v<B) (hf:f<B) (hd:d<B):t<B:=by
 obtain ⟨n,rfl⟩:∃ n,B=n+1:=⟨B-1,by omega⟩
 have h1:v*f≤n*n:=Nat.mul_le_mul (by omega) (by omega)
 apply Nat.lt_of_mul_lt_mul_left (a:=n+1)
 have h2:(n+1)*(n+1)=n*n+2*n+1:=by grind
 omega
theorem ybM (g off n cap:Nat) (t:TypeId) (L:List Nat) (q:Oa) (c:Nat) (y:List Nat) (f:Nat) (w:World) (hn:n+1≤maxLen) (hL:off+(n+1)≤L.length)
  (hz:zV w g t L) (hy:Rd w q n y) (hq:n=0∨∀ b o,q=some ⟨b,o,none⟩→b≠g) (dL:yO yB (yR L off (n+1))) (dy:yO yB y) (df:f<yB) :
  Calls Tryz.prog 221 #[.slice (some ⟨g,off,none⟩) (n+1) cap,.slice q n c,.int .u64 f] w (yd9 L g off (n+1) t y f w):=by
 unfold maxLen at hn
 go_in
 go_wp2
 go_loopw [7,15] (fun cy i wr=>∃ (k:Nat) (L':List Nat) (d:Nat),k≤n∧i=.int .i64 k∧cy=.int .u64 d∧d<yB∧Put L off k L'∧yO yB (yR L' off k) ∧
   yC yB (yR L' off k)+yC yB (y.take k)*f=yC yB (yR L off k)+yB^k*d∧Only g w wr∧zV wr g t L') (fun _ i _=>n-(intOf i).toNat)
 case atStart=>exact ⟨0,L,0,Nat.zero_le _,rfl,rfl,yU,Put.refl _ _,by rw [ybU];exact yO.nil _,by simp [yC],Only.refl _ _,hz⟩
 case round =>
  obtain ⟨k,L',d,hk,rfl,rfl,hd,zQ,uG,zT,ho,hr⟩:=hrel
  have Hval:=yA zT
  clear zT
  have hc:=hr.cell (off+k) (by rw [zQ.length];omega)
  rw [zQ.getD _ (by omega)] at hc
  have hf:=hr.free (off+k)
  have dk:L.getD (off+k) 0<yB:=by rw [← ybV L off (n+1) k (by omega)];exact dL.getD yU k
  obtain ⟨a,ha⟩:=ez (L.getD (off+k) 0)
  rw [ha.out] at hc dk
  by_cases hlt:k<n
  ·obtain ⟨b0,o0,v,rfl,hb0,hc0,hv⟩:=hy.at hlt
   have dv:v<yB:=by rw [← hv.out];exact dy.getD yU k
   have hcy:wr.cell? ⟨b0,o0+k,none⟩=some (.int .u64 (v:Int)):=by
    rw [← hc0]
    exact World.cell?_of_block (w:=w) (ho.block b0 ((hq.resolve_left (by omega)) b0 o0 rfl))
   obtain ⟨hi,lo,GJ,hlo,hhi,yef⟩:=ypR v f dv df
   obtain ⟨lo2,c1,h1,ylJ,hc1,yi4⟩:=yiT lo d 0 (by omega) hlo hd
   obtain ⟨s,c2,h2,hs,hc2,uI⟩:=ypQ a lo2 0 (by omega) dk ylJ
   have hds:=ygl GJ.out h1.out h2.out
   have hdl:=yit hds hs dv df hd
   have Hds:=yA hds
   clear hds
   have Hcall:=yA yef
   clear yef
   rw [show ((0:Nat):Int)=0 from rfl] at yi4 uI
   have b1:(hi:Int)+c1≤18446744073709551615:=by rw [yS] at hhi;omega
   have b2:(hi:Int)+c1+c2≤18446744073709551615:=by rw [yS] at hdl;omega
   have ycy:∀ wr',Only g w wr'→zV wr' g t (L'.set (off+k) s)→∃ (k':Nat) (L'':List Nat) (d':Nat),k'≤n∧Value.int .i64 ((k:Int)+1)=.int .i64 k'∧Value.int .u64 ((hi:Int)+c1+c2)=.int .u64 d'∧d'<yB∧Put L off k' L''∧yO yB (yR L'' off k') ∧
     yC yB (yR L'' off k')+yC yB (y.take k')*f=yC yB (yR L off k')+yB^k'*d'∧Only g w wr'∧zV wr' g t L'':=by
    intro wr' g1 g2
    refine ⟨k+1,L'.set (off+k) s,hi+c1+c2,by omega,by go_num,by go_num,hdl,zQ.set s,?_,?_,g1,g2⟩
    ·rw [zQ.seg_set (by omega)];exact uG.append (yO.one hs)
    ·rw [zQ.seg_set (by omega),yai L off k (by omega),jJ,jJ,yN,zM _ _ _ (by rw [zQ.length];omega),zM _ _ _ (by omega),ha.out,hv.out,Nat.pow_succ]
     exact ykx Hval.out Hds.out
   have Hrel:=yA ycy
   clear ycy
   go_wp2_with (go_at_call 247;refine (Hcall.out _).mono ?_;rintro e w' ⟨rfl,rfl⟩)
   go_roundw
   case rel=>exact Hrel.out _ (ho.setCell _ _) (hr.set _ _)
   case measure=>simp [intOf];omega
  ·obtain rfl:k=n:=by omega
   obtain ⟨s,c2,h2,hs,hc2,uI⟩:=ypQ a d 0 (by omega) dk hd
   rw [show ((0:Nat):Int)=0 from rfl] at uI
   have yF:∀ wr',Only g w wr'→zV wr' g t (L'.set (off+k) s)→yd9 L g off (k+1) t y f w (.returned (.bool ((c2:Int)==1))) wr':=by
    intro wr' g1 g2
    refine ⟨L'.set (off+k) s,c2,zQ.set s,?_,hc2,?_,rfl,g1,g2⟩
    ·rw [zQ.seg_set (by omega)];exact uG.append (yO.one hs)
    ·have zT:=Hval.out
     rw [List.take_of_length_le (by rw [hy.len];omega)] at zT
     rw [zQ.seg_set (by omega),yai L off k (by omega),jJ,jJ,zM _ _ _ (by rw [zQ.length];omega),zM _ _ _ (by omega),ha.out,Nat.pow_succ]
     have:=yjH (y:=yC yB y*f) (b:=0) zT (show s+0+d=a+yB*c2 by have:=h2.out;omega)
     simpa using this
   have Hfin:=yA yF
   clear yF
   go_wp2
   go_ret
   exact Hfin.out _ (ho.setCell _ _) (hr.set _ _)
def yI (w:World) (v:Value) (x:Nat):Prop:=∃ p n c l,v=.slice p n c∧n≤c∧Rd w p n l∧yV yB l∧yC yB l=x
theorem yI.below {w w':World} {v:Value} {x:Nat} (h:yI w v x) (hb:Be w w'):yI w' v x:=by
 obtain ⟨p,n,c,l,h1,h2,h3,h4⟩:=h
 exact ⟨p,n,c,l,h1,h2,h3.below hb,h4⟩
theorem yI.zero (w:World):yI w (.slice none 0 0) 0:=⟨none,0,0,[],rfl,Nat.le_refl _,Rd.nil _ _,yV.nil _,rfl⟩
theorem yjI {l:List Nat} {x K:Nat} (h:yV yB l) (hx:yC yB l=x) (hK:x<yB^K):l.length≤K:=by
 apply Nat.le_of_not_lt;intro h1
 obtain ⟨k,hk⟩:∃ k,l.length=k+1:=⟨l.length-1,by omega⟩
 have h2:=h.pow_le k hk
 have h3:yB^K≤yB^k:=Nat.pow_le_pow_right yU (by omega)
 omega
def jB (x:Nat) (w:World) (e:Ending) (w':World):Prop:=∃ v,e=.returned v∧yI w' v x∧Be w w'
theorem ydu (L:List Nat) (k:Nat) (h:∀ j,k≤j→j<L.length→L.getD j 0=0):yC yB (L.drop k)=0:=by
 have:L.drop k=List.replicate (L.length-k) 0:=by
  apply List.ext_getElem
  ·simp
  ·intro i h1 h2
   have:=h (k+i) (by omega) (by simp at h1;omega)
   rw [gD (by simp at h1;omega)] at this
   simpa using this
 rw [this,uO]
theorem yjJ {p:Oa} {n c:Nat} {l:List Nat} {w0 w w':World} {e:Ending} (hnc:n≤c) (hl:Rd w p n l) (hd:yO yB l) (hb:Be w0 w) (h:ygv p n c l w e w'):jB (yC yB l) w0 e w':=by
 obtain ⟨k,hk,rfl,rfl,hz,h0⟩:=h
 refine ⟨_,rfl,⟨p,k,c,l.take k,rfl,by omega,hl.take k hk,⟨hd.take k,?_⟩,?_⟩,hb⟩
 ·rcases h0 with rfl|h0
  ·simp
  ·obtain ⟨j,rfl⟩:∃ j,k=j+1:=⟨k-1,by
    have:k≠0:=by
     rintro rfl
     by_cases h1:0<n
     ·exact h0 (hz 0 (by omega) h1)
     ·apply h0;rw [List.getD_eq_getElem?_getD,List.getElem?_eq_none (by rw [hl.len];omega)];rfl
    omega⟩
   rw [List.getLast?_eq_getElem?,List.length_take,Nat.min_eq_left (by rw [hl.len];exact hk),Nat.add_sub_cancel,List.getElem?_take_of_lt (by omega)]
   rw [Nat.add_sub_cancel,List.getD_eq_getElem?_getD] at h0
   intro e1;rw [e1] at h0;exact h0 rfl
 ·rw [vB yB l k (by rw [hl.len];exact hk),ydu l k (fun j h1 h2=>hz j h1 (by rw [hl.len] at h2;exact h2))]
  omega
theorem yac (p:Oa) (n c:Nat) (l:List Nat) (w0 w:World) (hn:n≤maxLen) (hnc:n≤c) (hl:Rd w p n l) (hd:yO yB l) (hb:Be w0 w) :
  Calls Tryz.prog 136 #[.slice p n c] w (jB (yC yB l) w0) :=
 (yab p n c l w hn hnc hl).mono fun _ _ h=>yjJ hnc hl hd hb h
theorem yjK {B n s c a b:Nat} (h:s+B^(n+1)*c=a+b) (ha:a<B^n) (hb:b<B^n) (hB:2≤B):s=a+b∧c=0:=by
 have h1:2*B^n≤B^(n+1):=by rw [Nat.pow_succ,Nat.mul_comm];exact Nat.mul_le_mul_left _ hB
 have h2:c=0:=by
  apply Nat.eq_zero_of_not_pos;intro hc
  have:B^(n+1)*1≤B^(n+1)*c:=Nat.mul_le_mul_left _ hc
  omega
 subst h2;exact ⟨by omega,rfl⟩
theorem zO (L:List Nat):(zK L).length=L.length:=by simp [zK]
theorem ybh (L:List Nat):∀ v ∈ zK L,v.oneCell'=true:=by
 intro v hv;simp only [zK,List.mem_map] at hv;obtain ⟨d,_,rfl⟩:=hv;rfl
theorem ybD (L l:List Nat) (off:Nat) (cs:List Value) (h:cs=zK l):splice (zK L) off cs=zK (splice L off l):=by
 subst h;simp [splice,zK]
theorem Rd.cells {w:World} {p:Oa} {n:Nat} {l:List Nat} (h:Rd w p n l) (hn:0<(zK l).length):∃ ad,p=some ad∧∀ j v,(zK l)[j]?=some v→w.cell? (ad.add j)=some v:=by
 rw [zO,h.len] at hn
 obtain ⟨b,off,h1,_,h3⟩:=h.opened hn
 refine ⟨_,h1,fun j v hv=>?_⟩
 obtain ⟨hj,rfl⟩:=List.getElem?_eq_some_iff.1 hv
 rw [zO,h.len] at hj
 have:=h3 j hj
 have e:(⟨b,off,none⟩:Addr).add j=⟨b,off+j,none⟩:=by
  simp only [Addr.add];split
  ·rename_i h0;subst h0;rfl
  ·rfl
 rw [e,this]
 have hjl:j<l.length:=by rw [h.len];exact hj
 simp [zK,List.getD_eq_getElem?_getD,List.getElem?_eq_getElem hjl]
theorem vP:(Tryz.prog.info? 86).map (fun i=>(i.zero,i.size,i.bytes))=some (some (.int .u64 0),1,8):=by kernel_rfl
theorem ybE (l:List Nat) (n:Nat) (_:l.length≤n):splice (List.replicate n 0) 0 l=l++List.replicate (n-l.length) 0:=by simp [splice]
def yK:Nat:=4294967296
theorem ytq (p:Oa) (n c:Nat) (x:List Nat) (q:Oa) (m d:Nat) (y:List Nat) (w:World) (hn0:n≤yK) (hmn:m≤n) (hx:Rd w p n x) (hy:Rd w q m y) (dx:yO yB x) (dy:yO yB y) :
  Calls Tryz.prog 138 #[.slice p n c,.slice q m d] w (jB (yC yB x+yC yB y) w):=by
 obtain ⟨i0,hi,hz0,hz1,hz2⟩:=info_parts vP
 have hn:(n:Int)≤4294967296:=by unfold yK at hn0;omega
 go_in
 go_wp2_with (at_make;refine wpList_make_full _ rfl _ _ 96 rfl w.heap.size 86 i0 (.int .u64 0) 1 Tryz.underlying96 hi hz0 hz1 _ _ _ _ (n+1) rfl rfl (by omega) (by omega) ?b2 ?b3 nl ?_)
 case b2=>rw [hz2];unfold yK at hn0;omega
 case b3=>unfold maxLen;unfold yK at hn0;omega
 intro w1 yP zB
 have hr1:zV w1 w.heap.size 86 (List.replicate (n+1) 0):=jN yP
 have hb1:Be w w1:=bR.grown zB nl (fun k h=>by cases h)
 have hx1:=hx.below hb1
 clear yP zB
 go_wp2_with (refine wpList_copy_splice (o:=⟨some 19,_,_,_,_,_⟩) rfl (.tmp 17) (.tmp 18) 96 96 rfl 86 Tryz.underlying96 (by kernel_rfl) _ _ _ _ _ _ rfl rfl w.heap.size 0 (zK (List.replicate (n+1) 0)) 86 hr1 (zK x) ?c1 ?c2 ?c3 (ybh x) w.heap.size w hb1 nl ?_)
 case c1=>rw [zO,hx.len];exact (Nat.min_eq_left (by omega)).symm
 case c2=>exact fun h=>hx1.cells h
 case c3=>rw [zO,zO,hx.len,List.length_replicate];omega
 intro w2 hr2 hb2
 have hr:zV w2 w.heap.size 86 (x++List.replicate (n+1-n) 0):=by
  have:=hr2.out
  rw [ybD _ x _ _ rfl,ybE x (n+1) (by rw [hx.len];omega),hx.len] at this
  exact this
 have hlen:(x++List.replicate (n+1-n) 0).length=n+1:=by rw [List.length_append,List.length_replicate,hx.len];omega
 have uG:yO yB (x++List.replicate (n+1-n) 0):=dx.append (yO.zeros yU _)
 have zT:yC yB (x++List.replicate (n+1-n) 0)=yC yB x:=by rw [vR,uO];omega
 obtain ⟨L,hL⟩:∃ L,Hid (L=x++List.replicate (n+1-n) 0):=⟨_,yA rfl⟩
 rw [← hL.out] at hr hlen uG zT
 have Hlen:=yA hlen
 have Hval:=yA zT
 have hq:m=0∨∀ b o,q=some ⟨b,o,none⟩→b≠w.heap.size:=by
  rcases hy.cell with h|⟨b,o,h1,h2,_⟩
  ·exact .inl h
  ·refine .inr fun b' o' h=>?_
   rw [h1] at h;cases h;omega
 have ycz:yR L 0 (n+1)=L:=GM L (n+1) hlen.symm
 have yi5:yO yB (yR L 0 (n+1)):=by rw [ycz];exact uG
 have HsegL:=yA ycz
 clear hr2 hlen zT ycz
 have hbn:n+1≤maxLen:=by unfold maxLen;omega
 go_wp2_with fail
 refine (ybC w.heap.size 0 (n+1) (n+1) 86 L q m d y _ hbn (by rw [Hlen.out];omega) (by omega) hr (hy.below hb2) hq yi5 dy).mono ?_
 rintro e w3 ⟨L',cy,zQ,hd',hc1,hv',rfl,ho,hr'⟩
 have hl':L'.length=n+1:=by rw [zQ.length];exact Hlen.out
 rw [HsegL.out,Hval.out,GM L' (n+1) hl'.symm] at hv'
 rw [GM L' (n+1) hl'.symm] at hd'
 have hlx:=vE x dx
 have hly:=vE y dy
 rw [hx.len] at hlx
 rw [hy.len] at hly
 have yjj:yB^m≤yB^n:=Nat.pow_le_pow_right yU hmn
 obtain ⟨hs,-⟩:=yjK hv' hlx (by omega) (by rw [yS];omega)
 have hb3:=Only.below hb2 ho nl
 have ht:=yac (some ⟨w.heap.size,0,none⟩) (n+1) (n+1) L' w w3 hbn nl (hr'.rd0 (n+1) hl'.symm) hd' hb3
 rw [hs] at ht
 have Ht:=yA ht
 clear ht hs hv' hl' hlx hly yjj
 go_wp2_with fail
 refine Ht.out.mono ?_
 rintro e w4 ⟨v,rfl,hv⟩
 go_wp2
 go_ret
 exact ⟨v,rfl,hv⟩
end Go.Proofs.YtgepehlpjpccaaaGreatDoor
