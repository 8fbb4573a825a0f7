/- Contracts. -/
import Derived.Test.YtgepehlpjpccaaaGreatDoorKC
set_option maxHeartbeats 3200000
set_option maxRecDepth 100000
namespace Go.Proofs.YtgepehlpjpccaaaGreatDoor
open Go.RowKit
open Go.Lib
def vO:Nat→Lb
 | 0=>[0]
 | 1=>[1,0,1]
 | 2=>[1,0,1,0,0]
 | _=>[5,0,1,0,0,255,254]
structure PutAt (w:World) (k:Nat) (wr:World) (v:Value):Prop where
 own:wr.ownsRow w.heap.size 5 1 v (vO k).length (zG (vO k))
 below:Be w wr
theorem yhP (w:World):Calls Tryz.prog 75 #[.int .i64 3] w (Qp (.int .i64 1) w) :=
 (ybs 3 (by omega) w).mono fun _ _ ⟨h,h2⟩=>⟨h,h2⟩
theorem PutAt.next {w W w':World} {v v':Value} {k:Nat} (hB:Be w W) (hv:∀ j,v.ownBlock=some j→w.heap.size≤j) (hg:Grew w.heap.size W v (vO k) w' v'):PutAt w k w' v' :=
 ⟨hg.own,hB.grown hg.grown hB.size hv⟩
theorem yyl:be 2 1=[0,1]:=by decide
theorem yym:be 2 0=[0,0]:=by decide
theorem yyn:be 2 18446744073709551614=[255,254]:=by decide
theorem yue:IntKind.u64.wrap (-2)=((18446744073709551614:Nat):Int):=by rw [IntKind.wrap_u64];rfl
theorem yAp:bits .or .u8 0 1=1:=by decide
theorem yAq:bits .or .u8 1 4=5:=by decide
theorem yzL:zG (vO 0)=(madeCells #[Value.int .u8 0] 1).toList:=by kernel_rfl
theorem yq8 (p:Oa) (c:Nat) (w:World) (hs:Ss w p [[49],[],[45,50]]) (he:Env w) :
  Calls Tryz.prog 34 #[.int .i64 2,.slice p 3 c] w fun e w'=>∃ v,e=.returned (.tuple #[v,.int .i64 0])∧PutAt w 3 w' v:=by
 have HC:=h_ (ygC p c [[49],[],[45,50]] w (by simp) hs (by
  intro k hk
  have:k=0∨k=1∨k=2:=by simp at hk;omega
  rcases this with rfl|rfl|rfl
  ·exact yzG
  ·exact yzH
  ·exact yzI) he)
 have HS:=h_ hs
 have HV:=h_ he
 clear hs he
 obtain ⟨i0,hi,hz0,hz1,hz2⟩:=info_parts GE
 go_in
 go_wp2_with fail
 refine (HC.out).mono ?_
 rintro e w1 ⟨rfl,hb1⟩
 have yX:=h_ hb1
 clear hb1
 go_wp2_with fail
 refine (yhP _).mono ?_
 rintro e w' ⟨rfl,rfl⟩
 go_wp2_with (at_make;refine wpList_make_full _ rfl _ _ 39 rfl w.heap.size 5 i0 (.int .u8 0) 1 Tryz.underlying39 hi hz0 hz1 _ _ _ _ 1 rfl rfl (by rfl) (by rfl) ?b2 ?b3 yX.out.size ?_)
 case b2=>rw [hz2];omega
 case b3=>unfold maxLen;omega
 intro w2 yR yZ
 have HP:Hid (PutAt w 0 w2 (.slice (some ⟨w1.heap.size,0,none⟩) 1 1)):=h_ ⟨(by rw [show zG (vO 0)=(madeCells #[Value.int .u8 0] 1).toList from yzL];exact yR),yX.out.grown yZ yX.out.size (fun k h=>by cases h)⟩
 clear yR yZ
 go_wp2
 go_loopw [7,22] (fun v i wr=>∃ (k:Nat) (z:Int),k≤3∧z=k∧i=.int .i64 z∧Hid (PutAt w k wr v)) (fun _ i _=>3-(intOf i).toNat)
 case atStart=>exact ⟨0,0,Nat.zero_le _,rfl,rfl,HP⟩
 case round =>
  obtain ⟨k,z,hk,hz,rfl,HK⟩:=hrel
  have hk4:k=0∨k=1∨k=2∨k=3:=by omega
  rcases hk4 with rfl|rfl|rfl|rfl
  ·obtain rfl:z=0:=hz
   obtain ⟨b1,o1,x,rfl,hb1,hc1,hx⟩:=(HS.out.below HK.out.below).at (k:=0) (by simp)
   obtain rfl:x=[49]:=hx.out.symm
   rw [Nat.add_zero] at hc1
   obtain ⟨g,cap,hv5,hcap,hg,hgl,zU,uQ,yaG⟩:=ybi HK.out.own (by simp [vO])
   rw [show (vO 0).length=1 from rfl] at hv5 hcap
   subst hv5
   have gc:wr.cell? ⟨g,0,none⟩=some (.int .u8 0):=zU 0 (by simp [vO])
   have gf:wr.frozen? ⟨g,0,none⟩=false:=uQ 0
   have hw:((wr.setCell ⟨g,0,none⟩ (.int .u8 1)).drew).ownsRow w.heap.size 5 1 (.slice (some ⟨g,0,none⟩) 1 cap) 1 (zG ((vO 0).set 0 1)):=yaG 0 1 (by simp [vO])
   have jQ:Hid (Be w ((wr.setCell ⟨g,0,none⟩ (.int .u8 1)).drew)):=h_ ((HK.out.below.setCell hg _).drew)
   have HA:Hid (Calls Tryz.prog 77 #[.slice (some ⟨g,0,none⟩) 1 cap,.string ⟨#[49]⟩,.int .i64 2] ((wr.setCell ⟨g,0,none⟩ (.int .u8 1)).drew) (App w.heap.size ((wr.setCell ⟨g,0,none⟩ (.int .u8 1)).drew) (.slice (some ⟨g,0,none⟩) 1 cap) (vO 1))):=h_ (by
    have:=ya8 w.heap.size _ ((vO 0).set 0 1) [49] 1 1 2 _ (by omega) (by simp [vO]) jQ.out.size hw (by simp) yAn (by rw [IntKind.wrap_u64];rfl) (by omega)
    rw [yyl] at this;exact this)
   have hor:=yAp
   clear zU uQ yaG hk hw
   go_wp2_with fail
   go_region
   clear hor
   go_wp2_with fail
   refine (ydH _).mono ?_
   rintro e w' ⟨rfl,rfl⟩
   go_wp2_with fail
   refine (HA.out).mono ?_
   rintro e w3 ⟨v3,rfl,hg3⟩
   have HP3:=h_ (PutAt.next jQ.out (by intro j hj;cases hj;exact hg) hg3)
   clear hg3
   go_wp2
   go_roundw
   case rel=>exact ⟨1,1,by omega,rfl,rfl,HP3⟩
   case measure=>simp [intOf]
  ·obtain rfl:z=1:=hz
   obtain ⟨b1,o1,x,rfl,hb1,hc1,hx⟩:=(HS.out.below HK.out.below).at (k:=1) (by simp)
   obtain rfl:x=[]:=hx.out.symm
   obtain ⟨g,cap,hv5,hcap,hg,hgl,zU,uQ,yaG⟩:=ybi HK.out.own (by simp [vO])
   rw [show (vO 1).length=3 from rfl] at hv5 hcap
   subst hv5
   have HA:Hid (Calls Tryz.prog 77 #[.slice (some ⟨g,0,none⟩) 3 cap,.string ⟨#[]⟩,.int .i64 2] wr (App w.heap.size wr (.slice (some ⟨g,0,none⟩) 3 cap) (vO 2))):=h_ (by
    have:=ycf w.heap.size _ (vO 1) [] 2 wr (by omega) (by simp [vO]) HK.out.below.size HK.out.own (by simp) rfl (HV.out.below HK.out.below)
    rw [yym] at this;exact this)
   have jQ:=h_ HK.out.below
   clear zU uQ yaG hk
   go_wp2_with fail
   refine (ydH _).mono ?_
   rintro e w' ⟨rfl,rfl⟩
   go_wp2_with fail
   refine (HA.out).mono ?_
   rintro e w3 ⟨v3,rfl,hg3⟩
   have HP3:=h_ (PutAt.next jQ.out (by intro j hj;cases hj;exact hg) hg3)
   clear hg3
   go_wp2
   go_roundw
   case rel=>exact ⟨2,2,by omega,rfl,rfl,HP3⟩
   case measure=>simp [intOf]
  ·obtain rfl:z=2:=hz
   obtain ⟨b1,o1,x,rfl,hb1,hc1,hx⟩:=(HS.out.below HK.out.below).at (k:=2) (by simp)
   obtain rfl:x=[45,50]:=hx.out.symm
   obtain ⟨g,cap,hv5,hcap,hg,hgl,zU,uQ,yaG⟩:=ybi HK.out.own (by simp [vO])
   rw [show (vO 2).length=5 from rfl] at hv5 hcap
   subst hv5
   have gc:wr.cell? ⟨g,0,none⟩=some (.int .u8 1):=zU 0 (by simp [vO])
   have gf:wr.frozen? ⟨g,0,none⟩=false:=uQ 0
   have hw:((wr.setCell ⟨g,0,none⟩ (.int .u8 5)).drew).ownsRow w.heap.size 5 1 (.slice (some ⟨g,0,none⟩) 5 cap) 5 (zG ((vO 2).set 0 5)):=yaG 0 5 (by simp [vO])
   have jQ:Hid (Be w ((wr.setCell ⟨g,0,none⟩ (.int .u8 5)).drew)):=h_ ((HK.out.below.setCell hg _).drew)
   have HA:Hid (Calls Tryz.prog 77 #[.slice (some ⟨g,0,none⟩) 5 cap,.string ⟨#[45,50]⟩,.int .i64 2] ((wr.setCell ⟨g,0,none⟩ (.int .u8 5)).drew) (App w.heap.size ((wr.setCell ⟨g,0,none⟩ (.int .u8 5)).drew) (.slice (some ⟨g,0,none⟩) 5 cap) (vO 3))):=h_ (by
    have:=ya8 w.heap.size _ ((vO 2).set 0 5) [45,50] (-2) 18446744073709551614 2 _ (by omega) (by simp [vO]) jQ.out.size hw (by simp) yAo yue (by omega)
    rw [yyn] at this;exact this)
   have hor:=yAq
   clear zU uQ yaG hk hw
   go_wp2_with fail
   go_region
   clear hor
   go_wp2_with fail
   refine (ydH _).mono ?_
   rintro e w' ⟨rfl,rfl⟩
   go_wp2_with fail
   refine (HA.out).mono ?_
   rintro e w3 ⟨v3,rfl,hg3⟩
   have HP3:=h_ (PutAt.next jQ.out (by intro j hj;cases hj;exact hg) hg3)
   clear hg3
   go_wp2
   go_roundw
   case rel=>exact ⟨3,3,by omega,rfl,rfl,HP3⟩
   case measure=>simp [intOf]
  ·obtain rfl:z=3:=hz
   go_wp2
   go_ret2
   exact ⟨_,rfl,HK.out⟩
end Go.Proofs.YtgepehlpjpccaaaGreatDoor
namespace Go.Proofs.YtgepehlpjpccaaaGreatDoor
open Go.RowKit
open Go.Lib
theorem ymM (w:World):Ss (w.alloc (.cells #[.string ⟨#[49]⟩,.string ⟨#[]⟩,.string ⟨#[45,50]⟩] 9)) (some ⟨w.heap.size,0,none⟩) [[49],[],[45,50]]:=by
 refine .inr ⟨w.heap.size,0,rfl,by simp,fun j hj=>?_⟩
 have:j=0∨j=1∨j=2:=by simp at hj;omega
 unfold World.cell?
 rw [heap_alloc_new]
 rcases this with rfl|rfl|rfl<;>rfl
theorem yuf (w:World) (he:Env w):Calls Tryz.prog 10 #[] w (Rp (.bool true) w):=by
 have hB0:Be w (w.alloc (.cells #[.string ⟨#[49]⟩,.string ⟨#[]⟩,.string ⟨#[45,50]⟩] 9)):=bR.alloc nl _
 have HP:=h_ (yq8 (some ⟨w.heap.size,0,none⟩) 3 _ (ymM w) (he.below hB0))
 have GU:=h_ hB0
 clear he hB0
 go_in
 go_wp2_with fail
 refine (HP.out).mono ?_
 rintro e w1 ⟨v,rfl,hp⟩
 have yX:=h_ (GU.out.trans (hp.below.mono (by simp)))
 obtain ⟨g,cap,hv5,hcap,hg,hgl,zU,uQ,yaG⟩:=ybi hp.own (by simp [vO])
 rw [show (vO 3).length=7 from rfl] at hv5 hcap
 subst hv5
 have g0:w1.cell? ⟨g,0,none⟩=some (.int .u8 5):=zU 0 (by simp [vO])
 have g2:w1.cell? ⟨g,2,none⟩=some (.int .u8 1):=zU 2 (by simp [vO])
 have g5:w1.cell? ⟨g,5,none⟩=some (.int .u8 255):=zU 5 (by simp [vO])
 have g6:w1.cell? ⟨g,6,none⟩=some (.int .u8 254):=zU 6 (by simp [vO])
 clear zU uQ yaG hp
 go_wp2
 go_ret
 exact ⟨rfl,yX.out⟩
end Go.Proofs.YtgepehlpjpccaaaGreatDoor
namespace Go.Proofs.YtgepehlpjpccaaaGreatDoor
open Go.RowKit
open Go.Lib
theorem add_lit (b off j:Nat):(⟨b,off,none⟩:Addr).add j=⟨b,off+j,none⟩:=by
 cases j<;>simp [Addr.add]
theorem GG (w:World) (p:Oa) (c:Nat) (l:Lb) (h:Bs w p l):(convert 39 9 (.slice p l.length c)).run Tryz.prog w=.ok (.string ⟨l.toArray⟩) w:=by
 rcases h with h0|⟨b,off,rfl,hb,hc⟩
 ·obtain rfl:=List.eq_nil_of_length_eq_zero h0
  cases p with
  | some a=>exact run_convert_bytes_back w 39 9 5 a c [] Tryz.underlying39 Tryz.underlying5 Tryz.underlying9 (fun j hj=>by simp at hj)
  | none =>
   show (convert 39 9 (.slice none 0 c)).run Tryz.prog w=_
   rw [run_convert_bytes_string w 39 9 5 none 0 c Tryz.underlying39 Tryz.underlying5 Tryz.underlying9]
   simp [Conv.bytesToString]
   try rfl
 ·refine run_convert_bytes_back w 39 9 5 ⟨b,off,none⟩ c l Tryz.underlying39 Tryz.underlying5 Tryz.underlying9 (fun j hj=>?_)
  rw [add_lit,hc j hj,List.getD_eq_getElem?_getD,List.getElem?_eq_getElem hj];rfl
theorem yc8 (p q:Oa) (c d m:Nat) (l:Lb) (w:World) (hm:Hid (l.length=m)) (hp:Bs w p l) (hq:Bs w q l) :
  Calls Tryz.prog 60 #[.slice p m c,.slice q m d] w fun r w'=>r=.returned (.bool true)∧w=w':=by
 have h1:=GG w p c l hp
 have h2:=GG w q d l hq
 obtain ⟨X,HX⟩:∃ X:ByteArray,Hid (⟨l.toArray⟩=X):=⟨_,rfl⟩
 rw [hm.out,HX.out] at h1 h2
 clear hp hq
 go_in
 go_wp2
 go_ret
 exact ⟨rfl,rfl⟩
theorem yug (p q:Oa) (c d n:Nat) (xs:List Lb) (w:World) (hx:Hid (xs.length=n)) (hn:n≤4096) (hp:Ss w p xs) (hq:Ss w q xs) :
  Calls Tryz.prog 20 #[.slice p n c,.slice q n d] w fun e w'=>Be w w'∧e=.returned (.bool true):=by
 have HP:=h_ hp
 have HQ:=h_ hq
 have hni:(n:Int)≤4096:=by omega
 have hnn:((n:Int) != (n:Int))=false:=by simp
 clear hp hq
 go_in
 go_wp2
 go_loopw [5] (fun iv wr=>∃ i r:Nat,i≤n∧iv=.int .i64 i∧wr=w.drewN r) (fun iv _=>n-(intOf iv).toNat)
 case atStart=>exact ⟨0,0,Nat.zero_le _,rfl,rfl⟩
 case round =>
  obtain ⟨i,r,hi,rfl,rfl⟩:=hrel
  have ii:(i:Int)≤(n:Int):=by omega
  by_cases hlt:i<n
  ·have ilt:(i:Int)<(n:Int):=by omega
   obtain ⟨b1,o1,x,e1,-,hc1,hx1⟩:=HP.out.at (k:=i) (by rw [hx.out];exact hlt)
   obtain ⟨b2,o2,y,e2,-,hc2,hx2⟩:=HQ.out.at (k:=i) (by rw [hx.out];exact hlt)
   subst e1 e2
   obtain rfl:x=y:=hx1.out.symm.trans hx2.out
   obtain ⟨X,HX⟩:∃ X:ByteArray,Hid (⟨x.toArray⟩=X):=⟨_,rfl⟩
   rw [HX.out] at hc1 hc2
   go_wp2_with fail
   go_quiet (fail)
   go_wp2
   go_roundw
   case rel=>exact ⟨i+1,_,by omega,by go_num,rfl⟩
   case measure=>simp [intOf];omega
  ·obtain rfl:i=n:=by omega
   have ilt:¬ (i:Int)<(i:Int):=by omega
   go_wp2
   go_ret
   exact ⟨⟨rfl,rfl,rfl,Nat.le_refl _,fun _ _=>rfl⟩,rfl⟩
def ygc (xs:List Lb):Bool:=decide (100<xs.length) || xs.any (fun x=>decide (200<x.length))
theorem yuh (p:Oa) (c n:Nat) (xs:List Lb) (w:World) (hx:Hid (xs.length=n)) (hs:Ss w p xs) :
  Calls Tryz.prog 17 #[.slice p n c] w (Qp (.bool (ygc xs)) w):=by
 have HS:=h_ hs
 obtain ⟨v,HV⟩:=ez (ygc xs)
 rw [HV.out]
 clear hs
 by_cases h100:100<n
 ·have h1:(100:Int)<(n:Int):=by omega
  obtain rfl:v=true:=by rw [← HV.out];unfold ygc;rw [decide_eq_true (by rw [hx.out];exact h100)];rfl
  go_in
  go_wp2
  go_ret
  exact ⟨rfl,rfl⟩
 have h1:¬ (100:Int)<(n:Int):=by omega
 have hni:(n:Int)≤100:=by omega
 have yfI:Hid (∀ j,j<n→200<(xs.getD j []).length→v=true):=h_ (fun j hj h=>by
  rw [← HV.out];unfold ygc
  rw [Bool.or_eq_true]
  have hj2:j<xs.length:=by rw [hx.out];exact hj
  rw [gD hj2] at h
  exact .inr (List.any_eq_true.2 ⟨_,List.getElem_mem hj2,decide_eq_true h⟩))
 have HNO:Hid ((∀ j,j<n→¬ 200<(xs.getD j []).length)→v=false):=h_ (fun h=>by
  rw [← HV.out];unfold ygc
  rw [decide_eq_false (by rw [hx.out];exact h100),Bool.false_or,List.any_eq_false]
  intro x hx2
  obtain ⟨j,hj,rfl⟩:=List.getElem_of_mem hx2
  have:=h j (by rw [← hx.out];exact hj)
  rw [gD hj] at this
  simpa using this)
 go_in
 go_wp2
 go_loopw [3] (fun iv wr=>∃ i:Nat,i≤n∧iv=.int .i64 i∧w=wr∧Hid (∀ j,j<i→¬ 200<(xs.getD j []).length)) (fun iv _=>n-(intOf iv).toNat)
 case atStart=>exact ⟨0,Nat.zero_le _,rfl,rfl,h_ (fun j hj=>by omega)⟩
 case round =>
  obtain ⟨i,hi,rfl,rfl,HA⟩:=hrel
  have ii:(i:Int)≤(n:Int):=by omega
  by_cases hlt:i<n
  ·have ilt:(i:Int)<(n:Int):=by omega
   obtain ⟨b1,o1,x,e1,-,hc1,hx1⟩:=HS.out.at (k:=i) (by rw [hx.out];exact hlt)
   subst e1
   obtain ⟨m,HM⟩:=ez (x.length)
   have hsz:(⟨x.toArray⟩:ByteArray).size=m:=by rw [← ByteArray.size_data];simpa using HM.out
   obtain ⟨X,HX⟩:∃ X:ByteArray,Hid (⟨x.toArray⟩=X):=⟨_,rfl⟩
   rw [HX.out] at hc1 hsz
   by_cases h2:200<m
   ·have h3:(200:Int)<(m:Int):=by omega
    obtain rfl:v=true:=yfI.out i hlt (by rw [hx1.out,HM.out];exact h2)
    go_wp2
    go_ret
    exact ⟨rfl,by first|rfl|trivial⟩
   ·have h3:¬ (200:Int)<(m:Int):=by omega
    have HA2:Hid (∀ j,j<i+1→¬ 200<(xs.getD j []).length):=h_ (fun j hj=>by
     by_cases e:j=i
     ·rw [e,hx1.out,HM.out];exact h2
     ·exact HA.out j (by omega))
    go_wp2
    go_roundw
    case rel=>exact ⟨i+1,by omega,by go_num,by first|rfl|trivial,HA2⟩
    case measure=>simp [intOf];omega
  ·obtain rfl:i=n:=by omega
   have ilt:¬ (i:Int)<(i:Int):=by omega
   obtain rfl:v=false:=HNO.out HA.out
   go_wp2
   go_ret
   exact ⟨rfl,by first|rfl|trivial⟩
theorem ylG (W:World) (g k:Nat) (v:Value) (cs:Array Value) (t:TypeId) (h:W.heap[g]?=some (.cells cs t (0,0))):(W.setCell ⟨g,k,none⟩ v).heap[g]?=some (.cells (cs.setIfInBounds k v) t (0,0)):=by
 obtain ⟨h1,h2⟩:=Array.getElem?_eq_some_iff.1 h
 unfold World.setCell
 rw [Array.getElem?_eq_getElem (by simpa using h1),Array.getElem_modify]
 simp [h2]
def ybN (W:World) (V n i:Nat) (xs:List Lb):Prop:=∃ cs:Array Value,W.heap[V]?=some (.cells cs 9 (0,0))∧cs.size=n∧∀ j,j<n→cs[j]?=some (.string (if j<i then ⟨(xs.getD j []).toArray⟩ else ⟨#[]⟩))
theorem ybN.put {W:World} {V n i:Nat} {xs:List Lb} (h:ybN W V n i xs) (hi:i<n):ybN (W.setCell ⟨V,i,none⟩ (.string ⟨(xs.getD i []).toArray⟩)) V n (i+1) xs:=by
 obtain ⟨cs,h1,h2,h3⟩:=h
 refine ⟨_,ylG W V i _ _ _ h1,by simp [h2],fun j hj=>?_⟩
 rw [Array.getElem?_setIfInBounds]
 by_cases e:i=j
 ·subst e
  rw [if_pos rfl,if_pos (by rw [h2];exact hi),if_pos (Nat.lt_succ_self _)]
 ·rw [if_neg e,h3 j hj]
  congr 2
  by_cases h4:j<i
  ·rw [if_pos h4,if_pos (by omega)]
  ·rw [if_neg h4,if_neg (by omega)]
theorem ybN.skip {W:World} {V n i:Nat} {xs:List Lb} (h:ybN W V n i xs) (e:xs.getD i []=[]):ybN W V n (i+1) xs:=by
 obtain ⟨cs,h1,h2,h3⟩:=h
 refine ⟨cs,h1,h2,fun j hj=>?_⟩
 rw [h3 j hj]
 congr 2
 by_cases h4:j<i
 ·rw [if_pos h4,if_pos (by omega)]
 ·rw [if_neg h4]
  by_cases h5:j=i
  ·subst h5;rw [if_pos (Nat.lt_succ_self _),e]
  ·rw [if_neg (by omega)]
theorem ybN.keep {W W':World} {V n i:Nat} {xs:List Lb} (h:ybN W V n i xs) (e:W'.heap[V]?=W.heap[V]?):ybN W' V n i xs:=by
 obtain ⟨cs,h1,h2⟩:=h
 exact ⟨cs,e.trans h1,h2⟩
theorem ybN.reads {W:World} {V n:Nat} {xs:List Lb} (h:ybN W V n n xs) (hx:xs.length=n):Ss W (some ⟨V,0,none⟩) xs:=by
 obtain ⟨cs,h1,h2,h3⟩:=h
 refine .inr ⟨V,0,rfl,(Array.getElem?_eq_some_iff.1 h1).1,fun j hj=>?_⟩
 have h4:=h3 j (by omega)
 rw [if_pos (by omega)] at h4
 rw [Nat.zero_add]
 simp [World.cell?,h1,h4]
theorem ybN.old {W:World} {V n i:Nat} {xs:List Lb} (h:ybN W V n i xs) (hi:i<n):W.cell? ⟨V,i,none⟩=some (.string ⟨#[]⟩)∧W.frozen? ⟨V,i,none⟩=false:=by
 obtain ⟨cs,h1,h2,h3⟩:=h
 have h4:=h3 i hi
 rw [if_neg (by omega)] at h4
 exact ⟨by simp [World.cell?,h1,h4],by simp [World.frozen?,h1]⟩
theorem ysM:(Tryz.prog.info? 9).map (fun i=>(i.zero,i.size,i.bytes))=some (some (.string ⟨#[]⟩),1,16):=by kernel_rfl
theorem yi2 (n:Nat) (hn:n≤10000):∃ Z:Array Value,(Z.size=n∧∀ j,j<n→Z[j]?=some (.string ⟨#[]⟩))∧∀ W,(Instr.makeSlice 30 (.int .i64 (n:Int)) (.int .i64 (n:Int))).run Tryz.prog W=.ok (.slice (some ⟨W.heap.size,0,none⟩) n n) (W.alloc (.cells Z 9)):=by
 obtain ⟨i0,hi,hz0,hz1,hz2⟩:=info_parts ysM
 refine ⟨madeCells (Value.cells (.string ⟨#[]⟩)) (n*1),⟨by rw [size_madeCells,Nat.mul_one],fun j hj=>by simp [madeCells,Value.cells,Nat.mod_one,hj]⟩,fun W=>?_⟩
 have h:=run_make (P:=Tryz.prog) W 30 9 i0 (.string ⟨#[]⟩) Tryz.underlying30 hi hz0 .i64 .i64 (n:Int) (n:Int) (by omega) (by omega) (by rw [hz2];omega) (by omega)
 rw [hz1,Int.toNat_natCast] at h
 exact h
end Go.Proofs.YtgepehlpjpccaaaGreatDoor
namespace Go.Proofs.YtgepehlpjpccaaaGreatDoor
open Go.RowKit
open Go.Lib
abbrev Sg:=Int × Int × Lb
def RdG (w:World) (p:Oa) (l:List Sg):Prop:=l.length=0∨∃ b off,p=some ⟨b,off,none⟩∧b<w.heap.size∧∀ j,j<l.length→w.cell? ⟨b,off+j*3,none⟩=some (.int .i64 (l.getD j (0,0,[])).1)∧w.cell? ⟨b,off+j*3+1,none⟩=some (.int .i64 (l.getD j (0,0,[])).2.1)∧w.cell? ⟨b,off+j*3+2,none⟩=some (.string ⟨(l.getD j (0,0,[])).2.2.toArray⟩)
theorem RdG.below {w w':World} {p:Oa} {l:List Sg} (h:RdG w p l) (hb:Be w w'):RdG w' p l:=h.imp id fun ⟨b,off,h1,h2,h3⟩ =>
 ⟨b,off,h1,Nat.lt_of_lt_of_le h2 hb.size,fun j hj=>⟨(hb.cell (p:=⟨b,off+j*3,none⟩) h2).trans (h3 j hj).1,(hb.cell (p:=⟨b,off+j*3+1,none⟩) h2).trans (h3 j hj).2.1,(hb.cell (p:=⟨b,off+j*3+2,none⟩) h2).trans (h3 j hj).2.2⟩⟩
theorem RdG.at {w:World} {p:Oa} {l:List Sg} (h:RdG w p l) {k:Nat} (hk:k<l.length):∃ b off x y z,p=some ⟨b,off,none⟩∧b<w.heap.size∧w.cell? ⟨b,off+k*3,none⟩=some (.int .i64 x)∧w.cell? ⟨b,off+k*3+1,none⟩=some (.int .i64 y)∧w.cell? ⟨b,off+k*3+2,none⟩=some (.string ⟨(z:Lb).toArray⟩)∧Hid (l.getD k (0,0,[])=(x,y,z)):=by
 rcases h with h0|⟨b,off,h1,h2,h3⟩
 ·omega
 ·exact ⟨b,off,_,_,_,h1,h2,(h3 k hk).1,(h3 k hk).2.1,(h3 k hk).2.2,h_ rfl⟩
def ydZ (l:List Sg):Bool:=decide (10<l.length) || l.any (fun x=>decide (200<x.2.2.length))
theorem yq9 (p:Oa) (c n:Nat) (l:List Sg) (w:World) (hx:Hid (l.length=n)) (hs:RdG w p l) :
  Calls Tryz.prog 9 #[.slice p n c] w (Qp (.bool (ydZ l)) w):=by
 have HS:=h_ hs
 obtain ⟨v,HV⟩:=ez (ydZ l)
 rw [HV.out]
 clear hs
 by_cases h10:10<n
 ·have h1:(10:Int)<(n:Int):=by omega
  obtain rfl:v=true:=by rw [← HV.out];unfold ydZ;rw [decide_eq_true (by rw [hx.out];exact h10)];rfl
  go_in
  go_wp2
  go_ret
  exact ⟨rfl,rfl⟩
 have h1:¬ (10:Int)<(n:Int):=by omega
 have hni:(n:Int)≤10:=by omega
 have yfI:Hid (∀ j,j<n→200<(l.getD j (0,0,[])).2.2.length→v=true):=h_ (fun j hj h=>by
  rw [← HV.out];unfold ydZ
  rw [Bool.or_eq_true]
  have hj2:j<l.length:=by rw [hx.out];exact hj
  rw [gD hj2] at h
  exact .inr (List.any_eq_true.2 ⟨_,List.getElem_mem hj2,decide_eq_true h⟩))
 have HNO:Hid ((∀ j,j<n→¬ 200<(l.getD j (0,0,[])).2.2.length)→v=false):=h_ (fun h=>by
  rw [← HV.out];unfold ydZ
  rw [decide_eq_false (by rw [hx.out];exact h10),Bool.false_or,List.any_eq_false]
  intro x hx2
  obtain ⟨j,hj,rfl⟩:=List.getElem_of_mem hx2
  have:=h j (by rw [← hx.out];exact hj)
  rw [gD hj] at this
  simpa using this)
 go_in
 go_wp2
 go_loopw [3] (fun iv wr=>∃ i:Nat,i≤n∧iv=.int .i64 i∧w=wr∧Hid (∀ j,j<i→¬ 200<(l.getD j (0,0,[])).2.2.length)) (fun iv _=>n-(intOf iv).toNat)
 case atStart=>exact ⟨0,Nat.zero_le _,rfl,rfl,h_ (fun j hj=>by omega)⟩
 case round =>
  obtain ⟨i,hi,rfl,rfl,HA⟩:=hrel
  have ii:(i:Int)≤(n:Int):=by omega
  by_cases hlt:i<n
  ·have ilt:(i:Int)<(n:Int):=by omega
   obtain ⟨b1,o1,x,y,z,e1,-,hc1,hc2,hc3,hx1⟩:=HS.out.at (k:=i) (by rw [hx.out];exact hlt)
   subst e1
   obtain ⟨m,HM⟩:=ez (z.length)
   have hsz:(⟨z.toArray⟩:ByteArray).size=m:=by rw [← ByteArray.size_data];simpa using HM.out
   obtain ⟨X,HX⟩:∃ X:ByteArray,Hid (⟨z.toArray⟩=X):=⟨_,rfl⟩
   rw [HX.out] at hc3 hsz
   by_cases h2:200<m
   ·have h3:(200:Int)<(m:Int):=by omega
    obtain rfl:v=true:=yfI.out i hlt (by rw [hx1.out];show 200<z.length;rw [HM.out];exact h2)
    go_wp2
    go_ret
    exact ⟨rfl,by first|rfl|trivial⟩
   ·have h3:¬ (200:Int)<(m:Int):=by omega
    have HA2:Hid (∀ j,j<i+1→¬ 200<(l.getD j (0,0,[])).2.2.length):=h_ (fun j hj=>by
     by_cases e:j=i
     ·rw [e,hx1.out];show ¬ 200<z.length;rw [HM.out];exact h2
     ·exact HA.out j (by omega))
    go_wp2
    go_roundw
    case rel=>exact ⟨i+1,by omega,by go_num,by first|rfl|trivial,HA2⟩
    case measure=>simp [intOf];omega
  ·obtain rfl:i=n:=by omega
   have ilt:¬ (i:Int)<(i:Int):=by omega
   obtain rfl:v=false:=HNO.out HA.out
   go_wp2
   go_ret
   exact ⟨rfl,by first|rfl|trivial⟩
end Go.Proofs.YtgepehlpjpccaaaGreatDoor
namespace Big
open Go.Proofs.YtgepehlpjpccaaaGreatDoor
end Big
namespace Go.Proofs.YtgepehlpjpccaaaGreatDoor
open Go.RowKit
end Go.Proofs.YtgepehlpjpccaaaGreatDoor
namespace Go.Proofs.YtgepehlpjpccaaaGreatDoor
open Go.RowKit Big
def ywE (L:List Nat) (g off n:Nat) (t:TypeId) (y:List Nat) (w:World) (e:Ending) (w':World):Prop :=
 ∃ L' c,Put L off n L'∧yQ yB (yT L' off n)∧c≤1∧val yB (yT L' off n)+val yB y=val yB (yT L off n)+yB^n*c ∧
  e=.returned (.tuple #[])∧Only g w w'∧zZ w' g t L'
theorem yfQ (g off n cap:Nat) (t:TypeId) (L:List Nat) (q:Oa) (m c:Nat) (y:List Nat) (w:World) (hn:n≤maxLen) (hL:off+n≤L.length) (hm:m≤n)
  (hz:zZ w g t L) (hy:Rd w q m y) (hq:m=0∨∀ b o,q=some ⟨b,o,none⟩→b≠g) (dL:yQ yB (yT L off n)) (dy:yQ yB y) :
  Calls Tryz.prog 182 #[.slice (some ⟨g,off,none⟩) n cap,.slice q m c] w (ywE L g off n t y w):=by
 unfold maxLen at hn
 go_in
 go_wp2
 go_loopw [4,9] (fun cy i wr=>∃ (k:Nat) (L':List Nat) (d:Nat),k≤n∧i=.int .i64 k∧cy=.int .u64 d∧d≤1∧Put L off k L'∧yQ yB (yT L' off k) ∧
   val yB (yT L' off k)+val yB (y.take k)=val yB (yT L off k)+yB^k*d∧Only g w wr∧zZ wr g t L') (fun _ i _=>n-(intOf i).toNat)
 case atStart=>exact ⟨0,L,0,Nat.zero_le _,rfl,rfl,by omega,Put.refl _ _,by rw [ycq];exact yQ.nil _,by simp [val],Only.refl _ _,hz⟩
 case round =>
  obtain ⟨k,L',d,hk,rfl,rfl,hd,zM,uY,zQ,ho,hr⟩:=hrel
  have Hval:=yA zQ
  clear zQ
  by_cases hlt:k<n
  ·have hc:=hr.cell (off+k) (by rw [zM.length];omega)
   rw [zM.getD _ (by omega)] at hc
   have hf:=hr.free (off+k)
   have dk:L.getD (off+k) 0<yB:=by rw [← ycr L off n k hlt];exact dL.getD yU k
   obtain ⟨a,ha⟩:=ez (L.getD (off+k) 0)
   have hw:∃ b:Nat,Hid (y.getD k 0=b)∧b<yB:=⟨_,rfl,dy.getD yU k⟩
   obtain ⟨b,hb,yrT⟩:=hw
   rw [ha.out] at hc dk
   obtain ⟨s,c',hs,hs1,hs2,jY⟩:=ysc a b d hd dk yrT
   have yc4:∀ wr',Only g w wr'→zZ wr' g t (L'.set (off+k) s)→∃ (k':Nat) (L'':List Nat) (d':Nat),k'≤n∧Value.int .i64 ((k:Int)+1)=.int .i64 k'∧Value.int .u64 (c':Int)=.int .u64 d'∧d'≤1∧Put L off k' L''∧yQ yB (yT L'' off k') ∧
     val yB (yT L'' off k')+val yB (y.take k')=val yB (yT L off k')+yB^k'*d'∧Only g w wr'∧zZ wr' g t L'':=by
    intro wr' h1 h2
    refine ⟨k+1,L'.set (off+k) s,c',by omega,by go_num,rfl,hs2,zM.set s,?_,?_,h1,h2⟩
    ·rw [zM.seg_set (by omega)];exact uY.append (yQ.one hs1)
    ·rw [zM.seg_set (by omega),yaR L off k (by omega),jJ,jJ,yO,zP _ _ _ (by rw [zM.length];omega),zP _ _ _ (by omega),ha.out,hb.out,Nat.pow_succ]
     exact yle Hval.out hs.out
   have Hrel:=yA yc4
   clear yc4
   by_cases hkm:k<m
   ·obtain ⟨b0,o0,d0,rfl,hb0,hc0,hd0⟩:=hy.at hkm
    have e0:d0=b:=by rw [← hd0.out];exact hb.out
    subst e0
    have hcy:wr.cell? ⟨b0,o0+k,none⟩=some (.int .u64 (d0:Int)):=by
     rw [← hc0]
     exact World.cell?_of_block (w:=w) (ho.block b0 ((hq.resolve_left (by omega)) b0 o0 rfl))
    go_wp2
    go_roundw
    case rel=>exact Hrel.out _ (ho.setCell _ _) (hr.set _ _)
    case measure=>simp [intOf];omega
   ·have e0:b=0:=by
     rw [← hb.out,List.getD_eq_getElem?_getD,List.getElem?_eq_none (by rw [hy.len];omega)];rfl
    subst e0
    rw [show ((0:Nat):Int)=0 from rfl] at jY
    clear yrT hb
    go_wp2
    go_roundw
    case rel=>exact Hrel.out _ (ho.setCell _ _) (hr.set _ _)
    case measure=>simp [intOf];omega
  ·obtain rfl:k=n:=by omega
   have zQ:=Hval.out
   rw [List.take_of_length_le (by rw [hy.len];exact hm)] at zQ
   have Hv:=yA zQ
   clear zQ
   go_wp2
   go_end0
   exact ⟨L',d,zM,uY,hd,Hv.out,rfl,ho,hr⟩
end Go.Proofs.YtgepehlpjpccaaaGreatDoor
namespace Go.Proofs.YtgepehlpjpccaaaGreatDoor
open Go.RowKit Big
end Go.Proofs.YtgepehlpjpccaaaGreatDoor
namespace Go.Proofs.YtgepehlpjpccaaaGreatDoor
open Go.RowKit Big
theorem yra {B n s c a b:Nat} (h:s+b=a+B^n*c) (hs:s<B^n) (hle:b≤a):s=a-b:=by
 have h2:c=0:=by
  apply Nat.eq_zero_of_not_pos;intro hc
  have:B^n*1≤B^n*c:=Nat.mul_le_mul_left _ hc
  omega
 subst h2;omega
theorem yo1 (p:Oa) (n c:Nat) (x:List Nat) (q:Oa) (m d:Nat) (y:List Nat) (w:World) (hn0:n≤yF) (hmn:m≤n) (hx:Rd w p n x) (hy:Rd w q m y) (dx:yQ yB x) (dy:yQ yB y) (hle:val yB y≤val yB x) :
  Calls Tryz.prog 139 #[.slice p n c,.slice q m d] w (zJ (val yB x-val yB y) w):=by
 obtain ⟨i0,hi,hz0,hz1,hz2⟩:=info_parts uO
 have hn:(n:Int)≤4294967296:=by unfold yF at hn0;omega
 go_in
 go_wp2_with (at_make;refine wpList_make_full _ rfl _ _ 96 rfl w.heap.size 86 i0 (.int .u64 0) 1 Tryz.underlying96 hi hz0 hz1 _ _ _ _ (n) rfl rfl (by omega) (by omega) ?b2 ?b3 nl ?_)
 case b2=>rw [hz2];unfold yF at hn0;omega
 case b3=>unfold maxLen;unfold yF at hn0;omega
 intro w1 yR yZ
 have hr1:zZ w1 w.heap.size 86 (List.replicate (n) 0):=jR yR
 have hb1:Be w w1:=bR.grown yZ nl (fun k h=>by cases h)
 have hx1:=hx.below hb1
 clear yR yZ
 go_wp2_with (refine wpList_copy_splice (o:=⟨some 11,_,_,_,_,_⟩) rfl (.tmp 9) (.tmp 10) 96 96 rfl 86 Tryz.underlying96 (by kernel_rfl) _ _ _ _ _ _ rfl rfl w.heap.size 0 (zL (List.replicate (n) 0)) 86 hr1 (zL x) ?c1 ?c2 ?c3 (ybG x) w.heap.size w hb1 nl ?_)
 case c1=>rw [zW,hx.len];exact (Nat.min_eq_left (by omega)).symm
 case c2=>exact fun h=>hx1.cells h
 case c3=>rw [zW,zW,hx.len,List.length_replicate];omega
 intro w2 hr2 hb2
 have hr:zZ w2 w.heap.size 86 (x++List.replicate (n-n) 0):=by
  have:=hr2.out
  rw [yb7 _ x _ _ rfl,yb8 x (n) (by rw [hx.len];omega),hx.len] at this
  exact this
 have hlen:(x++List.replicate (n-n) 0).length=n:=by rw [List.length_append,List.length_replicate,hx.len];omega
 have uY:yQ yB (x++List.replicate (n-n) 0):=dx.append (yQ.zeros yU _)
 have zQ:val yB (x++List.replicate (n-n) 0)=val yB x:=by rw [uD,GH];omega
 obtain ⟨L,hL⟩:∃ L,Hid (L=x++List.replicate (n-n) 0):=⟨_,yA rfl⟩
 rw [← hL.out] at hr hlen uY zQ
 have Hlen:=yA hlen
 have Hval:=yA zQ
 have hq:m=0∨∀ b o,q=some ⟨b,o,none⟩→b≠w.heap.size:=by
  rcases hy.cell with h|⟨b,o,h1,h2,_⟩
  ·exact .inl h
  ·refine .inr fun b' o' h=>?_
   rw [h1] at h;cases h;omega
 have yc5:yT L 0 (n)=L:=yaq L (n) hlen.symm
 have ykQ:yQ yB (yT L 0 (n)):=by rw [yc5];exact uY
 have HsegL:=yA yc5
 clear hr2 hlen zQ yc5
 have hbn:n≤maxLen:=by unfold maxLen;omega
 go_wp2_with fail
 refine (yfQ w.heap.size 0 (n) (n) 86 L q m d y _ hbn (by rw [Hlen.out];omega) (by omega) hr (hy.below hb2) hq ykQ dy).mono ?_
 rintro e w3 ⟨L',cy,zM,hd',hc1,hv',rfl,ho,hr'⟩
 have hl':L'.length=n:=by rw [zM.length];exact Hlen.out
 rw [HsegL.out,Hval.out,yaq L' (n) hl'.symm] at hv'
 rw [yaq L' (n) hl'.symm] at hd'
 have hlx:=vU (yT L' 0 n) (by rw [yaq L' n hl'.symm];exact hd')
 rw [yaq L' n hl'.symm,hl'] at hlx
 have hs:=yra hv' hlx hle
 have hb3:=Only.below hb2 ho nl
 have ht:=yac (some ⟨w.heap.size,0,none⟩) (n) (n) L' w w3 hbn nl (hr'.rd0 (n) hl'.symm) hd' hb3
 rw [hs] at ht
 have Ht:=yA ht
 clear ht hs hv' hl' hlx
 go_wp2_with fail
 refine Ht.out.mono ?_
 rintro e w4 ⟨v,rfl,hv⟩
 go_wp2
 go_ret
 exact ⟨v,rfl,hv⟩
/-! ## The same for numbers in memory -/
theorem ydI (u v:Value) (a b K:Nat) (w:World) (hK:K≤yF) (ha:a<yB^K) (hle:b≤a) (hu:yH w u a) (hv:yH w v b):Calls Tryz.prog 139 #[u,v] w (zJ (a-b) w):=by
 obtain ⟨p,n,c,x,rfl,h1,h2,h3,h4⟩:=hu
 obtain ⟨q,m,d,y,rfl,g1,g2,g3,g4⟩:=hv
 have hn:=yaS h3 h4 ha h2
 have hm:m≤n:=by
  have:=yW.length_le g3 h3.1 (by rw [h4,g4];exact hle)
  rw [h2.len,g2.len] at this;exact this
 subst h4 g4
 exact yo1 p n c x q m d y w (by omega) hm h2 g2 h3.1 g3.1 hle
end Go.Proofs.YtgepehlpjpccaaaGreatDoor
namespace Big
open Go.Proofs.YtgepehlpjpccaaaGreatDoor
end Big
namespace Go.Proofs.YtgepehlpjpccaaaGreatDoor
open Go.RowKit Big
end Go.Proofs.YtgepehlpjpccaaaGreatDoor
namespace Go.Proofs.YtgepehlpjpccaaaGreatDoor
open Go.RowKit Big
variable {B : Nat} {s : Bool} {u1 v1 : Value} {t : Bool} {u2 v2 : Value} {w0 W W' : World}
theorem ywF (x y:Value) (s t:Bool) (a b c d K:Nat) (w:World) (hK:K≤1073741824) (ha:a<yB^K) (hb:b<yB^K) (hc:c<yB^K) (hd:d<yB^K) (hx:vE w x s a b) (hy:vE w y t c d) :
  Calls Tryz.prog 79 #[x,y] w (uZ (s != t) (a*d) (b*c) w):=by
 obtain ⟨u1,v1,rfl,hu1,hv1,hs1⟩:=hx
 obtain ⟨u2,v2,rfl,hu2,hv2,hs2⟩:=hy
 have hm1:Hid (∀ W,Be w W→Calls Tryz.prog 133 #[u1,v2] W (zJ (a*d) W)):=yA fun W h=>yad _ _ _ _ K W (by omega) ha hd (hu1.below h) (hv2.below h)
 have hm2:Hid (∀ W,Be w W→Calls Tryz.prog 133 #[v1,u2] W (zJ (b*c) W)):=yA fun W h=>yad _ _ _ _ K W (by omega) hb hc (hv1.below h) (hu2.below h)
 have jC:=Two.start w s u1 v1 t u2 v2
 have Htwo:=yA jC
 obtain ⟨-,c0,c1,c2,c3,c4,c5⟩:=jC.all
 clear jC
 clear hu1 hv1 hu2 hv2 hs1 hs2
 go_in
 go_wp2_with fail
 go_region_held3 (fun w'=>Two w.heap.size s u1 v1 t u2 v2 w w'∧w'.cell? ⟨w.heap.size,0,none⟩=some (.bool s)∧w'.cell? ⟨w.heap.size,1,none⟩=some u1∧w'.cell? ⟨w.heap.size,2,none⟩=some v1 ∧
   w'.cell? ⟨w.heap.size+1,0,none⟩=some (.bool t)∧w'.cell? ⟨w.heap.size+1,1,none⟩=some u2∧w'.cell? ⟨w.heap.size+1,2,none⟩=some v2)
  (first|exact Two.all (Two.drew Htwo.out)|exact Two.all Htwo.out|(go_split_ands;exact Two.all (Two.next (by assumption) hb1))|(go_split_ands;exact Two.all (Two.next (by assumption) hb2))|(go_split_ands;exact Two.all (Two.next (by assumption) hb3))|(go_split_ands;exact Two.all (Two.put3 (by assumption) nl _ _ _ _ _ _ _))|go_keep)
  (first|(go_at_call_of 133 u1;go_split_ands;refine (hm1.out _ (Two.below (by assumption))).mono ?_;rintro e w1 ⟨vt,rfl,hvt,hb1⟩;obtain ⟨pt,nt,ct,rfl⟩:=hvt.slice)|(go_at_call_of 133 v1;go_split_ands;refine (hm2.out _ (Two.below (by assumption))).mono ?_;rintro e w2 ⟨vb,rfl,hvb,hb2⟩;obtain ⟨pb,nb,cb,rfl⟩:=hvb.slice)|(go_at_call 132;go_split_ands;refine (vW _ _ _ _ _ _ (yH.below (by assumption) (by assumption)) (by assumption)).mono ?_;rintro e w3 ⟨rfl,hb3⟩;have htw:=Two.next (by assumption) hb3;obtain ⟨z0,z1,z2,k0,k1,k2,f0,f1,f2⟩:=Two.slots htw))
 go_wp2_with fail
 have q1:=htw.nat3 nl ((hvt.below hb2).below hb3) ((s != t)&&!(a*d==0)) pt pb nt ct nb cb
 have q2:=htw.nat3 nl (hvb.below hb3) ((s != t)&&!(a*d==0)) pt pb nt ct nb cb
 have q3:=(htw.put3 nl ((s != t)&&!(a*d==0)) pt pb nt ct nb cb).below
 have yD:Hid (∀ W,W=(((w3.setCell ⟨w.heap.size+1+1,0,none⟩ (.bool ((s != t)&&!(a*d==0)))).setCell ⟨w.heap.size+1+1,1,none⟩ (.slice pt nt ct)).setCell ⟨w.heap.size+1+1,2,none⟩ (.slice pb nb cb))→uZ (s != t) (a*d) (b*c) w (.returned (.agg #[.bool ((s != t)&&!(a*d==0)),.slice pt nt ct,.slice pb nb cb])) W):=yA (by
  rintro W rfl
  exact ⟨_,rfl,⟨_,_,rfl,q1,q2,by intro h;simp at h;omega⟩,q3⟩)
 refine bodyPost_ret (v:=.agg #[.bool (!(s==t)&&!(a*d==0)),.slice pt nt ct,.slice pb nb cb]) (by simp [results,Tryz.results79,go_sem,k0,k1,k2]) rfl ?_
 exact yD.out _ rfl
theorem ywG (x y:Value) (s t:Bool) (a b c d K:Nat) (w:World) (hK:K≤1073741824) (ha:a<yB^K) (hb:b<yB^K) (hc:c<yB^K) (hd:d<yB^K) (hx:vE w x s a b) (hy:vE w y t c d) :
  Calls Tryz.prog 91 #[x,y] w (uZ (s != t) (a*c) (b*d) w):=by
 obtain ⟨u1,v1,rfl,hu1,hv1,hs1⟩:=hx
 obtain ⟨u2,v2,rfl,hu2,hv2,hs2⟩:=hy
 have hm1:Hid (∀ W,Be w W→Calls Tryz.prog 133 #[u1,u2] W (zJ (a*c) W)):=yA fun W h=>yad _ _ _ _ K W (by omega) ha hc (hu1.below h) (hu2.below h)
 have hm2:Hid (∀ W,Be w W→Calls Tryz.prog 133 #[v1,v2] W (zJ (b*d) W)):=yA fun W h=>yad _ _ _ _ K W (by omega) hb hd (hv1.below h) (hv2.below h)
 have jC:=Two.start w s u1 v1 t u2 v2
 have Htwo:=yA jC
 obtain ⟨-,c0,c1,c2,c3,c4,c5⟩:=jC.all
 clear jC
 clear hu1 hv1 hu2 hv2 hs1 hs2
 go_in
 go_wp2_with fail
 go_region_held3 (fun w'=>Two w.heap.size s u1 v1 t u2 v2 w w'∧w'.cell? ⟨w.heap.size,0,none⟩=some (.bool s)∧w'.cell? ⟨w.heap.size,1,none⟩=some u1∧w'.cell? ⟨w.heap.size,2,none⟩=some v1 ∧
   w'.cell? ⟨w.heap.size+1,0,none⟩=some (.bool t)∧w'.cell? ⟨w.heap.size+1,1,none⟩=some u2∧w'.cell? ⟨w.heap.size+1,2,none⟩=some v2)
  (first|exact Two.all (Two.drew Htwo.out)|exact Two.all Htwo.out|(go_split_ands;exact Two.all (Two.next (by assumption) hb1))|(go_split_ands;exact Two.all (Two.next (by assumption) hb2))|(go_split_ands;exact Two.all (Two.next (by assumption) hb3))|(go_split_ands;exact Two.all (Two.put3 (by assumption) nl _ _ _ _ _ _ _))|go_keep)
  (first|(go_at_call_of 133 u1;go_split_ands;refine (hm1.out _ (Two.below (by assumption))).mono ?_;rintro e w1 ⟨vt,rfl,hvt,hb1⟩;obtain ⟨pt,nt,ct,rfl⟩:=hvt.slice)|(go_at_call_of 133 v1;go_split_ands;refine (hm2.out _ (Two.below (by assumption))).mono ?_;rintro e w2 ⟨vb,rfl,hvb,hb2⟩;obtain ⟨pb,nb,cb,rfl⟩:=hvb.slice)|(go_at_call 132;go_split_ands;refine (vW _ _ _ _ _ _ (yH.below (by assumption) (by assumption)) (by assumption)).mono ?_;rintro e w3 ⟨rfl,hb3⟩;have htw:=Two.next (by assumption) hb3;obtain ⟨z0,z1,z2,k0,k1,k2,f0,f1,f2⟩:=Two.slots htw))
 go_wp2_with fail
 have q1:=htw.nat3 nl ((hvt.below hb2).below hb3) ((s != t)&&!(a*c==0)) pt pb nt ct nb cb
 have q2:=htw.nat3 nl (hvb.below hb3) ((s != t)&&!(a*c==0)) pt pb nt ct nb cb
 have q3:=(htw.put3 nl ((s != t)&&!(a*c==0)) pt pb nt ct nb cb).below
 have yD:Hid (∀ W,W=(((w3.setCell ⟨w.heap.size+1+1,0,none⟩ (.bool ((s != t)&&!(a*c==0)))).setCell ⟨w.heap.size+1+1,1,none⟩ (.slice pt nt ct)).setCell ⟨w.heap.size+1+1,2,none⟩ (.slice pb nb cb))→uZ (s != t) (a*c) (b*d) w (.returned (.agg #[.bool ((s != t)&&!(a*c==0)),.slice pt nt ct,.slice pb nb cb])) W):=yA (by
  rintro W rfl
  exact ⟨_,rfl,⟨_,_,rfl,q1,q2,by intro h;simp at h;omega⟩,q3⟩)
 refine bodyPost_ret (v:=.agg #[.bool (!(s==t)&&!(a*c==0)),.slice pt nt ct,.slice pb nb cb]) (by simp [results,Tryz.results91,go_sem,k0,k1,k2]) rfl ?_
 exact yD.out _ rfl
end Go.Proofs.YtgepehlpjpccaaaGreatDoor
namespace Big
open Go.Proofs.YtgepehlpjpccaaaGreatDoor
theorem ylH {s t:Bool} {a b c d:Nat} (hb:0<b) (hd:0<d):yM (s != t) (a*c) (b*d)=yM s a b*yM t c d:=by
 have h1:=uR hb
 have h2:=uR hd
 unfold yM
 rw [Rat.natCast_mul,Rat.natCast_mul]
 cases s<;>cases t<;>simp<;>grind
theorem ylI {s t:Bool} {a b c d:Nat} (hb:0<b) (hd:0<d) (hc:0<c):yM (s != t) (a*d) (b*c)=yM s a b/yM t c d:=by
 have h1:=uR hb
 have h2:=uR hd
 have h3:=uR hc
 unfold yM
 rw [Rat.natCast_mul,Rat.natCast_mul]
 cases s<;>cases t<;>simp<;>grind
end Big
