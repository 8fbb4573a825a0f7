/- Slabs: their shape, and the function that leads from a slab's indexes to the array's. -/
import Derived.Test.YtlcpcpmlfegejaaGreatDoorGM
set_option maxHeartbeats 2000000
set_option maxRecDepth 100000
namespace Go.Proofs.YtlcpcpmlfegejaaGreatDoor.Arr
open Go.RowKit Go.Shelf
open Go.Lib
attribute [local go_sem] Oper.semAt_some
def cnts (l:List (Int × Int × Int)):List Nat:=l.map (fun z=>z.2.1.toNat)
theorem cnts_at {l:List (Int × Int × Int)} {k:Nat} (hk:k<l.length):(cnts l).getD k 0=(l.getD k (0,0,0)).2.1.toNat:=by
 simp [cnts,List.getD_eq_getElem?_getD,hk]
theorem ixC_mid {A B:List Nat} {x k:Nat} (hk:A.length=k):(ixC (A++x::B))[k]?=some (.int .i64 ((x:Nat):Int)):=by
 rw [ixC_at (by simp;omega),getD_mid hk]
theorem zn_succ {n i:Nat} (h:i<n):zn (n-i)=0::zn (n-(i+1)):=by
 rw [show n-i=(n-(i+1))+1 by omega];rfl
def ShapePost (w:World) (n:Nat) (l:List (Int × Int × Int)) (e:Ending) (w':World):Prop:=Below w.heap.size w w'∧∃ g,w.heap.size≤g∧e=.returned (.slice (some ⟨g,0,none⟩) n n)∧w'.heap[g]?=some (.cells (ixC (cnts l)) 3 (0,0))
theorem shapeof_any (q:Option Addr) (d n:Nat) (l:List (Int × Int × Int)) (w:World) (hn:n≤4) (hl:Hid (l.length=n)) (hc:Hid (∀ z ∈ l,0≤z.2.1∧z.2.1≤1024)) (hq:RdC w q l) :
  Calls Tryz.prog 54 #[.slice q n d] w (ShapePost w n l):=by
 have HQ:=Lib.hid hq
 have hni:(n:Int)≤4:=by omega
 have hmk:=fun W=>make_ints n (by omega) W
 obtain ⟨g,HG⟩:∃ g,Hid (g=w.heap.size):=⟨_,rfl⟩
 obtain ⟨W1,HW1⟩:∃ W1,Hid (w.alloc (.cells (ixC (zn n)) 3)=W1):=⟨_,Lib.hid rfl⟩
 have HB1:Hid (Below w.heap.size w W1):=Lib.hid (by rw [← HW1.out];exact (Below.refl _ w).alloc (Nat.le_refl _) _)
 have HR1:Hid (W1.heap[g]?=some (.cells (ixC ((cnts l).take 0++zn (n-0))) 3 (0,0))):=Lib.hid (by rw [← HW1.out,HG.out];exact World.alloc_heap_new w _)
 clear hq
 go_enter Tryz.func54,Tryz.ntmps54
 go_wp2_with fail
 rw [HW1.out,← HG.out]
 clear hmk
 go_loopw [11] (fun iv wr=>∃ i:Nat,i≤n∧iv=.int .i64 i∧Hid (Below w.heap.size w wr)∧Hid (wr.heap[g]?=some (.cells (ixC ((cnts l).take i++zn (n-i))) 3 (0,0)))) (fun iv _=>n-(Go.RowKit.intOf iv).toNat)
 case atStart=>exact ⟨0,Nat.zero_le _,rfl,HB1,HR1⟩
 case round =>
  obtain ⟨i,hi,rfl,HB,HR⟩:=hrel
  have ii:(i:Int)≤(n:Int):=by omega
  by_cases hlt:i<n
  ·have ilt:(i:Int)<(n:Int):=by omega
   have hil:i<l.length:=by rw [hl.out];exact hlt
   obtain ⟨b2,o2,x,y,z,rfl,hb2,hx,hy,hz,HZ,-⟩:=(HQ.out.below HB.out).at hil
   obtain ⟨m,HM⟩:∃ m,Hid (m=(cnts l).getD i 0):=⟨_,rfl⟩
   have hym:y=(m:Int):=by
    have hm:l.getD i (0,0,0) ∈ l:=by rw [List.getD_eq_getElem?_getD,List.getElem?_eq_getElem hil];exact List.getElem_mem hil
    have h0:=(hc.out _ hm).1
    rw [HM.out,cnts_at hil]
    rw [HZ.out] at h0 ⊢
    exact (Int.toNat_of_nonneg h0).symm
   subst hym
   have hgw:g<wr.heap.size:=(Array.getElem?_eq_some_iff.1 HR.out).1
   have hcl:((cnts l).take i).length=i:=by rw [List.length_take,cnts,List.length_map];omega
   have HRm:=HR.out
   rw [zn_succ hlt] at HRm
   obtain ⟨W2,HW2⟩:∃ W2,Hid (wr.alloc (.cells #[.int .i64 x,.int .i64 (m:Int),.int .i64 z] 53)=W2):=⟨_,Lib.hid rfl⟩
   have HBw:Hid (Below wr.heap.size wr W2):=Lib.hid (by rw [← HW2.out];exact (Below.refl _ wr).alloc (Nat.le_refl _) _)
   have hbox:W2.heap[wr.heap.size]?=some (.cells #[.int .i64 x,.int .i64 (m:Int),.int .i64 z] 53 (0,0)):=by rw [← HW2.out];exact World.alloc_heap_new wr _
   have hrow:=(HBw.out.block g hgw).trans HRm
   have c0:(wr.alloc (.cells #[.int .i64 x,.int .i64 (m:Int),.int .i64 z] 53)).cell? ⟨wr.heap.size,1,none⟩=some (.int .i64 (m:Int)):=by rw [HW2.out];simp [World.cell?,hbox]
   have c1:(wr.alloc (.cells #[.int .i64 x,.int .i64 (m:Int),.int .i64 z] 53)).cell? ⟨g,i,none⟩=some (.int .i64 ((0:Nat):Int)):=by rw [HW2.out];simp [World.cell?,hrow,ixC_mid hcl]
   have z1:(wr.alloc (.cells #[.int .i64 x,.int .i64 (m:Int),.int .i64 z] 53)).frozen? ⟨g,i,none⟩=false:=by rw [HW2.out];simp [World.frozen?,hrow]
   have HE:=Lib.hid (heap_set wr g i (.int .i64 (m:Int)) _ _ HRm)
   have hsz:(wr.setCell ⟨g,i,none⟩ (.int .i64 (m:Int))).heap.size=wr.heap.size:=by unfold World.setCell;simp
   have HR2:Hid (((wr.setCell ⟨g,i,none⟩ (.int .i64 (m:Int))).alloc (.cells #[.int .i64 x,.int .i64 (m:Int),.int .i64 z] 53)).heap[g]?=some (.cells (ixC ((cnts l).take (i+1)++zn (n-(i+1)))) 3 (0,0))):=Lib.hid (by
    have h:=HE.out
    rw [ixC_set ((cnts l).take i) 0 m _ hcl] at h
    rw [take_succ' (by rw [cnts,List.length_map];exact hil),List.append_assoc,← HM.out]
    exact ((Below.alloc (Below.refl _ _) (Nat.le_refl _) _).block g (by rw [hsz];exact hgw)).trans h)
   have HB2:Hid (Below w.heap.size w ((wr.setCell ⟨g,i,none⟩ (.int .i64 (m:Int))).alloc (.cells #[.int .i64 x,.int .i64 (m:Int),.int .i64 z] 53))):=Lib.hid (by
    refine (HB.out.setCell (p:=⟨g,i,none⟩) (by show w.heap.size≤g;rw [HG.out];exact Nat.le_refl _) _).alloc ?_ _
    rw [hsz];exact HB.out.size)
   clear hrow hbox HRm
   go_wp2_with fail
   go_roundw
   case rel=>exact ⟨i+1,by omega,by go_num,HB2,HR2⟩
   case measure=>simp [Go.RowKit.intOf];omega
  ·obtain rfl:i=n:=by omega
   have ilt:¬ (i:Int)<(i:Int):=by omega
   have hfin:Hid (ShapePost w i l (.returned (.slice (some ⟨g,0,none⟩) i i)) wr):=Lib.hid ⟨HB.out,g,by rw [HG.out];exact Nat.le_refl _,rfl,by
    have h:=HR.out
    rw [Nat.sub_self,List.take_of_length_le (by rw [cnts,List.length_map,hl.out];exact Nat.le_refl _)] at h
    simpa [zn] using h⟩
   go_wp2_with fail
   go_ret
   exact hfin.out
theorem within_any (q:Option Addr) (d n:Nat) (w:World) (hn:n≤4) :
  Calls Tryz.prog 52 #[.slice q n d] w fun e w'=>e=.returned (.func (.func 89) #[] #[.pointer (some ⟨w.heap.size,0,none⟩),.pointer (some ⟨w.heap.size+1+1,0,none⟩)]) ∧
   w'=((w.alloc (.cells #[.slice q n d] 54)).alloc (.cells (ixC (zn n)) 3)).alloc (.cells #[.slice (some ⟨w.heap.size+1,0,none⟩) n n] 29):=by
 have hni:(n:Int)≤4:=by omega
 have hmk:=fun W=>make_ints n (by omega) W
 go_enter Tryz.func52,Tryz.ntmps52
 go_wp2_with fail
 go_ret
 exact ⟨rfl,rfl⟩
end Go.Proofs.YtlcpcpmlfegejaaGreatDoor.Arr
set_option maxHeartbeats 2000000
set_option maxRecDepth 100000
namespace Go.Proofs.YtlcpcpmlfegejaaGreatDoor.Arr
open Go.RowKit Go.Shelf
open Go.Lib
attribute [local go_sem] Oper.semAt_some
def thrAt (l:List (Int × Int × Int)) (ix:List Nat) (k:Nat):Nat:=((l.getD k (0,0,0)).1+(ix.getD k 0:Int)*(l.getD k (0,0,0)).2.2).toNat
def thr (l:List (Int × Int × Int)) (ix:List Nat):List Nat:=(List.range l.length).map (thrAt l ix)
def ThrOk (l:List (Int × Int × Int)) (ix:List Nat):Prop:=∀ k,k<l.length→0≤(l.getD k (0,0,0)).1∧(l.getD k (0,0,0)).1≤1024∧0≤(ix.getD k 0:Int)*(l.getD k (0,0,0)).2.2∧(ix.getD k 0:Int)*(l.getD k (0,0,0)).2.2≤1024
theorem thr_len (l:List (Int × Int × Int)) (ix:List Nat):(thr l ix).length=l.length:=by simp [thr]
theorem thr_get {l:List (Int × Int × Int)} {ix:List Nat} {k:Nat} (h:k<l.length):(thr l ix).getD k 0=thrAt l ix k:=by
 unfold thr
 rw [List.getD_eq_getElem?_getD,List.getElem?_map,List.getElem?_range h];rfl
theorem RdC.gb {W W':World} {p:Option Addr} {s:List (Int × Int × Int)} {g:Nat} (h:RdC W p s) (hg:W.grownBy W' (some g)) (hne:∀ b off,p=some ⟨b,off,none⟩→0<s.length→b≠g):RdC W' p s:=by
 refine ⟨h.wf,?_⟩
 rcases h.cell with h0|⟨b,off,h1,h2,h3⟩
 ·exact .inl h0
 ·by_cases hs0:0<s.length
  ·have hb:=hg.block b h2 (fun e=>hne b off h1 hs0 (Option.some.inj e))
   exact .inr ⟨b,off,h1,Nat.lt_of_lt_of_le h2 hg.size,fun j hj=>⟨(World.cell?_of_block (a:=⟨b,off+j*3,none⟩) hb).trans (h3 j hj).1,(World.cell?_of_block (a:=⟨b,off+j*3+1,none⟩) hb).trans (h3 j hj).2.1,(World.cell?_of_block (a:=⟨b,off+j*3+2,none⟩) hb).trans (h3 j hj).2.2⟩⟩
  ·exact .inl (by omega)
structure Wi (W:World) (Bc Bw R n d:Nat) (q:Option Addr) (l:List (Int × Int × Int)):Prop where
 bc:W.heap[Bc]?=some (.cells #[.slice q n d] 54 (0,0))
 bw:W.heap[Bw]?=some (.cells #[.slice (some ⟨R,0,none⟩) n n] 29 (0,0))
 cuts:RdC W q l
 nc:Bc≠R
 nw:Bw≠R
 ncuts:∀ b off,q=some ⟨b,off,none⟩→0<l.length→b≠R
theorem Wi.gb {W W':World} {Bc Bw R n d:Nat} {q:Option Addr} {l:List (Int × Int × Int)} (h:Wi W Bc Bw R n d q l) (hg:W.grownBy W' (some R)):Wi W' Bc Bw R n d q l :=
 ⟨(hg.block Bc (Array.getElem?_eq_some_iff.1 h.bc).1 (by intro e;cases e;exact h.nc rfl)).trans h.bc,(hg.block Bw (Array.getElem?_eq_some_iff.1 h.bw).1 (by intro e;cases e;exact h.nw rfl)).trans h.bw,h.cuts.gb hg h.ncuts,h.nc,h.nw,h.ncuts⟩
def ThrPost (R n:Nat) (l:List (Int × Int × Int)) (ix:List Nat) (w:World) (e:Ending) (w':World):Prop:=e=.returned (.slice (some ⟨R,0,none⟩) n n)∧w.grownBy w' (some R)∧w'.heap[R]?=some (.cells (ixC (thr l ix)) 3 (0,0))
theorem thr_any (p q:Option Addr) (c d n R Bc Bw:Nat) (l:List (Int × Int × Int)) (ix r0:List Nat) (w:World) (hn:n≤4) (hl:Hid (l.length=n)) (hi:Hid (ix.length=n)) (h0:Hid (r0.length=n)) (hok:Hid (ThrOk l ix)) (hw:Wi w Bc Bw R n d q l) (hp:RdN w p ix) (hpR:∀ b off,p=some ⟨b,off,none⟩→0<n→b≠R) (hr:w.heap[R]?=some (.cells (ixC r0) 3 (0,0))) :
  Calls Tryz.prog 89 #[.slice p n c,.pointer (some ⟨Bc,0,none⟩),.pointer (some ⟨Bw,0,none⟩)] w (ThrPost R n l ix w):=by
 have HP:=Lib.hid hp
 have HW:=Lib.hid hw
 have HPR:=Lib.hid hpR
 have HR0:=Lib.hid hr
 have hni:(n:Int)≤4:=by omega
 have cc:w.cell? ⟨Bc,0,none⟩=some (.slice q n d):=by simp [World.cell?,HW.out.bc]
 clear hp hw hpR hr
 go_enter Tryz.func89,Tryz.ntmps89
 go_wp2_with fail
 go_loopw [9] (fun iv wr=>∃ (j:Nat),j≤n∧iv=.int .i64 j∧Hid (wr.heap[R]?=some (.cells (ixC ((thr l ix).take j++r0.drop j)) 3 (0,0)))∧Hid (w.grownBy wr (some R))) (fun iv _=>n-(Go.RowKit.intOf iv).toNat)
 case atStart=>exact ⟨0,Nat.zero_le _,rfl,Lib.hid (by simpa using HR0.out),Lib.hid ⟨rfl,rfl,rfl,Nat.le_refl _,fun _ _ _=>rfl⟩⟩
 case round =>
  obtain ⟨j,hj,rfl,HR,HB⟩:=hrel
  have ij:(j:Int)≤(n:Int):=by omega
  by_cases hlt:j<n
  ·have ilt:(j:Int)<(n:Int):=by omega
   have hjl:j<l.length:=by rw [hl.out];exact hlt
   have HW2:=Lib.hid (HW.out.gb HB.out)
   have HP2:Hid (RdN wr p ix):=Lib.hid (HP.out.gb HB.out (fun b off e h=>HPR.out b off e (by rw [hi.out] at h;exact h)))
   obtain ⟨b2,o2,x,y,z,e2,hb2,hx,hy,hz,HZ,-⟩:=HW2.out.cuts.at hjl
   obtain ⟨b1,o1,i,e1,hb1,hc1,HX⟩:=HP2.out.at (k:=j) (by rw [hi.out];exact hlt)
   have hn1:=HPR.out b1 o1 e1 (by omega)
   have hn2:=HW2.out.ncuts b2 o2 e2 (by omega)
   subst e1 e2
   have hbounds:=hok.out j hjl
   rw [HZ.out,← HX.out] at hbounds
   obtain ⟨hx0,hx1,hm0,hm1⟩:=hbounds
   obtain ⟨u,rfl⟩:=Int.eq_ofNat_of_zero_le hx0
   obtain ⟨m,hm⟩:=Int.eq_ofNat_of_zero_le hm0
   obtain ⟨v,HV⟩:∃ v,Hid (v=u+m):=⟨_,rfl⟩
   have huv:(u:Int)+(m:Int)=(v:Int):=by rw [HV.out];omega
   have ivb:(v:Int)≤2048:=by omega
   have cw:wr.cell? ⟨Bw,0,none⟩=some (.slice (some ⟨R,0,none⟩) n n):=by simp [World.cell?,HW2.out.bw]
   obtain ⟨W1,HW1⟩:∃ W1,Hid (wr.alloc (.cells #[.int .i64 (u:Int),.int .i64 y,.int .i64 z] 53)=W1):=⟨_,Lib.hid rfl⟩
   have HB1:Hid (Below wr.heap.size wr W1):=Lib.hid (by rw [← HW1.out];exact (Below.refl _ _).alloc (Nat.le_refl _) _)
   have hbox:Hid (W1.heap[wr.heap.size]?=some (.cells #[.int .i64 (u:Int),.int .i64 y,.int .i64 z] 53 (0,0))):=Lib.hid (by rw [← HW1.out];exact World.alloc_heap_new wr _)
   have hRw:R<wr.heap.size:=(Array.getElem?_eq_some_iff.1 HR.out).1
   have hRd:W1.drew.heap[R]?=some (.cells (ixC ((thr l ix).take j++r0.drop j)) 3 (0,0)):=(HB1.out.block R hRw).trans HR.out
   have hbwW:Bw<wr.heap.size:=(Array.getElem?_eq_some_iff.1 HW2.out.bw).1
   have HALL:Hid (∀ W,W1.drew.grownBy W (some R)→W.cell? ⟨Bw,0,none⟩=some (.slice (some ⟨R,0,none⟩) n n)∧W.cell? ⟨wr.heap.size,0,none⟩=some (.int .i64 (u:Int))∧W.cell? ⟨wr.heap.size,2,none⟩=some (.int .i64 z)∧W.cell? ⟨b1,o1+j,none⟩=some (.int .i64 (i:Int))):=Lib.hid (fun W hW=>by
    have k1:=(hW.block Bw (Nat.lt_of_lt_of_le hbwW HB1.out.size) (by intro e;injection e with e;exact HW2.out.nw e)).trans ((HB1.out.block Bw hbwW).trans HW2.out.bw)
    have k2:=(hW.block wr.heap.size (Array.getElem?_eq_some_iff.1 hbox.out).1 (by intro e;injection e with e;omega)).trans hbox.out
    have k3:=(hW.block b1 (Nat.lt_of_lt_of_le hb1 HB1.out.size) (by intro e;injection e with e;exact hn1 e)).trans (HB1.out.block b1 hb1)
    exact ⟨by simp [World.cell?,k1],by simp [World.cell?,k2],by simp [World.cell?,k2],(World.cell?_of_block (a:=⟨b1,o1+j,none⟩) k3).trans hc1⟩)
   have HS1:Hid ((fun W=>W.cell? ⟨Bw,0,none⟩=some (.slice (some ⟨R,0,none⟩) n n)∧W.cell? ⟨wr.heap.size,0,none⟩=some (.int .i64 (u:Int))∧W.cell? ⟨wr.heap.size,2,none⟩=some (.int .i64 z)∧W.cell? ⟨b1,o1+j,none⟩=some (.int .i64 (i:Int))) W1.drew):=Lib.hid (HALL.out _ ⟨rfl,rfl,rfl,Nat.le_refl _,fun _ _ _=>rfl⟩)
   have htl:((thr l ix).take j).length=j:=by rw [List.length_take,thr_len];omega
   have hrd:r0.drop j=r0.getD j 0::r0.drop (j+1):=by
    rw [List.drop_eq_getElem_cons (by rw [h0.out];exact hlt),List.getD_eq_getElem?_getD,List.getElem?_eq_getElem (by rw [h0.out];exact hlt)];rfl
   have hcr:W1.drew.cell? ⟨R,j,none⟩=some (.int .i64 ((r0.getD j 0:Nat):Int)):=by
    have h:=cell_row hRd (k:=j) (by rw [List.length_append,htl,List.length_drop,h0.out];omega)
    rw [hrd,getD_mid htl] at h
    exact h
   have hfr:W1.drew.frozen? ⟨R,j,none⟩=false:=free_row hRd
   have hva:thrAt l ix j=v:=by
    unfold thrAt;rw [HZ.out,← HX.out,HV.out]
    show ((u:Int)+(i:Int)*z).toNat=u+m
    rw [hm];omega
   have hwr:IntKind.i64.wrap ((u:Int)+IntKind.i64.wrap (m:Int))=(v:Int):=by rw [IntWalk.i64_in (m:Int) (by omega),huv];exact IntWalk.i64_in _ (by omega)
   obtain ⟨W5,hW5⟩:∃ W5,(W1.setCell ⟨R,j,none⟩ (.int .i64 (v:Int))).drew=W5:=⟨_,rfl⟩
   have hg5:W1.drew.grownBy W5 (some R):=by rw [← hW5];exact gb_set W1.drew _ _ _
   have HS5:Hid ((fun W=>W.cell? ⟨Bw,0,none⟩=some (.slice (some ⟨R,0,none⟩) n n)∧W.cell? ⟨wr.heap.size,0,none⟩=some (.int .i64 (u:Int))∧W.cell? ⟨wr.heap.size,2,none⟩=some (.int .i64 z)∧W.cell? ⟨b1,o1+j,none⟩=some (.int .i64 (i:Int))) W5):=Lib.hid (HALL.out _ hg5)
   have HR5:Hid (W5.heap[R]?=some (.cells (ixC ((thr l ix).take (j+1)++r0.drop (j+1))) 3 (0,0))):=Lib.hid (by
    have h:=heap_set W1.drew R j (.int .i64 (v:Int)) _ _ hRd
    rw [hrd,ixC_set ((thr l ix).take j) (r0.getD j 0) v _ htl] at h
    change ((W1.setCell ⟨R,j,none⟩ (.int .i64 (v:Int))).drew).heap[R]?=_ at h
    rw [hW5] at h
    rw [take_succ' (by rw [thr_len];exact hjl),List.append_assoc,thr_get hjl,hva]
    exact h)
   have HB5:Hid (w.grownBy W5 (some R)):=Lib.hid ((HB.out.trans (gb_of_below HB1.out (some R))).trans ((⟨rfl,rfl,rfl,Nat.le_refl _,fun _ _ _=>rfl⟩:W1.grownBy W1.drew (some R)).trans hg5))
   clear hRd hg5 hrd htl hva
   go_wp2_with fail
   rw [HW1.out]
   refine wp_region_noPanic ?_
   refine wp_region_held_drew (S:=fun W=>W.cell? ⟨Bw,0,none⟩=some (.slice (some ⟨R,0,none⟩) n n)∧W.cell? ⟨wr.heap.size,0,none⟩=some (.int .i64 (u:Int))∧W.cell? ⟨wr.heap.size,2,none⟩=some (.int .i64 z)∧W.cell? ⟨b1,o1+j,none⟩=some (.int .i64 (i:Int))) (by kernel_rfl) HS1.out (fun hHeld=>?_)
   refine wpAnyH_take (i:=0) (v:=?v1) rfl (by kernel_rfl) (by kernel_rfl) (by kernel_rfl) (fun _ _ _ h=>h) (Or.inl ⟨by rfl,?hy1⟩) (by assumption) ?rest1
   case hy1 =>
    intro W' hSw
    obtain ⟨e0,e1,e2,e3⟩:=hSw
    go_simp
    with_reducible rfl
   simp only [List.getElem_toArray,List.getElem_cons_zero,Act.put,List.setIfInBounds_toArray,List.set_cons_zero,List.set_cons_succ]
   refine wpAnyH_take (i:=1) (v:=?v2) rfl (by kernel_rfl) (by kernel_rfl) (by kernel_rfl) (fun _ _ _ h=>h) (Or.inl ⟨by rfl,?hy2⟩) (by assumption) ?rest2
   case hy2 =>
    intro W' hSw
    obtain ⟨e0,e1,e2,e3⟩:=hSw
    go_simp
    with_reducible rfl
   simp only [List.getElem_toArray,List.getElem_cons_zero,List.getElem_cons_succ,Act.put,List.setIfInBounds_toArray,List.set_cons_zero,List.set_cons_succ]
   refine wpAnyH_take (i:=2) (v:=?v3) rfl (by kernel_rfl) (by kernel_rfl) (by kernel_rfl) (fun _ _ _ h=>h) (Or.inl ⟨by rfl,?hy3⟩) (by assumption) ?rest3
   case hy3 =>
    intro W' hSw
    obtain ⟨e0,e1,e2,e3⟩:=hSw
    go_simp
    with_reducible rfl
   simp only [List.getElem_toArray,List.getElem_cons_zero,List.getElem_cons_succ,Act.put,List.setIfInBounds_toArray,List.set_cons_zero,List.set_cons_succ]
   refine wpAnyH_take (i:=3) (v:=?v4) rfl (by kernel_rfl) (by kernel_rfl) (by kernel_rfl) (fun _ _ _ h=>h) (Or.inl ⟨by rfl,?hy4⟩) (by assumption) ?rest4
   case hy4 =>
    intro W' hSw
    obtain ⟨e0,e1,e2,e3⟩:=hSw
    go_simp
    with_reducible rfl
   simp only [List.getElem_toArray,List.getElem_cons_zero,List.getElem_cons_succ,Act.put,List.setIfInBounds_toArray,List.set_cons_zero,List.set_cons_succ]
   refine wpAnyH_take (i:=4) (v:=?v5) rfl (by kernel_rfl) (by kernel_rfl) (by kernel_rfl) (fun _ _ _ h=>h) (Or.inl ⟨by rfl,?hy5⟩) (by assumption) ?rest5
   case hy5 =>
    intro W' hSw
    obtain ⟨e0,e1,e2,e3⟩:=hSw
    go_simp
    with_reducible rfl
   simp only [List.getElem_toArray,List.getElem_cons_zero,List.getElem_cons_succ,Act.put,List.setIfInBounds_toArray,List.set_cons_zero,List.set_cons_succ]
   refine wpAnyH_take (i:=5) (v:=?v6) rfl (by kernel_rfl) (by kernel_rfl) (by kernel_rfl) (fun _ _ _ h=>h) (Or.inl ⟨by rfl,?hy6⟩) (by assumption) ?rest6
   case hy6 =>
    intro W' hSw
    obtain ⟨e0,e1,e2,e3⟩:=hSw
    go_simp
    with_reducible rfl
   simp only [List.getElem_toArray,List.getElem_cons_zero,List.getElem_cons_succ,Act.put,List.setIfInBounds_toArray,List.set_cons_zero,List.set_cons_succ]
   refine wpAnyH_take (i:=6) (v:=?v7) rfl (by kernel_rfl) (by kernel_rfl) (by kernel_rfl) (fun _ _ _ h=>h) (Or.inl ⟨by rfl,?hy7⟩) (by assumption) ?rest7
   case hy7 =>
    intro W' hSw
    obtain ⟨e0,e1,e2,e3⟩:=hSw
    go_simp
    with_reducible rfl
   simp only [List.getElem_toArray,List.getElem_cons_zero,List.getElem_cons_succ,Act.put,List.setIfInBounds_toArray,List.set_cons_zero,List.set_cons_succ]
   refine wpAnyH_take (i:=7) (v:=?v8) rfl (by kernel_rfl) (by kernel_rfl) (by kernel_rfl) (fun _ _ _ h=>h) (Or.inl ⟨by rfl,?hy8⟩) (by assumption) ?rest8
   case hy8 =>
    intro W' hSw
    obtain ⟨e0,e1,e2,e3⟩:=hSw
    go_simp
    with_reducible rfl
   simp only [List.getElem_toArray,List.getElem_cons_zero,List.getElem_cons_succ,Act.put,List.setIfInBounds_toArray,List.set_cons_zero,List.set_cons_succ]
   refine wpAnyH_take (i:=8) (v:=?v9) rfl (by kernel_rfl) (by kernel_rfl) (by kernel_rfl) (fun _ _ _ h=>h) (Or.inl ⟨by rfl,?hy9⟩) (by assumption) ?rest9
   case hy9 =>
    intro W' hSw
    obtain ⟨e0,e1,e2,e3⟩:=hSw
    go_simp
    with_reducible rfl
   simp only [List.getElem_toArray,List.getElem_cons_zero,List.getElem_cons_succ,Act.put,List.setIfInBounds_toArray,List.set_cons_zero,List.set_cons_succ]
   refine wpAnyH_take (i:=9) (v:=?v10) rfl (by kernel_rfl) (by kernel_rfl) (by kernel_rfl) (fun _ _ _ h=>h) (Or.inl ⟨by rfl,?hy10⟩) (by assumption) ?rest10
   case hy10 =>
    intro W' hSw
    obtain ⟨e0,e1,e2,e3⟩:=hSw
    go_simp
    with_reducible rfl
   simp only [List.getElem_toArray,List.getElem_cons_zero,List.getElem_cons_succ,Act.put,List.setIfInBounds_toArray,List.set_cons_zero,List.set_cons_succ]
   refine wpAnyH_take (i:=10) (v:=?v11) rfl (by kernel_rfl) (by kernel_rfl) (by kernel_rfl) (fun _ _ _ h=>h) (Or.inl ⟨by rfl,?hy11⟩) (by assumption) ?rest11
   case hy11 =>
    intro W' hSw
    obtain ⟨e0,e1,e2,e3⟩:=hSw
    go_simp
    with_reducible rfl
   simp only [List.getElem_toArray,List.getElem_cons_zero,List.getElem_cons_succ,Act.put,List.setIfInBounds_toArray,List.set_cons_zero,List.set_cons_succ]
   refine wpAnyH_take (i:=11) (v:=?v12) rfl (by kernel_rfl) (by kernel_rfl) (by kernel_rfl) (fun _ _ _ h=>h) (Or.inl ⟨by rfl,?hy12⟩) (by assumption) ?rest12
   case hy12 =>
    intro W' hSw
    obtain ⟨e0,e1,e2,e3⟩:=hSw
    go_simp
    with_reducible rfl
   simp only [List.getElem_toArray,List.getElem_cons_zero,List.getElem_cons_succ,Act.put,List.setIfInBounds_toArray,List.set_cons_zero,List.set_cons_succ]
   refine wpAnyH_take (i:=12) (v:=?v13) rfl (by kernel_rfl) (by kernel_rfl) (by kernel_rfl) (fun _ _ _ h=>h) (Or.inl ⟨by rfl,?hy13⟩) (by assumption) ?rest13
   case hy13 =>
    intro W' hSw
    obtain ⟨e0,e1,e2,e3⟩:=hSw
    go_simp
    with_reducible rfl
   simp only [List.getElem_toArray,List.getElem_cons_zero,List.getElem_cons_succ,Act.put,List.setIfInBounds_toArray,List.set_cons_zero,List.set_cons_succ]
   refine wpAnyH_ready (rs:=[13]) (by kernel_rfl) (by simp) ?_
   refine AllReadyH.cons (i:=13) rfl (fun K hK=>?_) AllReadyH.nil
   go_simp
   try rw [hwr]
   try rw [hW5]
   refine hK.out _ _ HS5.out (fun hHeld3=>?_)
   clear hK K
   refine wpAnyH_done (by kernel_rfl) ?_ _
   refine NoPanic.normal ?_
   clear hHeld hHeld3
   go_wp2_with fail
   go_roundw
   case rel=>exact ⟨j+1,by omega,by go_num,HR5,HB5⟩
   case measure=>simp [Go.RowKit.intOf];omega
  ·obtain rfl:j=n:=by omega
   have ilt:¬ (j:Int)<(j:Int):=by omega
   have HW2:=Lib.hid (HW.out.gb HB.out)
   have cw:wr.cell? ⟨Bw,0,none⟩=some (.slice (some ⟨R,0,none⟩) j j):=by simp [World.cell?,HW2.out.bw]
   have hfin:Hid (∀ k,ThrPost R j l ix w (.returned (.slice (some ⟨R,0,none⟩) j j)) (wr.drewN k)):=Lib.hid (fun k=>⟨rfl,HB.out.trans (gb_drew wr R k),by
    have h:=HR.out
    rw [List.take_of_length_le (by rw [thr_len,hl.out];exact Nat.le_refl _),List.drop_of_length_le (by rw [h0.out];exact Nat.le_refl _),List.append_nil] at h
    exact h⟩)
   go_wp2_with fail
   go_ret
   exact hfin.out 0
end Go.Proofs.YtlcpcpmlfegejaaGreatDoor.Arr
