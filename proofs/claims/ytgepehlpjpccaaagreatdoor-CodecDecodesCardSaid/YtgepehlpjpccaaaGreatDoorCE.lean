/- Contracts. -/
import Derived.Test.YtgepehlpjpccaaaGreatDoorAA
import Derived.Test.YtgepehlpjpccaaaGreatDoorProg
import Derived.WalkSpells
import Derived.WalkLawsBesides
import Derived.Lib.Hide
import Derived.Lib.OwnBridge
set_option maxHeartbeats 1600000
set_option maxRecDepth 100000
namespace Go.Proofs.YtgepehlpjpccaaaGreatDoor
open Go.RowKit
def Bs (w:World) (p:Oa) (l:Lb):Prop:=l.length=0∨∃ b off,p=some ⟨b,off,none⟩∧b<w.heap.size∧∀ j,j<l.length→w.cell? ⟨b,off+j,none⟩=some (.int .u8 (((l.getD j 0).toNat:Nat):Int))
theorem Bs.nil (w:World) (p:Oa):Bs w p []:=.inl rfl
theorem Bs.below {w w':World} {p:Oa} {l:Lb} (h:Bs w p l) (hb:Be w w'):Bs w' p l:=by
 rcases h with h0|⟨b,off,hp,hlt,hc⟩
 ·exact .inl h0
 ·exact .inr ⟨b,off,hp,Nat.lt_of_lt_of_le hlt hb.size,fun j hj=>(hb.cell (p:=⟨b,off+j,none⟩) hlt).trans (hc j hj)⟩
theorem Bs.at {w:World} {p:Oa} {l:Lb} (h:Bs w p l) {k:Nat} (hk:k<l.length):∃ (b off d:Nat),p=some ⟨b,off,none⟩∧b<w.heap.size∧w.cell? ⟨b,off+k,none⟩=some (.int .u8 (d:Int))∧Hid ((l.getD k 0).toNat=d)∧(d:Int)≤255:=by
 rcases h with h0|⟨b,off,h1,h2,h3⟩
 ·omega
 ·exact ⟨b,off,_,h1,h2,h3 k hk,rfl,by have:=(l.getD k 0).toNat_lt;omega⟩
theorem yc9 {l:Lb} {k:Nat} (h:k<l.length):l.take (k+1)=l.take k++[l.getD k 0]:=by
 rw [List.take_succ_eq_append_getElem h];simp [List.getD_eq_getElem?_getD,h]
section
open Go.Lib
theorem uF:(Tryz.prog.info? 5).map (fun i=>(i.zero,i.size,i.bytes))=some (some (.int .u8 0),1,1):=by kernel_rfl
def zN (l:Lb):List Value:=l.map fun b=>Value.int .u8 (b.toNat:Int)
theorem yaA (l:Lb):(zN l).length=l.length:=by simp [zN]
theorem ydQ (L:Lb):∀ v ∈ zN L,v.oneCell'=true:=by
 intro v hv;simp only [zN,List.mem_map] at hv;obtain ⟨d,_,rfl⟩:=hv;rfl
theorem yu3 {l:Lb} {j:Nat} {v:Value} (h:(zN l)[j]?=some v):j<l.length∧v=.int .u8 (((l.getD j 0).toNat:Nat):Int):=by
 have hj:j<l.length:=by have:=(List.getElem?_eq_some_iff.1 h).1;rwa [yaA] at this
 refine ⟨hj,?_⟩
 rw [zN,List.getElem?_map,List.getElem?_eq_getElem hj] at h
 rw [gD hj]
 exact (Option.some.inj h).symm
theorem Bs.news {w w':World} {p:Oa} {l:Lb} (h:Bs w p l) (hb:Be w w'):∀ ad,p=some ad→∀ j v,(zN l)[j]?=some v→w'.cell? (ad.add j)=some v:=by
 intro ad hp j v hv
 obtain ⟨hj,rfl⟩:=yu3 hv
 rcases h.below hb with h0|⟨b,off,h1,h2,h3⟩
 ·omega
 ·rw [hp] at h1;cases h1
  have hc:=h3 j hj
  cases j<;>simpa [Addr.add] using hc
theorem Bs.some {w:World} {p:Oa} {l:Lb} (h:Bs w p l) (hl:0<l.length):∃ ad,p=some ad:=by
 rcases h with h0|⟨b,off,h1,h2,h3⟩
 ·omega
 ·exact ⟨_,h1⟩
theorem zA {w:World} {B:Nat} {v:Value} {l:Lb} (h:w.ownsRow B 5 1 v l.length (zN l)):∃ p c,v=.slice p l.length c∧Bs w p l∧l.length≤c:=by
 obtain ⟨h1,⟨rfl,h3⟩|⟨g,cap,cur,rfl,hg,hh,hn,hm,hs,hc⟩⟩:=h
 ·exact ⟨none,0,by rw [h3],.inl h3,by omega⟩
 ·refine ⟨_,cap,rfl,.inr ⟨g,0,rfl,(Array.getElem?_eq_some_iff.1 hh).1,fun j hj=>?_⟩,hn⟩
  rw [Nat.mul_one] at hc
  have e:cur[j]?=(zN l)[j]?:=by rw [← hc,List.getElem?_take_of_lt hj,Array.getElem?_toList]
  rw [Nat.zero_add]
  simp only [World.cell?,hh]
  rw [zN,List.getElem?_map,List.getElem?_eq_getElem hj] at e
  simp [e,hj]
theorem yat {w:World} {B:Nat} {v:Value} {l:Lb} (h:w.ownsRow B 5 1 v l.length (zN l)) (hl:0<l.length):∃ g cap,v=.slice (some ⟨g,0,none⟩) l.length cap∧l.length≤cap∧B≤g∧g<w.heap.size ∧
  (∀ j,j<l.length→w.cell? ⟨g,j,none⟩=some (.int .u8 (((l.getD j 0).toNat:Nat):Int)))∧(∀ j,w.frozen? ⟨g,j,none⟩=false)∧∀ k (y:UInt8),k<l.length→(w.setCell ⟨g,k,none⟩ (.int .u8 (y.toNat:Int))).ownsRow B 5 1 v l.length (zN (l.set k y)):=by
 obtain ⟨h1,⟨rfl,h3⟩|⟨g,cap,cur,rfl,hg,hh,hn,hm,hs,hc⟩⟩:=h
 ·omega
 ·have hlt:g<w.heap.size:=(Array.getElem?_eq_some_iff.1 hh).1
  rw [Nat.mul_one] at hc
  refine ⟨g,cap,rfl,hn,hg,hlt,fun j hj=>?_,fun j=>by simp [World.frozen?,hh],fun k y hk=>?_⟩
  ·have e:cur[j]?=(zN l)[j]?:=by rw [← hc,List.getElem?_take_of_lt hj,Array.getElem?_toList]
   simp only [World.cell?,hh]
   rw [zN,List.getElem?_map,List.getElem?_eq_getElem hj] at e
   simp [e,hj]
  ·refine ⟨by simp [zN],.inr ⟨g,cap,cur.setIfInBounds k (.int .u8 (y.toNat:Int)),rfl,hg,?_,hn,hm,by simpa using hs,?_⟩⟩
   ·have hv:w.heap[g]=.cells cur 5 (0,0):=(Array.getElem?_eq_some_iff.1 hh).2
    unfold World.setCell
    rw [Array.getElem?_eq_getElem (by simpa using hlt),Array.getElem_modify]
    simp [hv]
   ·rw [Nat.mul_one,Array.toList_setIfInBounds,List.take_set,hc];simp [zN,List.map_set]
def be:Nat→Nat→Lb
 | 0,_=>[]
 | n+1,x=>UInt8.ofNat (x/256^n%256)::be n x
theorem zD (x:Nat):∀ n,(be n x).length=n
 | 0=>rfl
 | n+1=>by rw [be,List.length_cons,zD x n]
theorem yc4 {a b c:World} {r s:Option Nat} (h:a.grownBy b r) (k:b.grownBy c s) (hs:∀ j,s=some j→s=r∨a.heap.size≤j):a.grownBy c r :=
 ⟨k.os.trans h.os,k.tape.trans h.tape,k.output.trans h.output,Nat.le_trans h.size k.size,fun i hi hne=>(k.block i (Nat.lt_of_lt_of_le hi h.size) (fun e=>by
  rcases hs i e.symm with h1|h1
  ·exact hne (e.trans h1)
  ·omega)).trans (h.block i hi hne)⟩
theorem ydE (w:World) (r:Option Nat):w.grownBy w r:=⟨rfl,rfl,rfl,Nat.le_refl _,fun _ _ _=>rfl⟩
theorem yeK (w:World) (o:Obj) (r:Option Nat):w.grownBy (w.alloc o) r:=⟨rfl,rfl,rfl,by simp,fun k hk _=>Go.heap_alloc_old w o hk⟩
theorem yfW (x s:Nat):(x:Int)/2^s%256=((UInt8.ofNat (x/2^s%256)).toNat:Int):=by
 rw [UInt8.toNat_ofNat'];simp
structure Grew (B:Nat) (w:World) (v:Value) (l:Lb) (w':World) (v':Value):Prop where
 own:w'.ownsRow B 5 1 v' l.length (zN l)
 grown:w.grownBy w' v.ownBlock
 lies:v'.ownBlock=v.ownBlock∨∃ j,v'.ownBlock=some j∧w.heap.size≤j
theorem Grew.refl {B:Nat} {w:World} {v:Value} {l:Lb} (h:w.ownsRow B 5 1 v l.length (zN l)):Grew B w v l w v:=⟨h,ydE _ _,.inl rfl⟩
theorem Grew.trans {B:Nat} {w w1 w2:World} {v v1 v2:Value} {l l2:Lb} (h:Grew B w v l w1 v1) (k:Grew B w1 v1 l2 w2 v2):Grew B w v l2 w2 v2:=by
 refine ⟨k.own,yc4 h.grown k.grown (fun j hj=>?_),?_⟩
 ·rcases h.lies with h1|⟨i,h1,h2⟩
  ·exact .inl h1
  ·rw [h1] at hj;cases hj;exact .inr h2
 ·rcases k.lies with h1|⟨i,h1,h2⟩
  ·rw [h1];exact h.lies
  ·exact .inr ⟨i,h1,Nat.le_trans h.grown.size h2⟩
theorem Grew.next {B:Nat} {w wr w5:World} {v vr v5:Value} {l:Lb} {m:Nat} {c:UInt8} {o:Obj} (h:Grew B w v l wr vr) (hm:m=l.length+1) (yP:w5.ownsRow B 5 1 v5 m (zN l++[.int .u8 (c.toNat:Int)])) (hg:(wr.alloc o).grownBy w5 vr.ownBlock) (hl:v5.ownBlock=vr.ownBlock∨v5.ownBlock=some (wr.heap.size+1)):Grew B w v (l++[c]) w5 v5:=by
 subst hm
 refine h.trans ⟨?_,(yeK wr o _).trans hg,?_⟩
 ·have e:zN (l++[c])=zN l++[.int .u8 (c.toNat:Int)]:=by simp [zN]
  rw [e,List.length_append];exact yP
 ·rcases hl with h1|h1
  ·exact .inl h1
  ·exact .inr ⟨_,h1,by simp⟩
theorem Grew.below {B:Nat} {w w':World} {v v':Value} {l:Lb} (h:Grew B w v l w' v') (hB:B≤w.heap.size) (hv:∀ k,v.ownBlock=some k→B≤k):Below B w w':=bR.grown h.grown hB hv
def App (B:Nat) (w:World) (v:Value) (l:Lb) (e:Ending) (w':World):Prop:=∃ v',e=.returned v'∧Grew B w v l w' v'
theorem jV (B:Nat) (v:Value) (l:Lb) (x n:Nat) (w:World) (hn:n≤8) (hl:l.length≤100000000) (hB:B≤w.heap.size) (hv:w.ownsRow B 5 1 v l.length (zN l)) (hx:x<18446744073709551616) :
  Calls Tryz.prog 128 #[v,.int .u64 (x:Int),.int .i64 (n:Int)] w (App B w v (l++be n x)):=by
 obtain ⟨i0,hi,hz0,hz1,hz2⟩:=info_parts uF
 have HX:=h_ hx
 have HG0:=h_ (Grew.refl hv)
 clear hv hx
 have hni:(n:Int)≤8:=by omega
 have HL:=h_ hl
 clear hl
 go_in
 go_wp2
 go_loopw [0,7] (fun vr s wr=>∃ (m:Nat) (b:Lb),m≤n∧s=.int .i64 (8*(m:Int)-8)∧Hid (b++be m x=l++be n x)∧Hid (Grew B w v b wr vr)) (fun _ s _=>(intOf s+8).toNat)
 case atStart=>exact ⟨n,l,Nat.le_refl _,by first|rfl|(congr 1;omega),rfl,HG0⟩
 case round =>
  obtain ⟨m,b,hm,rfl,HE,HG⟩:=hrel
  cases m with
  | zero =>
   go_wp2
   go_ret
   have hE:=HE.out
   rw [be,List.append_nil] at hE
   rw [← hE]
   exact ⟨_,rfl,HG.out⟩
  | succ m =>
   have e1:8*((m+1:Nat):Int)-8=((8*m:Nat):Int):=by omega
   rw [e1]
   obtain ⟨c,HC⟩:∃ c:UInt8,Hid (c=UInt8.ofNat (x/256^m%256)):=⟨_,rfl⟩
   obtain ⟨k,hk⟩:∃ k:Nat,8*m=k:=⟨_,rfl⟩
   rw [hk]
   have hcv:(x:Int)/2^k%256=((c.toNat:Nat):Int):=by rw [← hk,HC.out,yfW,Nat.pow_mul]
   have hk64:(k:Int)≤56:=by omega
   have hbl:Hid (b.length+1≤maxLen∧(b.length+1)*1≤140737488355328∧B≤wr.heap.size+1):=h_ (by
    have h1:=congrArg List.length HE.out
    have h2:=HL.out
    have h3:=HG.out.grown.size
    simp only [List.length_append,zD] at h1
    unfold maxLen;omega)
   have hne:Hid (b++[c]++be m x=l++be n x):=h_ (by rw [← HE.out,be,HC.out];simp)
   go_wp2_with (at_builtin;refine wpList_append_own_at _ rfl (.tmp 15) (.tmp 20) 39 rfl B 5 i0 (.int .u8 0) 1 1 Tryz.underlying39 hi hz0 hz1 hz2 rfl (by decide) _ _ _ rfl ((HG.out.own).alloc _) ⟨_,0,none⟩ 1 1 [.int .u8 (c.toNat:Int)] rfl rfl (cell_one_new _ _ _) (by intro u hu;simp at hu;subst hu;rfl) hbl.out.1 hbl.out.2.1 (by simp;exact hbl.out.2.2) ?_)
   intro v5 w5 yM yH _ uS
   have HG5:=h_ (HG.out.next rfl yM yH uS)
   clear yM yH uS
   go_wp2
   go_roundw
   case rel=>exact ⟨m,b++[c],by omega,by first|rfl|(congr 1;omega),hne,HG5⟩
   case measure=>simp [intOf];omega
theorem yaP (x n:Nat) (w:World) (hn:n≤8) (hx:x<18446744073709551616) :
  Calls Tryz.prog 156 #[.int .u64 (x:Int),.int .i64 (n:Int)] w (App w.heap.size w (.slice none 0 0) (be n x)):=by
 obtain ⟨i0,hi,hz0,hz1,hz2⟩:=info_parts uF
 have HX:=h_ hx
 have HG0:=h_ (Grew.refl (l:=[]) (World.ownsRow_nil w w.heap.size 5 1))
 clear hx
 have hni:(n:Int)≤8:=by omega
 go_in
 go_wp2
 go_loopw [5,6] (fun vr s wr=>∃ (m:Nat) (b:Lb),m≤n∧s=.int .i64 ((m:Int)-1)∧Hid (b++be m x=be n x)∧Hid (Grew w.heap.size w (.slice none 0 0) b wr vr)) (fun _ s _=>(intOf s+1).toNat)
 case atStart=>exact ⟨n,[],Nat.le_refl _,by first|rfl|(congr 1;omega),rfl,HG0⟩
 case round =>
  obtain ⟨m,b,hm,rfl,HE,HG⟩:=hrel
  cases m with
  | zero =>
   go_wp2
   go_ret
   have hE:=HE.out
   rw [be,List.append_nil] at hE
   rw [← hE]
   exact ⟨_,rfl,HG.out⟩
  | succ m =>
   have e1:((m+1:Nat):Int)-1=(m:Int):=by omega
   rw [e1]
   obtain ⟨c,HC⟩:∃ c:UInt8,Hid (c=UInt8.ofNat (x/256^m%256)):=⟨_,rfl⟩
   have hcv:(x:Int)/2^(8*m)%256=((c.toNat:Nat):Int):=by rw [HC.out,yfW,Nat.pow_mul]
   have hk64:(m:Int)≤7:=by omega
   have hbl:Hid (b.length+1≤maxLen∧(b.length+1)*1≤140737488355328∧w.heap.size≤wr.heap.size+1):=h_ (by
    have h1:=congrArg List.length HE.out
    have h3:=HG.out.grown.size
    simp only [List.length_append,zD] at h1
    unfold maxLen;omega)
   have hne:Hid (b++[c]++be m x=be n x):=h_ (by rw [← HE.out,be,HC.out];simp)
   go_wp2_with (at_builtin;refine wpList_append_own_at _ rfl (.tmp 13) (.tmp 19) 39 rfl w.heap.size 5 i0 (.int .u8 0) 1 1 Tryz.underlying39 hi hz0 hz1 hz2 rfl (by decide) _ _ _ rfl ((HG.out.own).alloc _) ⟨_,0,none⟩ 1 1 [.int .u8 (c.toNat:Int)] rfl rfl (cell_one_new _ _ _) (by intro u hu;simp at hu;subst hu;rfl) hbl.out.1 hbl.out.2.1 (by simp;exact hbl.out.2.2) ?_)
   intro v5 w5 yM yH _ uS
   have HG5:=h_ (HG.out.next rfl yM yH uS)
   clear yM yH uS
   go_wp2
   go_roundw
   case rel=>exact ⟨m,b++[c],by omega,by first|rfl|(congr 1;omega),hne,HG5⟩
   case measure=>simp [intOf]
end
end Go.Proofs.YtgepehlpjpccaaaGreatDoor
