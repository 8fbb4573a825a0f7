/- Contracts. -/
import Derived.Test.YtfjnipkpfbkegaaGreatDoorRf
set_option maxHeartbeats 3200000
set_option maxRecDepth 100000
namespace Go.Proofs.YtfjnipkpfbkegaaGreatDoor
open Go.RowKit Big
open Go.Lib
theorem Resa.fin {B:Nat} {w0 W:World} {q:Rat} {sb:Bool} {p p2:Option Addr} {n c n2 c2:Nat} (h:Resa B w0 W) (hB:w0.heap.size≤B) (hs:sb=decide (q.num<0))
  (h1:yL W (.slice p n c) q.num.natAbs) (h2:yL W (.slice p2 n2 c2) q.den∨(yL W (.slice p2 n2 c2) 0∧q.den=1)) :
  vD q w0 (.returned (.agg #[.bool sb,.slice p n c,.slice p2 n2 c2])) (((W.setCell ⟨B,0,none⟩ (.bool sb)).setCell ⟨B,1,none⟩ (.slice p n c)).setCell ⟨B,2,none⟩ (.slice p2 n2 c2)) :=
 ⟨_,rfl,⟨_,_,by rw [hs],h.nat3 hB h1 sb p p2 n c n2 c2,h2.imp (fun h2=>h.nat3 hB h2 sb p p2 n c n2 c2) fun h2=>⟨h.nat3 hB h2.1 sb p p2 n c n2 c2,h2.2⟩⟩,(h.put3 hB sb p p2 n c n2 c2).below⟩
def zQ (q:Rat) (f:Bool) (w:World) (e:Ending) (w':World):Prop:=∃ b p n c p2 n2 c2,e=.returned (.tuple #[.agg #[.bool b,.slice p n c,.slice p2 n2 c2],.bool f])∧Below w.heap.size w w'∧(f=true→zH w' (.agg #[.bool b,.slice p n c,.slice p2 n2 c2]) q)
def GK (W:World) (g:Nat) (s:ByteArray) (pos:Nat):World:={ W with heap:=W.heap.setIfInBounds g (.stringIter s pos) }
theorem ymk (W:World) (g:Nat) (s:ByteArray) (pos:Nat) (ty:TypeId) (hg:W.heap[g]?=some (.stringIter s pos)) (h:pos<s.size) (ha:(s[pos]'h).toNat<128) :
  (Instr.next (.pointer (some ⟨g,0,none⟩)) true ty).run Tryz.prog W=.ok (.tuple #[.bool true,.int .i64 pos,.int .i32 (s[pos]'h).toNat]) (GK W g s (pos+1)):=by
 simp only [Instr.next,getObj,setObj,Sem.run_bind,Sem.run,hg,Result.andThen,h,if_true,decode_ascii s pos h ha]
 simp [goInt,GK]
theorem yew (W:World) (g:Nat) (s:ByteArray) (pos:Nat) (ty:TypeId) (hg:W.heap[g]?=some (.stringIter s pos)) (h:¬ pos<s.size) :
  (Instr.next (.pointer (some ⟨g,0,none⟩)) true ty).run Tryz.prog W=.ok (.tuple #[.bool false]) W:=by
 simp [Instr.next,getObj,Sem.run,hg,h]
theorem yh9 (W:World) (g:Nat) (s:ByteArray) (pos:Nat) {B:Nat} (hB:B≤g):Below B W (GK W g s pos) :=
 ⟨rfl,rfl,rfl,by simp [GK],fun k hk=>by simp only [GK];rw [Array.getElem?_setIfInBounds_ne (by omega)]⟩
theorem ylQ (W:World) (g:Nat) (s:ByteArray) (pos:Nat) (h:g<W.heap.size):(GK W g s pos).heap[g]?=some (.stringIter s pos):=by
 simp [GK,h]
structure DotAt (w wr:World) (g:Nat) (mo:ByteArray) (pos:Nat) (dv:Value):Prop where
 nat:yL wr dv (10^pos)
 it:wr.heap[g]?=some (.stringIter mo pos)
 res:Resa w.heap.size w wr
 gt:w.heap.size<g
 le:pos≤mo.size
theorem yL.iter {W:World} {v:Value} {x g pos:Nat} {mo:ByteArray} (h:yL W v x) (hg:W.heap[g]?=some (.stringIter mo pos)) (p2:Nat):yL (GK W g mo p2) v x:=by
 obtain ⟨p,n,c,l,rfl,h2,h3,h4⟩:=h
 refine ⟨p,n,c,l,rfl,h2,⟨h3.len,?_⟩,h4⟩
 by_cases hn:n=0
 ·exact .inl hn
 ·obtain ⟨b,o,hp,hb,hc⟩:=h3.opened (by omega)
  refine .inr ⟨b,o,hp,by simpa [GK] using hb,fun j hj=>?_⟩
  have hne:b≠g:=by
   rintro rfl
   have:=hc 0 (by omega)
   simp [World.cell?,hg] at this
  rw [← hc j hj]
  refine World.cell?_of_block (w:=W) ?_
  simp only [GK];rw [Array.getElem?_setIfInBounds_ne (by omega)]
theorem DotAt.step {w wr w5:World} {g pos:Nat} {mo:ByteArray} {dv d2:Value} (h:DotAt w wr g mo pos dv) (hlt:pos<mo.size) (hb:Below (GK wr g mo (pos+1)).heap.size (GK wr g mo (pos+1)) w5) (h2:yL w5 d2 (10^(pos+1))):DotAt w w5 g mo (pos+1) d2:=by
 have hg:=(Array.getElem?_eq_some_iff.1 h.it).1
 have hs:(GK wr g mo (pos+1)).heap.size=wr.heap.size:=by simp [GK]
 have hr:Resa w.heap.size w (GK wr g mo (pos+1)):=by
  refine ⟨by rw [hs];exact h.res.size,h.res.below.trans (yh9 _ _ _ _ (Nat.le_of_lt h.gt)),?_⟩
  obtain ⟨z0,z1,z2,hz,hn⟩:=h.res.z
  refine ⟨z0,z1,z2,?_,hn⟩
  rw [← hz];simp only [GK];rw [Array.getElem?_setIfInBounds_ne (by have:=h.gt;omega)]
 refine ⟨h2,?_,hr.next hb,h.gt,hlt⟩
 rw [hb.block g (by rw [hs];exact hg)]
 exact ylQ _ _ _ _ hg
theorem yjo (p:Nat):10^p<B9^(p+1):=by
 rw [yau];exact Nat.pow_lt_pow_right (by omega) (by omega)
theorem ylR (s:ByteArray) (k:Nat) (q:Rat) (_sb:Bool) (_N0 _D0:Nat) (w:World) (_hmax:(s.size:Int)≤100000) (hz:s.size=0) (jJ:∀ W,Hid (Calls Tryz.prog 65 #[.string s,.int .i64 0] W fun e w'=>e=.returned (.int .i64 (k:Int))∧W=w')) (hk:k=0):Calls Tryz.prog 62 #[.string s] w (zQ q false w):=by
 subst hk
 have yP:=yA (Resa.start w)
 have hz0:((s.size:Int))=0:=by omega
 go_enter Tryz.func62,Tryz.ntmps62
 go_wp2_with fail
 refine (jJ _).out.mono ?_
 rintro e w1 ⟨rfl,rfl⟩
 go_wp2_with fail
 refine bodyPost_ret (v:=.tuple #[.agg #[.bool false,.slice none 0 0,.slice none 0 0],.bool false]) ?h1 rfl ?h2
 case h1=>simp [results,Tryz.results62,go_sem]
 exact ⟨_,_,_,_,_,_,_,rfl,yP.out.below,fun h=>by cases h⟩
theorem ylS (s:ByteArray) (k:Nat) (q:Rat) (_sb:Bool) (_N0 _D0:Nat) (w:World) (_hmax:(s.size:Int)≤100000) (hz:0<s.size) (hm:(((s[0]'hz).toNat:Int)==45)=false) (jJ:∀ W,Hid (Calls Tryz.prog 65 #[.string s,.int .i64 0] W fun e w'=>e=.returned (.int .i64 (k:Int))∧W=w')) (hk:k=0):Calls Tryz.prog 62 #[.string s] w (zQ q false w):=by
 subst hk
 have yP:=yA (Resa.start w)
 go_enter Tryz.func62,Tryz.ntmps62
 go_wp2_with fail
 refine (jJ _).out.mono ?_
 rintro e w1 ⟨rfl,rfl⟩
 go_wp2_with fail
 refine bodyPost_ret (v:=.tuple #[.agg #[.bool false,.slice none 0 0,.slice none 0 0],.bool false]) ?h1 rfl ?h2
 case h1=>simp [results,Tryz.results62,go_sem]
 exact ⟨_,_,_,_,_,_,_,rfl,yP.out.below,fun h=>by cases h⟩
theorem ylT (s:ByteArray) (k:Nat) (q:Rat) (sb:Bool) (N0 D0:Nat) (w:World) (_hmax:(s.size:Int)≤100000) (hz:0<s.size) (hm:(((s[0]'hz).toNat:Int)==45)=false) (jJ:∀ W,Hid (Calls Tryz.prog 65 #[.string s,.int .i64 0] W fun e w'=>e=.returned (.int .i64 (k:Int))∧W=w')) (hk0:((k:Int)==0)=false) (hks:((k:Int)==s.size)=true) (hrd:∀ W,Hid (Calls Tryz.prog 90 #[.string s] W (zU N0 W))) (jW:∀ W,Hid (Calls Tryz.prog 71 #[] W (zU D0 W))) (hqs:Hid (sb=decide (q.num<0))) (hmk:∀ W u v,yL W u N0→yL W v D0→Hid (Calls Tryz.prog 69 #[.bool false,u,v] W (yam q sb W))):Calls Tryz.prog 62 #[.string s] w (zQ q true w):=by
 have yP:=yA (Resa.start w)
 go_enter Tryz.func62,Tryz.ntmps62
 go_wp2_with fail
 refine (jJ _).out.mono ?_
 rintro e w1 ⟨rfl,rfl⟩
 go_wp2_with fail
 refine (hrd _).out.mono ?_
 rintro e w2 ⟨v2,rfl,hv2,hb2,-⟩
 obtain ⟨p2,n2,c2,rfl⟩:=hv2.slice
 have hr2:=yA (yP.out.next hb2)
 have Hv2:=yA hv2
 clear hv2 hb2
 go_wp2_with fail
 refine (jW _).out.mono ?_
 rintro e w3 ⟨v3,rfl,hv3,hb3,-⟩
 obtain ⟨p3,n3,c3,rfl⟩:=hv3.slice
 have HR:=yA (hr2.out.next hb3)
 have hm3:=hmk w3 _ _ (Hv2.out.below hb3) hv3
 clear hv3 hb3 hr2
 go_wp2_with fail
 refine hm3.out.mono ?_
 rintro e wM ⟨pr,nr,cr,pq,nq,cq,rfl,hr1,hr2,hbM⟩
 have hrz:=yA (HR.out.next hbM)
 have Hr1:=yA hr1
 have Hr2:=yA hr2
 obtain ⟨z0,z1,z2,l0,l1,l2,f0,f1,f2⟩:=hrz.out.slots
 clear hr1 hr2 hbM
 go_wp2_with fail
 have yE:=yA (hrz.out.fin (Nat.le_refl _) hqs.out Hr1.out Hr2.out)
 refine bodyPost_ret (v:=.tuple #[.agg #[.bool sb,.slice pr nr cr,.slice pq nq cq],.bool true]) ?h1 rfl ?h2
 case h1=>simp [results,Tryz.results62,go_sem,l0,l1,l2]<;>omega
 obtain ⟨x,hx,hq,hb⟩:=yE.out
 cases hx
 exact ⟨_,_,_,_,_,_,_,rfl,hb,fun _=>hq⟩
theorem ykc (s:ByteArray) (k:Nat) (q:Rat) (_sb:Bool) (_N0 _D0:Nat) (w:World) (hmax:(s.size:Int)≤100000) (hz:0<s.size) (hm:(((s[0]'hz).toNat:Int)==45)=false) (jJ:∀ W,Hid (Calls Tryz.prog 65 #[.string s,.int .i64 0] W fun e w'=>e=.returned (.int .i64 (k:Int))∧W=w')) (hk0:((k:Int)==0)=false) (hks:((k:Int)==s.size)=false) (hkl:k<s.size) (ck:Nat) (hck:((s[k]'hkl).toNat:Int)=(ck:Int)) (mo hd:ByteArray) (hmo:s.extract (k+1) s.size=mo) (_hhd:s.extract 0 k=hd) (cm:Nat) (jC:∀ W,Hid (Calls Tryz.prog 65 #[.string mo,.int .i64 0] W fun e w'=>e=.returned (.int .i64 (cm:Int))∧W=w')) (hb:((cm:Int) != mo.size)=true):Calls Tryz.prog 62 #[.string s] w (zQ q false w):=by
 have yP:=yA (Resa.start w)
 go_enter Tryz.func62,Tryz.ntmps62
 go_wp2_with fail
 refine (jJ _).out.mono ?_
 rintro e w1 ⟨rfl,rfl⟩
 have ydx:(k:Int)<s.size:=by omega
 go_wp2_with fail
 go_quiet (fail)
 have hrq:=yA (yP.out.next (yJ _ _ nq))
 go_wp2_with fail
 refine (jC _).out.mono ?_
 rintro e w1 ⟨rfl,rfl⟩
 obtain ⟨z0,z1,z2,l0,l1,l2,f0,f1,f2⟩:=hrq.out.slots
 have q3:=yA (hrq.out.put3 (Nat.le_refl _) false none none 0 0 0 0).below
 go_wp2_with fail
 refine bodyPost_ret (v:=.tuple #[.agg #[.bool false,.slice none 0 0,.slice none 0 0],.bool false]) ?h1 rfl ?h2
 case h1=>simp [results,Tryz.results62,go_sem,l0,l1,l2]<;>omega
 exact ⟨_,_,_,_,_,_,_,rfl,q3.out,fun h=>by cases h⟩
theorem yia (s:ByteArray) (k:Nat) (q:Rat) (_sb:Bool) (_N0 _D0:Nat) (w:World) (hmax:(s.size:Int)≤100000) (hz:0<s.size) (hm:(((s[0]'hz).toNat:Int)==45)=false) (jJ:∀ W,Hid (Calls Tryz.prog 65 #[.string s,.int .i64 0] W fun e w'=>e=.returned (.int .i64 (k:Int))∧W=w')) (hk0:((k:Int)==0)=false) (hks:((k:Int)==s.size)=false) (hkl:k<s.size) (ck:Nat) (hck:((s[k]'hkl).toNat:Int)=(ck:Int)) (mo hd:ByteArray) (hmo:s.extract (k+1) s.size=mo) (_hhd:s.extract 0 k=hd) (cm:Nat) (jC:∀ W,Hid (Calls Tryz.prog 65 #[.string mo,.int .i64 0] W fun e w'=>e=.returned (.int .i64 (cm:Int))∧W=w')) (hb:((cm:Int) != 0)=false) (he:mo=⟨#[]⟩):Calls Tryz.prog 62 #[.string s] w (zQ q false w):=by
 subst he
 have yP:=yA (Resa.start w)
 go_enter Tryz.func62,Tryz.ntmps62
 go_wp2_with fail
 refine (jJ _).out.mono ?_
 rintro e w1 ⟨rfl,rfl⟩
 have ydx:(k:Int)<s.size:=by omega
 go_wp2_with fail
 go_quiet (fail)
 have hrq:=yA (yP.out.next (yJ _ _ nq))
 go_wp2_with fail
 refine (jC _).out.mono ?_
 rintro e w1 ⟨rfl,rfl⟩
 obtain ⟨z0,z1,z2,l0,l1,l2,f0,f1,f2⟩:=hrq.out.slots
 have q3:=yA (hrq.out.put3 (Nat.le_refl _) false none none 0 0 0 0).below
 go_wp2_with fail
 refine bodyPost_ret (v:=.tuple #[.agg #[.bool false,.slice none 0 0,.slice none 0 0],.bool false]) ?h1 rfl ?h2
 case h1=>simp [results,Tryz.results62,go_sem,l0,l1,l2]<;>omega
 exact ⟨_,_,_,_,_,_,_,rfl,q3.out,fun h=>by cases h⟩
theorem yib (s:ByteArray) (k:Nat) (q:Rat) (_sb:Bool) (_N0 _D0:Nat) (w:World) (hmax:(s.size:Int)≤100000) (hz:0<s.size) (hm:(((s[0]'hz).toNat:Int)==45)=false) (jJ:∀ W,Hid (Calls Tryz.prog 65 #[.string s,.int .i64 0] W fun e w'=>e=.returned (.int .i64 (k:Int))∧W=w')) (hk0:((k:Int)==0)=false) (hks:((k:Int)==s.size)=false) (hkl:k<s.size) (ck:Nat) (hck:((s[k]'hkl).toNat:Int)=(ck:Int)) (mo hd:ByteArray) (hmo:s.extract (k+1) s.size=mo) (_hhd:s.extract 0 k=hd) (cm:Nat) (jC:∀ W,Hid (Calls Tryz.prog 65 #[.string mo,.int .i64 0] W fun e w'=>e=.returned (.int .i64 (cm:Int))∧W=w')) (hb:((cm:Int) != mo.size)=false) (he:(mo.toList==[])=false) (_he2:¬ mo.toList=[]) (_he3:mo.toList.isEmpty=false) (h46:((ck:Int) != 46)=true) (h47:((ck:Int) != 47)=true):Calls Tryz.prog 62 #[.string s] w (zQ q false w):=by
 have yP:=yA (Resa.start w)
 go_enter Tryz.func62,Tryz.ntmps62
 go_wp2_with fail
 refine (jJ _).out.mono ?_
 rintro e w1 ⟨rfl,rfl⟩
 have ydx:(k:Int)<s.size:=by omega
 go_wp2_with fail
 go_quiet (fail)
 have hrq:=yA (yP.out.next (yJ _ _ nq))
 go_wp2_with fail
 refine (jC _).out.mono ?_
 rintro e w1 ⟨rfl,rfl⟩
 obtain ⟨z0,z1,z2,l0,l1,l2,f0,f1,f2⟩:=hrq.out.slots
 have q3:=yA (hrq.out.put3 (Nat.le_refl _) false none none 0 0 0 0).below
 go_wp2_with fail
 refine bodyPost_ret (v:=.tuple #[.agg #[.bool false,.slice none 0 0,.slice none 0 0],.bool false]) ?h1 rfl ?h2
 case h1=>simp [results,Tryz.results62,go_sem,l0,l1,l2]<;>omega
 exact ⟨_,_,_,_,_,_,_,rfl,q3.out,fun h=>by cases h⟩
theorem yic (s:ByteArray) (k:Nat) (q:Rat) (sb:Bool) (N0 D0:Nat) (w:World) (hmax:(s.size:Int)≤100000) (hz:0<s.size) (hm:(((s[0]'hz).toNat:Int)==45)=false) (jJ:∀ W,Hid (Calls Tryz.prog 65 #[.string s,.int .i64 0] W fun e w'=>e=.returned (.int .i64 (k:Int))∧W=w')) (hk0:((k:Int)==0)=false) (hks:((k:Int)==s.size)=false) (hkl:k<s.size) (ck:Nat) (hck:((s[k]'hkl).toNat:Int)=(ck:Int)) (mo hd:ByteArray) (hmo:s.extract (k+1) s.size=mo) (hhd:s.extract 0 k=hd) (cm:Nat) (jC:∀ W,Hid (Calls Tryz.prog 65 #[.string mo,.int .i64 0] W fun e w'=>e=.returned (.int .i64 (cm:Int))∧W=w')) (hb:((cm:Int) != mo.size)=false) (he:(mo.toList==[])=false) (_he2:¬ mo.toList=[]) (_he3:mo.toList.isEmpty=false) (h47:ck=47) (hD0:D0≠0) (yci:∀ W,Hid (Calls Tryz.prog 90 #[.string mo] W (zU D0 W))) (ybg:∀ W,Hid (Calls Tryz.prog 90 #[.string hd] W (zU N0 W))) (hqs:Hid (sb=decide (q.num<0))) (hmk:∀ W u v,yL W u N0→yL W v D0→Hid (Calls Tryz.prog 69 #[.bool false,u,v] W (yam q sb W))):Calls Tryz.prog 62 #[.string s] w (zQ q true w):=by
 subst h47
 have yP:=yA (Resa.start w)
 go_enter Tryz.func62,Tryz.ntmps62
 go_wp2_with fail
 refine (jJ _).out.mono ?_
 rintro e w1 ⟨rfl,rfl⟩
 have ydx:(k:Int)<s.size:=by omega
 go_wp2_with fail
 go_quiet (fail)
 have hrq:=yA (yP.out.next (yJ _ _ nq))
 go_wp2_with fail
 refine (jC _).out.mono ?_
 rintro e w1 ⟨rfl,rfl⟩
 go_wp2_with fail
 refine (yci _).out.mono ?_
 rintro e w2 ⟨v2,rfl,hv2,hb2,-⟩
 obtain ⟨p2,n2,c2,rfl⟩:=hv2.slice
 have hr2:=yA (hrq.out.next hb2)
 have Hv2:=yA hv2
 have hn3:0<n2:=by have h:=hv2.zero_iff (n:=n2);omega
 have hn2:(0:Int)<n2:=by omega
 clear hv2 hb2
 go_wp2_with fail
 refine (ybg _).out.mono ?_
 rintro e w3 ⟨v3,rfl,hv3,hb3,-⟩
 obtain ⟨p3,n3,c3,rfl⟩:=hv3.slice
 have HR:=yA (hr2.out.next hb3)
 have hm3:=hmk w3 _ _ hv3 (Hv2.out.below hb3)
 clear hv3 hb3 hr2
 go_wp2_with fail
 refine hm3.out.mono ?_
 rintro e wM ⟨pr,nr,cr,pq,nq,cq,rfl,hr1,hr2,hbM⟩
 have hrz:=yA (HR.out.next hbM)
 have Hr1:=yA hr1
 have Hr2:=yA hr2
 obtain ⟨z0,z1,z2,l0,l1,l2,f0,f1,f2⟩:=hrz.out.slots
 clear hr1 hr2 hbM
 go_wp2_with fail
 have yE:=yA (hrz.out.fin (Nat.le_refl _) hqs.out Hr1.out Hr2.out)
 refine bodyPost_ret (v:=.tuple #[.agg #[.bool sb,.slice pr nr cr,.slice pq nq cq],.bool true]) ?h1 rfl ?h2
 case h1=>simp [results,Tryz.results62,go_sem,l0,l1,l2]<;>omega
 obtain ⟨x,hx,hq,hb⟩:=yE.out
 cases hx
 exact ⟨_,_,_,_,_,_,_,rfl,hb,fun _=>hq⟩
theorem yid (s:ByteArray) (k:Nat) (q:Rat) (sb:Bool) (N0 D0:Nat) (w:World) (hmax:(s.size:Int)≤100000) (hz:0<s.size) (hm:(((s[0]'hz).toNat:Int)==45)=false) (jJ:∀ W,Hid (Calls Tryz.prog 65 #[.string s,.int .i64 0] W fun e w'=>e=.returned (.int .i64 (k:Int))∧W=w')) (hk0:((k:Int)==0)=false) (hks:((k:Int)==s.size)=false) (hkl:k<s.size) (ck:Nat) (hck:((s[k]'hkl).toNat:Int)=(ck:Int)) (mo hd:ByteArray) (hmo:s.extract (k+1) s.size=mo) (hhd:s.extract 0 k=hd) (cm:Nat) (jC:∀ W,Hid (Calls Tryz.prog 65 #[.string mo,.int .i64 0] W fun e w'=>e=.returned (.int .i64 (cm:Int))∧W=w')) (hb:((cm:Int) != mo.size)=false) (he:(mo.toList==[])=false) (_he2:¬ mo.toList=[]) (_he3:mo.toList.isEmpty=false) (h47:ck=47) (hD0:D0=0) (yci:∀ W,Hid (Calls Tryz.prog 90 #[.string mo] W (zU D0 W))) (ybg:∀ W,Hid (Calls Tryz.prog 90 #[.string hd] W (zU N0 W))) (hqs:Hid (sb=decide (q.num<0))) (hmk:∀ W u v,yL W u N0→yL W v D0→Hid (Calls Tryz.prog 69 #[.bool false,u,v] W (yam q sb W))):Calls Tryz.prog 62 #[.string s] w (zQ q false w):=by
 subst h47
 have yP:=yA (Resa.start w)
 go_enter Tryz.func62,Tryz.ntmps62
 go_wp2_with fail
 refine (jJ _).out.mono ?_
 rintro e w1 ⟨rfl,rfl⟩
 have ydx:(k:Int)<s.size:=by omega
 go_wp2_with fail
 go_quiet (fail)
 have hrq:=yA (yP.out.next (yJ _ _ nq))
 go_wp2_with fail
 refine (jC _).out.mono ?_
 rintro e w1 ⟨rfl,rfl⟩
 go_wp2_with fail
 refine (yci _).out.mono ?_
 rintro e w2 ⟨v2,rfl,hv2,hb2,-⟩
 obtain ⟨p2,n2,c2,rfl⟩:=hv2.slice
 have hr2:=yA (hrq.out.next hb2)
 have Hv2:=yA hv2
 have hn3:n2=0:=by have h:=hv2.zero_iff (n:=n2);omega
 subst hn3
 clear hv2 hb2
 go_wp2_with fail
 refine (ybg _).out.mono ?_
 rintro e w3 ⟨v3,rfl,hv3,hb3,-⟩
 obtain ⟨p3,n3,c3,rfl⟩:=hv3.slice
 have HR:=yA (hr2.out.next hb3)
 have hm3:=hmk w3 _ _ hv3 (Hv2.out.below hb3)
 clear hv3 hb3 hr2
 go_wp2_with fail
 refine hm3.out.mono ?_
 rintro e wM ⟨pr,nr,cr,pq,nq,cq,rfl,hr1,hr2,hbM⟩
 have hrz:=yA (HR.out.next hbM)
 have Hr1:=yA hr1
 have Hr2:=yA hr2
 obtain ⟨z0,z1,z2,l0,l1,l2,f0,f1,f2⟩:=hrz.out.slots
 clear hr1 hr2 hbM
 go_wp2_with fail
 have yE:=yA (hrz.out.fin (Nat.le_refl _) hqs.out Hr1.out Hr2.out)
 refine bodyPost_ret (v:=.tuple #[.agg #[.bool sb,.slice pr nr cr,.slice pq nq cq],.bool false]) ?h1 rfl ?h2
 case h1=>simp [results,Tryz.results62,go_sem,l0,l1,l2]<;>omega
 obtain ⟨x,hx,hq,hb⟩:=yE.out
 cases hx
 exact ⟨_,_,_,_,_,_,_,rfl,hb,fun _=>hq⟩
theorem ykd (s:ByteArray) (k:Nat) (q:Rat) (sb:Bool) (N0 D0:Nat) (w:World) (hmax:(s.size:Int)≤100000) (hz:0<s.size) (hm:(((s[0]'hz).toNat:Int)==45)=false) (jJ:∀ W,Hid (Calls Tryz.prog 65 #[.string s,.int .i64 0] W fun e w'=>e=.returned (.int .i64 (k:Int))∧W=w')) (hk0:((k:Int)==0)=false) (hks:((k:Int)==s.size)=false) (hkl:k<s.size) (ck:Nat) (hck:((s[k]'hkl).toNat:Int)=(ck:Int)) (mo hd:ByteArray) (hmo:s.extract (k+1) s.size=mo) (hhd:s.extract 0 k=hd) (cm:Nat) (jC:∀ W,Hid (Calls Tryz.prog 65 #[.string mo,.int .i64 0] W fun e w'=>e=.returned (.int .i64 (cm:Int))∧W=w')) (hb:((cm:Int) != mo.size)=false) (he:(mo.toList==[])=false) (_he2:¬ mo.toList=[]) (_he3:mo.toList.isEmpty=false) (h46:ck=46) (jR:Hid (mo.data.toList.all yG=true)) (hsz:(mo.size:Int)≤100000) (hszh:(hd.size:Int)≤100000) (hD0:Hid (D0=10^mo.size)) (ybg:∀ W,Hid (Calls Tryz.prog 90 #[.string (hd++mo)] W (zU N0 W))) (hqs:Hid (sb=decide (q.num<0))) (hmk:∀ W u v,yL W u N0→yL W v D0→Hid (Calls Tryz.prog 69 #[.bool false,u,v] W (yam q sb W))):Calls Tryz.prog 62 #[.string s] w (zQ q true w):=by
 subst h46
 have jW:∀ W,Hid (Calls Tryz.prog 71 #[] W (zU 1 W)):=fun W=>yA (ycy W)
 have yrL:∀ W,Hid (Calls Tryz.prog 70 #[.int .u64 10] W (zU 10 W)):=fun W=>yA (yaA 10 W (by omega))
 have yP:=yA (Resa.start w)
 go_enter Tryz.func62,Tryz.ntmps62
 go_wp2_with fail
 refine (jJ _).out.mono ?_
 rintro e w1 ⟨rfl,rfl⟩
 have ydx:(k:Int)<s.size:=by omega
 go_wp2_with fail
 go_quiet (fail)
 have hrq:=yA (yP.out.next (yJ _ _ nq))
 go_wp2_with fail
 refine (jC _).out.mono ?_
 rintro e w1 ⟨rfl,rfl⟩
 go_wp2_with fail
 refine (jW _).out.mono ?_
 rintro e w2 ⟨v2,rfl,hv2,hb2,-⟩
 obtain ⟨p2,n2,c2,rfl⟩:=hv2.slice
 have hr2:=hrq.out.next hb2
 have hst:Hid (DotAt w (w2.iter mo 0) w2.heap.size mo 0 (.slice p2 n2 c2)):=yA ⟨by rw [Nat.pow_zero];exact hv2.below (zJ _ _),World.iter_heap _ _ _,hr2.next (zJ _ _),by have:=hr2.size;omega,Nat.zero_le _⟩
 clear hv2 hb2 hr2
 go_wp2_with fail
 go_loopw [9] (fun dv w3=>∃ (pos:Nat) (pd:Option Addr) (nd cd:Nat),dv=.slice pd nd cd∧Hid (DotAt w w3 w2.heap.size mo pos dv)) (fun _ w3=>mo.size-w3.iterPos w2.heap.size)
 case atStart=>exact ⟨0,_,_,_,rfl,hst⟩
 case round =>
  obtain ⟨pos,pd,nd,cd,rfl,hat⟩:=hrel
  by_cases hp:pos<mo.size
  ·have yof:(mo[pos]'hp).toNat<128:=by
    have h1:yG (mo[pos]'hp)=true:=List.all_eq_true.1 jR.out _ (List.getElem_mem (by simpa using hp):mo.data.toList[pos]'(by simpa using hp) ∈ _)
    simp [yG] at h1;omega
   have hnx:∀ ty,(Instr.next (.pointer (some ⟨w2.heap.size,0,none⟩)) true ty).run Tryz.prog wr=_:=fun ty=>ymk wr w2.heap.size mo pos ty hat.out.it hp yof
   have hd1:=yA (hat.out.nat.iter hat.out.it (pos+1))
   have hps:Hid (pos≤100000):=yA (by omega)
   clear yof
   go_wp2_with fail
   refine (yrL _).out.mono ?_
   rintro e w5 ⟨v5,rfl,hv5,hb5,-⟩
   obtain ⟨p5,n5,c5,rfl⟩:=hv5.slice
   have hm5:Hid (Calls Tryz.prog 72 #[.slice pd nd cd,.slice p5 n5 c5] w5 (zU (10^pos*10) w5)):=yA (uV _ _ _ _ (pos+1) 1 w5 (by have:=hps.out;unfold yT;omega) (by unfold yT;omega) (yjo pos) (by rw [Nat.pow_one,zN];omega) (hd1.out.below hb5) hv5)
   have Hb5:=yA hb5
   clear hv5 hb5
   go_wp2_with fail
   refine hm5.out.mono ?_
   rintro e w6 ⟨v6,rfl,hv6,hb6,-⟩
   obtain ⟨p6,n6,c6,rfl⟩:=hv6.slice
   have zR:Hid (DotAt w w6 w2.heap.size mo (pos+1) (.slice p6 n6 c6)):=yA (hat.out.step hp (Hb5.out.trans (hb6.mono Hb5.out.size)) (by rw [Nat.pow_succ];exact hv6))
   have yba:Hid (mo.size-w6.iterPos w2.heap.size<mo.size-wr.iterPos w2.heap.size):=yA (by
    have h1:=zR.out.it
    have h2:=hat.out.it
    simp only [World.iterPos,h1,h2];omega)
   clear hv6 hb6
   go_wp2_with fail
   go_roundw
   case rel=>exact ⟨pos+1,_,_,_,rfl,zR⟩
   case measure=>exact yba.out
  ·have hpe:pos=mo.size:=by have:=hat.out.le;omega
   have hnx:∀ ty,(Instr.next (.pointer (some ⟨w2.heap.size,0,none⟩)) true ty).run Tryz.prog wr=_:=fun ty=>yew wr w2.heap.size mo pos ty hat.out.it hp
   have hdn:Hid (yL wr (.slice pd nd cd) D0):=yA (by rw [hD0.out,← hpe];exact hat.out.nat)
   clear hpe
   go_wp2_with fail
   refine (ybg _).out.mono ?_
   rintro e w7 ⟨v7,rfl,hv7,hb7,-⟩
   obtain ⟨p7,n7,c7,rfl⟩:=hv7.slice
   have HR:=yA (hat.out.res.next hb7)
   have hm3:=hmk w7 _ _ hv7 (hdn.out.below hb7)
   clear hv7 hb7
   go_wp2_with fail
   refine hm3.out.mono ?_
   rintro e wM ⟨pr,nr,cr,pq,nq,cq,rfl,hr1,hr2,hbM⟩
   have hrz:=yA (HR.out.next hbM)
   have Hr1:=yA hr1
   have Hr2:=yA hr2
   obtain ⟨z0,z1,z2,l0,l1,l2,f0,f1,f2⟩:=hrz.out.slots
   clear hr1 hr2 hbM
   go_wp2_with fail
   have yE:=yA (hrz.out.fin (Nat.le_refl _) hqs.out Hr1.out Hr2.out)
   refine bodyPost_ret (v:=.tuple #[.agg #[.bool sb,.slice pr nr cr,.slice pq nq cq],.bool true]) ?h1 rfl ?h2
   case h1=>simp [results,Tryz.results62,go_sem,l0,l1,l2]<;>omega
   obtain ⟨x,hx,hq,hb⟩:=yE.out
   cases hx
   exact ⟨_,_,_,_,_,_,_,rfl,hb,fun _=>hq⟩
theorem ylU (s:ByteArray) (k:Nat) (q:Rat) (_sb:Bool) (_N0 _D0:Nat) (w:World) (hmax:(s.size:Int)≤100000) (hz:0<s.size) (hm:(((s[0]'hz).toNat:Int)==45)=true) (s1:ByteArray) (hs1:s.extract 1 s.size=s1) (_hmax1:(s1.size:Int)≤100000) (jJ:∀ W,Hid (Calls Tryz.prog 65 #[.string s1,.int .i64 0] W fun e w'=>e=.returned (.int .i64 (k:Int))∧W=w')) (hk:k=0):Calls Tryz.prog 62 #[.string s] w (zQ q false w):=by
 subst hk
 have yP:=yA (Resa.start w)
 go_enter Tryz.func62,Tryz.ntmps62
 go_wp2_with fail
 refine (jJ _).out.mono ?_
 rintro e w1 ⟨rfl,rfl⟩
 go_wp2_with fail
 refine bodyPost_ret (v:=.tuple #[.agg #[.bool false,.slice none 0 0,.slice none 0 0],.bool false]) ?h1 rfl ?h2
 case h1=>simp [results,Tryz.results62,go_sem]
 exact ⟨_,_,_,_,_,_,_,rfl,yP.out.below,fun h=>by cases h⟩
theorem ylV (s:ByteArray) (k:Nat) (q:Rat) (sb:Bool) (N0 D0:Nat) (w:World) (hmax:(s.size:Int)≤100000) (hz:0<s.size) (hm:(((s[0]'hz).toNat:Int)==45)=true) (s1:ByteArray) (hs1:s.extract 1 s.size=s1) (_hmax1:(s1.size:Int)≤100000) (jJ:∀ W,Hid (Calls Tryz.prog 65 #[.string s1,.int .i64 0] W fun e w'=>e=.returned (.int .i64 (k:Int))∧W=w')) (hk0:((k:Int)==0)=false) (hks:((k:Int)==s1.size)=true) (hrd:∀ W,Hid (Calls Tryz.prog 90 #[.string s1] W (zU N0 W))) (jW:∀ W,Hid (Calls Tryz.prog 71 #[] W (zU D0 W))) (hqs:Hid (sb=decide (q.num<0))) (hmk:∀ W u v,yL W u N0→yL W v D0→Hid (Calls Tryz.prog 69 #[.bool true,u,v] W (yam q sb W))):Calls Tryz.prog 62 #[.string s] w (zQ q true w):=by
 have yP:=yA (Resa.start w)
 go_enter Tryz.func62,Tryz.ntmps62
 go_wp2_with fail
 refine (jJ _).out.mono ?_
 rintro e w1 ⟨rfl,rfl⟩
 go_wp2_with fail
 refine (hrd _).out.mono ?_
 rintro e w2 ⟨v2,rfl,hv2,hb2,-⟩
 obtain ⟨p2,n2,c2,rfl⟩:=hv2.slice
 have hr2:=yA (yP.out.next hb2)
 have Hv2:=yA hv2
 clear hv2 hb2
 go_wp2_with fail
 refine (jW _).out.mono ?_
 rintro e w3 ⟨v3,rfl,hv3,hb3,-⟩
 obtain ⟨p3,n3,c3,rfl⟩:=hv3.slice
 have HR:=yA (hr2.out.next hb3)
 have hm3:=hmk w3 _ _ (Hv2.out.below hb3) hv3
 clear hv3 hb3 hr2
 go_wp2_with fail
 refine hm3.out.mono ?_
 rintro e wM ⟨pr,nr,cr,pq,nq,cq,rfl,hr1,hr2,hbM⟩
 have hrz:=yA (HR.out.next hbM)
 have Hr1:=yA hr1
 have Hr2:=yA hr2
 obtain ⟨z0,z1,z2,l0,l1,l2,f0,f1,f2⟩:=hrz.out.slots
 clear hr1 hr2 hbM
 go_wp2_with fail
 have yE:=yA (hrz.out.fin (Nat.le_refl _) hqs.out Hr1.out Hr2.out)
 refine bodyPost_ret (v:=.tuple #[.agg #[.bool sb,.slice pr nr cr,.slice pq nq cq],.bool true]) ?h1 rfl ?h2
 case h1=>simp [results,Tryz.results62,go_sem,l0,l1,l2]<;>omega
 obtain ⟨x,hx,hq,hb⟩:=yE.out
 cases hx
 exact ⟨_,_,_,_,_,_,_,rfl,hb,fun _=>hq⟩
theorem yke (s:ByteArray) (k:Nat) (q:Rat) (_sb:Bool) (_N0 _D0:Nat) (w:World) (hmax:(s.size:Int)≤100000) (hz:0<s.size) (hm:(((s[0]'hz).toNat:Int)==45)=true) (s1:ByteArray) (hs1:s.extract 1 s.size=s1) (ygf:(s1.size:Int)≤100000) (jJ:∀ W,Hid (Calls Tryz.prog 65 #[.string s1,.int .i64 0] W fun e w'=>e=.returned (.int .i64 (k:Int))∧W=w')) (hk0:((k:Int)==0)=false) (hks:((k:Int)==s1.size)=false) (hkl:k<s1.size) (ck:Nat) (hck:((s1[k]'hkl).toNat:Int)=(ck:Int)) (mo hd:ByteArray) (hmo:s1.extract (k+1) s1.size=mo) (_hhd:s1.extract 0 k=hd) (cm:Nat) (jC:∀ W,Hid (Calls Tryz.prog 65 #[.string mo,.int .i64 0] W fun e w'=>e=.returned (.int .i64 (cm:Int))∧W=w')) (hb:((cm:Int) != mo.size)=true):Calls Tryz.prog 62 #[.string s] w (zQ q false w):=by
 have yP:=yA (Resa.start w)
 go_enter Tryz.func62,Tryz.ntmps62
 go_wp2_with fail
 refine (jJ _).out.mono ?_
 rintro e w1 ⟨rfl,rfl⟩
 have ydx:(k:Int)<s1.size:=by omega
 go_wp2_with fail
 go_quiet (fail)
 have hrq:=yA (yP.out.next (yJ _ _ nq))
 go_wp2_with fail
 refine (jC _).out.mono ?_
 rintro e w1 ⟨rfl,rfl⟩
 obtain ⟨z0,z1,z2,l0,l1,l2,f0,f1,f2⟩:=hrq.out.slots
 have q3:=yA (hrq.out.put3 (Nat.le_refl _) false none none 0 0 0 0).below
 go_wp2_with fail
 refine bodyPost_ret (v:=.tuple #[.agg #[.bool false,.slice none 0 0,.slice none 0 0],.bool false]) ?h1 rfl ?h2
 case h1=>simp [results,Tryz.results62,go_sem,l0,l1,l2]<;>omega
 exact ⟨_,_,_,_,_,_,_,rfl,q3.out,fun h=>by cases h⟩
theorem yie (s:ByteArray) (k:Nat) (q:Rat) (_sb:Bool) (_N0 _D0:Nat) (w:World) (hmax:(s.size:Int)≤100000) (hz:0<s.size) (hm:(((s[0]'hz).toNat:Int)==45)=true) (s1:ByteArray) (hs1:s.extract 1 s.size=s1) (ygf:(s1.size:Int)≤100000) (jJ:∀ W,Hid (Calls Tryz.prog 65 #[.string s1,.int .i64 0] W fun e w'=>e=.returned (.int .i64 (k:Int))∧W=w')) (hk0:((k:Int)==0)=false) (hks:((k:Int)==s1.size)=false) (hkl:k<s1.size) (ck:Nat) (hck:((s1[k]'hkl).toNat:Int)=(ck:Int)) (mo hd:ByteArray) (hmo:s1.extract (k+1) s1.size=mo) (_hhd:s1.extract 0 k=hd) (cm:Nat) (jC:∀ W,Hid (Calls Tryz.prog 65 #[.string mo,.int .i64 0] W fun e w'=>e=.returned (.int .i64 (cm:Int))∧W=w')) (hb:((cm:Int) != 0)=false) (he:mo=⟨#[]⟩):Calls Tryz.prog 62 #[.string s] w (zQ q false w):=by
 subst he
 have yP:=yA (Resa.start w)
 go_enter Tryz.func62,Tryz.ntmps62
 go_wp2_with fail
 refine (jJ _).out.mono ?_
 rintro e w1 ⟨rfl,rfl⟩
 have ydx:(k:Int)<s1.size:=by omega
 go_wp2_with fail
 go_quiet (fail)
 have hrq:=yA (yP.out.next (yJ _ _ nq))
 go_wp2_with fail
 refine (jC _).out.mono ?_
 rintro e w1 ⟨rfl,rfl⟩
 obtain ⟨z0,z1,z2,l0,l1,l2,f0,f1,f2⟩:=hrq.out.slots
 have q3:=yA (hrq.out.put3 (Nat.le_refl _) false none none 0 0 0 0).below
 go_wp2_with fail
 refine bodyPost_ret (v:=.tuple #[.agg #[.bool false,.slice none 0 0,.slice none 0 0],.bool false]) ?h1 rfl ?h2
 case h1=>simp [results,Tryz.results62,go_sem,l0,l1,l2]<;>omega
 exact ⟨_,_,_,_,_,_,_,rfl,q3.out,fun h=>by cases h⟩
theorem yif (s:ByteArray) (k:Nat) (q:Rat) (_sb:Bool) (_N0 _D0:Nat) (w:World) (hmax:(s.size:Int)≤100000) (hz:0<s.size) (hm:(((s[0]'hz).toNat:Int)==45)=true) (s1:ByteArray) (hs1:s.extract 1 s.size=s1) (ygf:(s1.size:Int)≤100000) (jJ:∀ W,Hid (Calls Tryz.prog 65 #[.string s1,.int .i64 0] W fun e w'=>e=.returned (.int .i64 (k:Int))∧W=w')) (hk0:((k:Int)==0)=false) (hks:((k:Int)==s1.size)=false) (hkl:k<s1.size) (ck:Nat) (hck:((s1[k]'hkl).toNat:Int)=(ck:Int)) (mo hd:ByteArray) (hmo:s1.extract (k+1) s1.size=mo) (_hhd:s1.extract 0 k=hd) (cm:Nat) (jC:∀ W,Hid (Calls Tryz.prog 65 #[.string mo,.int .i64 0] W fun e w'=>e=.returned (.int .i64 (cm:Int))∧W=w')) (hb:((cm:Int) != mo.size)=false) (he:(mo.toList==[])=false) (_he2:¬ mo.toList=[]) (_he3:mo.toList.isEmpty=false) (h46:((ck:Int) != 46)=true) (h47:((ck:Int) != 47)=true):Calls Tryz.prog 62 #[.string s] w (zQ q false w):=by
 have yP:=yA (Resa.start w)
 go_enter Tryz.func62,Tryz.ntmps62
 go_wp2_with fail
 refine (jJ _).out.mono ?_
 rintro e w1 ⟨rfl,rfl⟩
 have ydx:(k:Int)<s1.size:=by omega
 go_wp2_with fail
 go_quiet (fail)
 have hrq:=yA (yP.out.next (yJ _ _ nq))
 go_wp2_with fail
 refine (jC _).out.mono ?_
 rintro e w1 ⟨rfl,rfl⟩
 obtain ⟨z0,z1,z2,l0,l1,l2,f0,f1,f2⟩:=hrq.out.slots
 have q3:=yA (hrq.out.put3 (Nat.le_refl _) false none none 0 0 0 0).below
 go_wp2_with fail
 refine bodyPost_ret (v:=.tuple #[.agg #[.bool false,.slice none 0 0,.slice none 0 0],.bool false]) ?h1 rfl ?h2
 case h1=>simp [results,Tryz.results62,go_sem,l0,l1,l2]<;>omega
 exact ⟨_,_,_,_,_,_,_,rfl,q3.out,fun h=>by cases h⟩
theorem yig (s:ByteArray) (k:Nat) (q:Rat) (sb:Bool) (N0 D0:Nat) (w:World) (hmax:(s.size:Int)≤100000) (hz:0<s.size) (hm:(((s[0]'hz).toNat:Int)==45)=true) (s1:ByteArray) (hs1:s.extract 1 s.size=s1) (ygf:(s1.size:Int)≤100000) (jJ:∀ W,Hid (Calls Tryz.prog 65 #[.string s1,.int .i64 0] W fun e w'=>e=.returned (.int .i64 (k:Int))∧W=w')) (hk0:((k:Int)==0)=false) (hks:((k:Int)==s1.size)=false) (hkl:k<s1.size) (ck:Nat) (hck:((s1[k]'hkl).toNat:Int)=(ck:Int)) (mo hd:ByteArray) (hmo:s1.extract (k+1) s1.size=mo) (hhd:s1.extract 0 k=hd) (cm:Nat) (jC:∀ W,Hid (Calls Tryz.prog 65 #[.string mo,.int .i64 0] W fun e w'=>e=.returned (.int .i64 (cm:Int))∧W=w')) (hb:((cm:Int) != mo.size)=false) (he:(mo.toList==[])=false) (_he2:¬ mo.toList=[]) (_he3:mo.toList.isEmpty=false) (h47:ck=47) (hD0:D0≠0) (yci:∀ W,Hid (Calls Tryz.prog 90 #[.string mo] W (zU D0 W))) (ybg:∀ W,Hid (Calls Tryz.prog 90 #[.string hd] W (zU N0 W))) (hqs:Hid (sb=decide (q.num<0))) (hmk:∀ W u v,yL W u N0→yL W v D0→Hid (Calls Tryz.prog 69 #[.bool true,u,v] W (yam q sb W))):Calls Tryz.prog 62 #[.string s] w (zQ q true w):=by
 subst h47
 have yP:=yA (Resa.start w)
 go_enter Tryz.func62,Tryz.ntmps62
 go_wp2_with fail
 refine (jJ _).out.mono ?_
 rintro e w1 ⟨rfl,rfl⟩
 have ydx:(k:Int)<s1.size:=by omega
 go_wp2_with fail
 go_quiet (fail)
 have hrq:=yA (yP.out.next (yJ _ _ nq))
 go_wp2_with fail
 refine (jC _).out.mono ?_
 rintro e w1 ⟨rfl,rfl⟩
 go_wp2_with fail
 refine (yci _).out.mono ?_
 rintro e w2 ⟨v2,rfl,hv2,hb2,-⟩
 obtain ⟨p2,n2,c2,rfl⟩:=hv2.slice
 have hr2:=yA (hrq.out.next hb2)
 have Hv2:=yA hv2
 have hn3:0<n2:=by have h:=hv2.zero_iff (n:=n2);omega
 have hn2:(0:Int)<n2:=by omega
 clear hv2 hb2
 go_wp2_with fail
 refine (ybg _).out.mono ?_
 rintro e w3 ⟨v3,rfl,hv3,hb3,-⟩
 obtain ⟨p3,n3,c3,rfl⟩:=hv3.slice
 have HR:=yA (hr2.out.next hb3)
 have hm3:=hmk w3 _ _ hv3 (Hv2.out.below hb3)
 clear hv3 hb3 hr2
 go_wp2_with fail
 refine hm3.out.mono ?_
 rintro e wM ⟨pr,nr,cr,pq,nq,cq,rfl,hr1,hr2,hbM⟩
 have hrz:=yA (HR.out.next hbM)
 have Hr1:=yA hr1
 have Hr2:=yA hr2
 obtain ⟨z0,z1,z2,l0,l1,l2,f0,f1,f2⟩:=hrz.out.slots
 clear hr1 hr2 hbM
 go_wp2_with fail
 have yE:=yA (hrz.out.fin (Nat.le_refl _) hqs.out Hr1.out Hr2.out)
 refine bodyPost_ret (v:=.tuple #[.agg #[.bool sb,.slice pr nr cr,.slice pq nq cq],.bool true]) ?h1 rfl ?h2
 case h1=>simp [results,Tryz.results62,go_sem,l0,l1,l2]<;>omega
 obtain ⟨x,hx,hq,hb⟩:=yE.out
 cases hx
 exact ⟨_,_,_,_,_,_,_,rfl,hb,fun _=>hq⟩
theorem yih (s:ByteArray) (k:Nat) (q:Rat) (sb:Bool) (N0 D0:Nat) (w:World) (hmax:(s.size:Int)≤100000) (hz:0<s.size) (hm:(((s[0]'hz).toNat:Int)==45)=true) (s1:ByteArray) (hs1:s.extract 1 s.size=s1) (ygf:(s1.size:Int)≤100000) (jJ:∀ W,Hid (Calls Tryz.prog 65 #[.string s1,.int .i64 0] W fun e w'=>e=.returned (.int .i64 (k:Int))∧W=w')) (hk0:((k:Int)==0)=false) (hks:((k:Int)==s1.size)=false) (hkl:k<s1.size) (ck:Nat) (hck:((s1[k]'hkl).toNat:Int)=(ck:Int)) (mo hd:ByteArray) (hmo:s1.extract (k+1) s1.size=mo) (hhd:s1.extract 0 k=hd) (cm:Nat) (jC:∀ W,Hid (Calls Tryz.prog 65 #[.string mo,.int .i64 0] W fun e w'=>e=.returned (.int .i64 (cm:Int))∧W=w')) (hb:((cm:Int) != mo.size)=false) (he:(mo.toList==[])=false) (_he2:¬ mo.toList=[]) (_he3:mo.toList.isEmpty=false) (h47:ck=47) (hD0:D0=0) (yci:∀ W,Hid (Calls Tryz.prog 90 #[.string mo] W (zU D0 W))) (ybg:∀ W,Hid (Calls Tryz.prog 90 #[.string hd] W (zU N0 W))) (hqs:Hid (sb=decide (q.num<0))) (hmk:∀ W u v,yL W u N0→yL W v D0→Hid (Calls Tryz.prog 69 #[.bool true,u,v] W (yam q sb W))):Calls Tryz.prog 62 #[.string s] w (zQ q false w):=by
 subst h47
 have yP:=yA (Resa.start w)
 go_enter Tryz.func62,Tryz.ntmps62
 go_wp2_with fail
 refine (jJ _).out.mono ?_
 rintro e w1 ⟨rfl,rfl⟩
 have ydx:(k:Int)<s1.size:=by omega
 go_wp2_with fail
 go_quiet (fail)
 have hrq:=yA (yP.out.next (yJ _ _ nq))
 go_wp2_with fail
 refine (jC _).out.mono ?_
 rintro e w1 ⟨rfl,rfl⟩
 go_wp2_with fail
 refine (yci _).out.mono ?_
 rintro e w2 ⟨v2,rfl,hv2,hb2,-⟩
 obtain ⟨p2,n2,c2,rfl⟩:=hv2.slice
 have hr2:=yA (hrq.out.next hb2)
 have Hv2:=yA hv2
 have hn3:n2=0:=by have h:=hv2.zero_iff (n:=n2);omega
 subst hn3
 clear hv2 hb2
 go_wp2_with fail
 refine (ybg _).out.mono ?_
 rintro e w3 ⟨v3,rfl,hv3,hb3,-⟩
 obtain ⟨p3,n3,c3,rfl⟩:=hv3.slice
 have HR:=yA (hr2.out.next hb3)
 have hm3:=hmk w3 _ _ hv3 (Hv2.out.below hb3)
 clear hv3 hb3 hr2
 go_wp2_with fail
 refine hm3.out.mono ?_
 rintro e wM ⟨pr,nr,cr,pq,nq,cq,rfl,hr1,hr2,hbM⟩
 have hrz:=yA (HR.out.next hbM)
 have Hr1:=yA hr1
 have Hr2:=yA hr2
 obtain ⟨z0,z1,z2,l0,l1,l2,f0,f1,f2⟩:=hrz.out.slots
 clear hr1 hr2 hbM
 go_wp2_with fail
 have yE:=yA (hrz.out.fin (Nat.le_refl _) hqs.out Hr1.out Hr2.out)
 refine bodyPost_ret (v:=.tuple #[.agg #[.bool sb,.slice pr nr cr,.slice pq nq cq],.bool false]) ?h1 rfl ?h2
 case h1=>simp [results,Tryz.results62,go_sem,l0,l1,l2]<;>omega
 obtain ⟨x,hx,hq,hb⟩:=yE.out
 cases hx
 exact ⟨_,_,_,_,_,_,_,rfl,hb,fun _=>hq⟩
theorem ykf (s:ByteArray) (k:Nat) (q:Rat) (sb:Bool) (N0 D0:Nat) (w:World) (hmax:(s.size:Int)≤100000) (hz:0<s.size) (hm:(((s[0]'hz).toNat:Int)==45)=true) (s1:ByteArray) (hs1:s.extract 1 s.size=s1) (ygf:(s1.size:Int)≤100000) (jJ:∀ W,Hid (Calls Tryz.prog 65 #[.string s1,.int .i64 0] W fun e w'=>e=.returned (.int .i64 (k:Int))∧W=w')) (hk0:((k:Int)==0)=false) (hks:((k:Int)==s1.size)=false) (hkl:k<s1.size) (ck:Nat) (hck:((s1[k]'hkl).toNat:Int)=(ck:Int)) (mo hd:ByteArray) (hmo:s1.extract (k+1) s1.size=mo) (hhd:s1.extract 0 k=hd) (cm:Nat) (jC:∀ W,Hid (Calls Tryz.prog 65 #[.string mo,.int .i64 0] W fun e w'=>e=.returned (.int .i64 (cm:Int))∧W=w')) (hb:((cm:Int) != mo.size)=false) (he:(mo.toList==[])=false) (_he2:¬ mo.toList=[]) (_he3:mo.toList.isEmpty=false) (h46:ck=46) (jR:Hid (mo.data.toList.all yG=true)) (hsz:(mo.size:Int)≤100000) (hszh:(hd.size:Int)≤100000) (hD0:Hid (D0=10^mo.size)) (ybg:∀ W,Hid (Calls Tryz.prog 90 #[.string (hd++mo)] W (zU N0 W))) (hqs:Hid (sb=decide (q.num<0))) (hmk:∀ W u v,yL W u N0→yL W v D0→Hid (Calls Tryz.prog 69 #[.bool true,u,v] W (yam q sb W))):Calls Tryz.prog 62 #[.string s] w (zQ q true w):=by
 subst h46
 have jW:∀ W,Hid (Calls Tryz.prog 71 #[] W (zU 1 W)):=fun W=>yA (ycy W)
 have yrL:∀ W,Hid (Calls Tryz.prog 70 #[.int .u64 10] W (zU 10 W)):=fun W=>yA (yaA 10 W (by omega))
 have yP:=yA (Resa.start w)
 go_enter Tryz.func62,Tryz.ntmps62
 go_wp2_with fail
 refine (jJ _).out.mono ?_
 rintro e w1 ⟨rfl,rfl⟩
 have ydx:(k:Int)<s1.size:=by omega
 go_wp2_with fail
 go_quiet (fail)
 have hrq:=yA (yP.out.next (yJ _ _ nq))
 go_wp2_with fail
 refine (jC _).out.mono ?_
 rintro e w1 ⟨rfl,rfl⟩
 go_wp2_with fail
 refine (jW _).out.mono ?_
 rintro e w2 ⟨v2,rfl,hv2,hb2,-⟩
 obtain ⟨p2,n2,c2,rfl⟩:=hv2.slice
 have hr2:=hrq.out.next hb2
 have hst:Hid (DotAt w (w2.iter mo 0) w2.heap.size mo 0 (.slice p2 n2 c2)):=yA ⟨by rw [Nat.pow_zero];exact hv2.below (zJ _ _),World.iter_heap _ _ _,hr2.next (zJ _ _),by have:=hr2.size;omega,Nat.zero_le _⟩
 clear hv2 hb2 hr2
 go_wp2_with fail
 go_loopw [9] (fun dv w3=>∃ (pos:Nat) (pd:Option Addr) (nd cd:Nat),dv=.slice pd nd cd∧Hid (DotAt w w3 w2.heap.size mo pos dv)) (fun _ w3=>mo.size-w3.iterPos w2.heap.size)
 case atStart=>exact ⟨0,_,_,_,rfl,hst⟩
 case round =>
  obtain ⟨pos,pd,nd,cd,rfl,hat⟩:=hrel
  by_cases hp:pos<mo.size
  ·have yof:(mo[pos]'hp).toNat<128:=by
    have h1:yG (mo[pos]'hp)=true:=List.all_eq_true.1 jR.out _ (List.getElem_mem (by simpa using hp):mo.data.toList[pos]'(by simpa using hp) ∈ _)
    simp [yG] at h1;omega
   have hnx:∀ ty,(Instr.next (.pointer (some ⟨w2.heap.size,0,none⟩)) true ty).run Tryz.prog wr=_:=fun ty=>ymk wr w2.heap.size mo pos ty hat.out.it hp yof
   have hd1:=yA (hat.out.nat.iter hat.out.it (pos+1))
   have hps:Hid (pos≤100000):=yA (by omega)
   clear yof
   go_wp2_with fail
   refine (yrL _).out.mono ?_
   rintro e w5 ⟨v5,rfl,hv5,hb5,-⟩
   obtain ⟨p5,n5,c5,rfl⟩:=hv5.slice
   have hm5:Hid (Calls Tryz.prog 72 #[.slice pd nd cd,.slice p5 n5 c5] w5 (zU (10^pos*10) w5)):=yA (uV _ _ _ _ (pos+1) 1 w5 (by have:=hps.out;unfold yT;omega) (by unfold yT;omega) (yjo pos) (by rw [Nat.pow_one,zN];omega) (hd1.out.below hb5) hv5)
   have Hb5:=yA hb5
   clear hv5 hb5
   go_wp2_with fail
   refine hm5.out.mono ?_
   rintro e w6 ⟨v6,rfl,hv6,hb6,-⟩
   obtain ⟨p6,n6,c6,rfl⟩:=hv6.slice
   have zR:Hid (DotAt w w6 w2.heap.size mo (pos+1) (.slice p6 n6 c6)):=yA (hat.out.step hp (Hb5.out.trans (hb6.mono Hb5.out.size)) (by rw [Nat.pow_succ];exact hv6))
   have yba:Hid (mo.size-w6.iterPos w2.heap.size<mo.size-wr.iterPos w2.heap.size):=yA (by
    have h1:=zR.out.it
    have h2:=hat.out.it
    simp only [World.iterPos,h1,h2];omega)
   clear hv6 hb6
   go_wp2_with fail
   go_roundw
   case rel=>exact ⟨pos+1,_,_,_,rfl,zR⟩
   case measure=>exact yba.out
  ·have hpe:pos=mo.size:=by have:=hat.out.le;omega
   have hnx:∀ ty,(Instr.next (.pointer (some ⟨w2.heap.size,0,none⟩)) true ty).run Tryz.prog wr=_:=fun ty=>yew wr w2.heap.size mo pos ty hat.out.it hp
   have hdn:Hid (yL wr (.slice pd nd cd) D0):=yA (by rw [hD0.out,← hpe];exact hat.out.nat)
   clear hpe
   go_wp2_with fail
   refine (ybg _).out.mono ?_
   rintro e w7 ⟨v7,rfl,hv7,hb7,-⟩
   obtain ⟨p7,n7,c7,rfl⟩:=hv7.slice
   have HR:=yA (hat.out.res.next hb7)
   have hm3:=hmk w7 _ _ hv7 (hdn.out.below hb7)
   clear hv7 hb7
   go_wp2_with fail
   refine hm3.out.mono ?_
   rintro e wM ⟨pr,nr,cr,pq,nq,cq,rfl,hr1,hr2,hbM⟩
   have hrz:=yA (HR.out.next hbM)
   have Hr1:=yA hr1
   have Hr2:=yA hr2
   obtain ⟨z0,z1,z2,l0,l1,l2,f0,f1,f2⟩:=hrz.out.slots
   clear hr1 hr2 hbM
   go_wp2_with fail
   have yE:=yA (hrz.out.fin (Nat.le_refl _) hqs.out Hr1.out Hr2.out)
   refine bodyPost_ret (v:=.tuple #[.agg #[.bool sb,.slice pr nr cr,.slice pq nq cq],.bool true]) ?h1 rfl ?h2
   case h1=>simp [results,Tryz.results62,go_sem,l0,l1,l2]<;>omega
   obtain ⟨x,hx,hq,hb⟩:=yE.out
   cases hx
   exact ⟨_,_,_,_,_,_,_,rfl,hb,fun _=>hq⟩
theorem yg7 (l:List UInt8) (x:UInt8):(x ∉ l∧Lib.cut l [x]=(l,[],false))∨∃ a b,l=a++x::b∧x ∉ a∧Lib.cut l [x]=(a,b,true):=by
 by_cases h:x ∈ l
 ·obtain ⟨a,b,e,ha⟩:=List.eq_append_cons_of_mem h
  exact .inr ⟨a,b,e,ha,by rw [e];exact yhd ha⟩
 ·exact .inl ⟨h,ybD h⟩
theorem yjp {a b:List UInt8} {x:UInt8} (ha:a.all yG=true) (hx:yG x=false):(a++x::b).takeWhile yG=a:=by
 induction a with
 | nil=>simp [hx]
 | cons y l ih =>
  rw [List.all_cons,Bool.and_eq_true] at ha
  simp [ha.1,ih ha.2]
theorem yg8 {a b c d:List UInt8} {x y:UInt8} (ha:a.all yG=true) (hx:yG x=false) (hc:c.all yG=true) (hy:yG y=false) (h:a++x::b=c++y::d):a=c∧x=y∧b=d:=by
 have h1:=yjp (b:=b) ha hx
 have h2:=yjp (b:=d) hc hy
 rw [h,h2] at h1
 subst h1
 have:=List.append_cancel_left h
 simp at this
 exact ⟨rfl,this.1,this.2⟩
theorem yce {l:List UInt8} {x:UInt8} (hx:x ∈ l) (hn:yG x=false):yR l=false:=by
 have:l.all yG=false:=by rw [List.all_eq_false];exact ⟨x,hx,by simp [hn]⟩
 simp [yR,this]
theorem yah (hd mo:List UInt8) (c:UInt8) (hh:hd.all yG=true) (hc:yG c=false) :
  vY (hd++c::mo)=if c=46 then (if yR hd&&yR mo then some (yX (hd++mo),10^mo.length) else none) else if c=47 then (if yR hd&&yR mo&&!(yX mo==0) then some (yX hd,yX mo) else none) else none:=by
 have k1:yG 46=false:=by decide
 have k2:yG 47=false:=by decide
 unfold vY
 by_cases h46:c=46
 ·subst h46
  rw [if_pos rfl,yhd (yaJ hh k1)]
  rfl
 ·rw [if_neg h46]
  rcases yg7 (hd++c::mo) 46 with ⟨hn,e⟩|⟨a,b,e,hna,e2⟩
  ·rw [e]
   simp only [Bool.false_eq_true,if_false]
   by_cases h47:c=47
   ·subst h47
    rw [if_pos rfl,yhd (yaJ hh k2)]
    rfl
   ·rw [if_neg h47]
    rcases yg7 (hd++c::mo) 47 with ⟨hn2,e3⟩|⟨a,b,e3,hna,e4⟩
    ·rw [e3]
     simp only [Bool.false_eq_true,if_false]
     rw [yce (x:=c) (by simp) hc];rfl
    ·rw [e4]
     have:yR a=false:=by
      cases h:yR a with
      | false=>rfl
      | true =>
       have:=yg8 hh hc (jM h) k2 e3
       exact absurd this.2.1 h47
     rw [this];rfl
  ·rw [e2]
   have h1:yR a=false:=by
    cases h:yR a with
    | false=>rfl
    | true =>
     have:=yg8 hh hc (jM h) k1 e
     exact absurd this.2.1 h46
   have h2:yR mo=false:=by
    have hm:(46:UInt8) ∈ hd++c::mo:=by rw [e];simp
    have:(46:UInt8) ∈ mo:=by
     rcases List.mem_append.1 hm with h|h
     ·exact absurd h (yaJ hh k1)
     ·rcases List.mem_cons.1 h with h|h
      ·exact absurd h.symm h46
      ·exact h
    exact yce this k1
   rw [h1,h2]
   simp
theorem ybf (l:List UInt8) (h:yR l=true):vY l=some (yX l,1):=by
 have h1:=jM h
 unfold vY
 rw [ybD (yaJ h1 (by decide)),ybD (yaJ h1 (by decide))]
 simp [h]
theorem ycO (l:List UInt8) (h:yF l<l.length):∃ (hd mo:List UInt8) (c:UInt8),l=hd++c::mo∧hd.length=yF l∧hd.all yG=true∧yG c=false∧hd=l.take (yF l)∧mo=l.drop (yF l+1)∧l[yF l]?=some c:=by
 have h1:l.takeWhile yG++l.dropWhile yG=l:=List.takeWhile_append_dropWhile
 cases hdw:l.dropWhile yG with
 | nil=>rw [hdw,List.append_nil] at h1;unfold yF at h;rw [h1] at h;omega
 | cons c mo =>
  rw [hdw] at h1
  have hc:yG c=false:=by
   have:=List.head?_dropWhile_not yG l
   rw [hdw] at this
   simpa using this
  have ha:(l.takeWhile yG).all yG=true:=List.all_takeWhile
  have hcn:yF l=(l.takeWhile yG).length:=rfl
  rw [hcn]
  generalize l.takeWhile yG=hd at h1 ha
  subst h1
  exact ⟨hd,mo,c,rfl,rfl,ha,hc,by simp,by simp,by simp⟩
theorem ybV (l:List UInt8):yF l=l.length↔l.all yG=true:=by
 unfold yF
 constructor
 ·intro h
  have h1:l.takeWhile yG=l:=List.IsPrefix.eq_of_length (List.takeWhile_prefix yG) h
  rw [← h1];exact List.all_takeWhile
 ·intro h
  have:l.takeWhile yG=l:=by
   have:=uU yG l l.length (Nat.le_refl _) (by rw [List.take_length];exact h) (.inl rfl)
   exact List.IsPrefix.eq_of_length (List.takeWhile_prefix yG) this
  rw [this]
theorem ycr {l:List UInt8} {K:Nat} (jR:l.all yG=true) (h:l.length≤9*K):yX l<B9^K:=by
 rw [yau]
 exact Nat.lt_of_lt_of_le (ybS l jR) (Nat.pow_le_pow_right (by omega) h)
theorem yml {K:Nat} (h:1≤K):1<B9^K:=ybI (K:=1) (by rw [Nat.pow_one,zN];omega) h
theorem ymm {n K:Nat} (h:n<9*K):10^n<B9^K:=by
 rw [yau];exact Nat.pow_lt_pow_right (by omega) h
def ydY (o:Option (Bool × Nat × Nat)) (w:World) (e:Ending) (w':World):Prop:=match o with
 | some (sg,n,d)=>zQ (zD sg n d) true w e w'
 | none=>∃ q,zQ q false w e w'
theorem ygF (s:ByteArray) (w:World) (hmax:(s.size:Int)≤1000) (hz:0<s.size) (hm:(((s[0]'hz).toNat:Int)==45)=false) (o:Option (Nat × Nat)) (ho:vY s.data.toList=o) :
  Calls Tryz.prog 62 #[.string s] w (ydY (o.map fun p=>(false,p.1,p.2)) w):=by
 have hmx:(s.size:Int)≤100000:=by omega
 obtain ⟨l,hl⟩:∃ l,s.data.toList=l:=⟨_,rfl⟩
 have hll:l.length=s.size:=by rw [← hl];simp
 rw [hl] at ho
 have jJ:∀ W,Hid (Calls Tryz.prog 65 #[.string s,.int .i64 0] W fun e w'=>e=.returned (.int .i64 ((yF l:Nat):Int))∧W=w'):=fun W=>yA (by rw [← hl];exact ybj s W (by omega))
 have hmk:∀ (N0 D0:Nat) (q:Rat) (sb:Bool),N0<B9^2000→D0<B9^2000→q=zD false N0 D0→sb=decide (q.num<0)→∀ W u v,yL W u N0→yL W v D0→Hid (Calls Tryz.prog 69 #[.bool false,u,v] W (yam q sb W)):=by
  intro N0 D0 q sb h1 h2 h3 h4 W u v hu hv
  refine yA ((ybE false u v N0 D0 2000 W (by omega) h1 h2 hu hv).mono fun e w' h=>?_)
  rw [← h3] at h
  exact h.b h4
 have hlen:l.length≤1000:=by omega
 by_cases hk:yF l=0
 ·have yos:o=none:=by
   rw [← ho]
   by_cases h0:l=[]
   ·subst h0;rfl
   ·obtain ⟨hd,mo,c,e,h1,h2,h3,-,-,-⟩:=ycO l (by rw [hk];exact List.length_pos_iff.2 h0)
    rw [hk] at h1
    have:hd=[]:=List.eq_nil_of_length_eq_zero h1
    subst this
    rw [e,yah _ _ _ h2 h3]
    simp [yR]
  rw [yos]
  exact (ylS s (yF l) 0 false 0 0 w hmx hz hm jJ hk).mono fun e w' h=>⟨_,h⟩
 ·have hk0:(((yF l:Nat):Int)==0)=false:=by simp;omega
  by_cases hks:yF l=l.length
  ·have jR:=(ybV l).1 hks
   have had:yR l=true:=by
    unfold yR;rw [jR]
    cases h:l with
    | nil=>rw [h] at hk;exact absurd rfl hk
    | cons x t=>rfl
   have hoo:o=some (yX l,1):=by rw [← ho];exact ybf l had
   rw [hoo]
   have hN:yX l<B9^2000:=ycr (K:=2000) jR (by omega)
   exact ylT s (yF l) (zD false (yX l) 1) _ (yX l) 1 w hmx hz hm jJ hk0 (by rw [hks,hll];simp) (fun W=>yA (by rw [← hl];exact uC s W (by omega) (by rw [hl];exact jR))) (fun W=>yA (ycy W)) (yA rfl) (hmk _ _ _ _ hN (yml (K:=2000) (by omega)) rfl rfl)
  ·have hlt:yF l<l.length:=by
    have:yF l≤l.length:=by unfold yF;exact (List.takeWhile_prefix yG).length_le
    omega
   obtain ⟨hd,mo,c,e,h1,h2,h3,h4,h5,h6⟩:=ycO l hlt
   have yc4:(((yF l:Nat):Int)==s.size)=false:=by rw [← hll];simp;omega
   have hkl:yF l<s.size:=by omega
   have hck:((s[yF l]'hkl).toNat:Int)=(c.toNat:Int):=by
    have:s[yF l]'hkl=c:=by
     subst hl
     rw [List.getElem?_eq_getElem (by simpa using hkl)] at h6
     exact Option.some.inj h6
    rw [this]
   obtain ⟨mb,hmb⟩:∃ mb,s.extract (yF l+1) s.size=mb:=⟨_,rfl⟩
   obtain ⟨hb,hhb⟩:∃ hb,s.extract 0 (yF l)=hb:=⟨_,rfl⟩
   have lmb:mb.data.toList=mo:=by rw [← hmb,extract_to_end,hl,h5]
   have lhb:hb.data.toList=hd:=by rw [← hhb,extract_upto,hl,h4]
   have smb:mb.size=mo.length:=by rw [← lmb];simp
   have shb:hb.size=hd.length:=by rw [← lhb];simp
   have hle:l.length=hd.length+1+mo.length:=by rw [e];simp;omega
   have jC:∀ W,Hid (Calls Tryz.prog 65 #[.string mb,.int .i64 0] W fun e w'=>e=.returned (.int .i64 ((yF mo:Nat):Int))∧W=w'):=fun W=>yA (by rw [← lmb];exact ybj mb W (by omega))
   have hsp:=yah hd mo c h2 h3
   rw [← e,ho] at hsp
   have had:yR hd=true:=by
    unfold yR;rw [h2]
    cases h:hd with
    | nil=>rw [h] at h1;exact absurd h1.symm hk
    | cons x t=>rfl
   by_cases hcm:yF mo=mo.length
   ·have ybo:=(ybV mo).1 hcm
    by_cases hm0:mo=[]
    ·have hoo:o=none:=by
      rw [hsp,hm0];simp [yR]
     rw [hoo]
     exact (yia s (yF l) 0 false 0 0 w hmx hz hm jJ hk0 yc4 hkl c.toNat hck mb hb hmb hhb (yF mo) jC (by rw [hcm,hm0];rfl) (yfn (by rw [lmb,hm0]))).mono fun e w' h=>⟨_,h⟩
    ·have hmd:yR mo=true:=by
      unfold yR;rw [ybo]
      cases h:mo with
      | nil=>exact absurd h hm0
      | cons x t=>rfl
     have ygb:(((yF mo:Nat):Int) != mb.size)=false:=by rw [hcm,smb];simp
     have ltl:mb.toList=mo:=by rw [Lib.toList_data];exact lmb
     have e1:(mb.toList==[])=false:=by rw [ltl,beq_eq_false_iff_ne];exact hm0
     have e2:¬ mb.toList=[]:=by rw [ltl];exact hm0
     have e3:mb.toList.isEmpty=false:=by rw [ltl];cases h:mo with|nil=>exact absurd h hm0|cons x t=>rfl
     have yd9:∀ x:List UInt8,x.all yG=true→x.length≤1000→yX x<B9^2000:=fun x hx hxl=>ycr (K:=2000) hx (by omega)
     by_cases h47:c=47
     ·have h46:¬ c=46:=by rw [h47];decide
      rw [if_neg h46,if_pos h47,had,hmd] at hsp
      have yci:∀ W,Hid (Calls Tryz.prog 90 #[.string mb] W (zU (yX mo) W)):=fun W=>yA (by rw [← lmb];exact uC mb W (by omega) (by rw [lmb];exact ybo))
      have ybg:∀ W,Hid (Calls Tryz.prog 90 #[.string hb] W (zU (yX hd) W)):=fun W=>yA (by rw [← lhb];exact uC hb W (by omega) (by rw [lhb];exact h2))
      have yog:c.toNat=47:=by rw [h47];rfl
      by_cases hd0:yX mo=0
      ·have hoo:o=none:=by rw [hsp,hd0];rfl
       rw [hoo]
       exact (yid s (yF l) _ _ (yX hd) (yX mo) w hmx hz hm jJ hk0 yc4 hkl c.toNat hck mb hb hmb hhb (yF mo) jC ygb e1 e2 e3 yog hd0 yci ybg (yA rfl) (hmk _ _ _ _ (yd9 hd h2 (by omega)) (yd9 mo ybo (by omega)) rfl rfl)).mono fun e w' h=>⟨_,h⟩
      ·have hoo:o=some (yX hd,yX mo):=by
        rw [hsp]
        have:(yX mo==0)=false:=by simpa using hd0
        rw [this];rfl
       rw [hoo]
       exact yic s (yF l) _ _ (yX hd) (yX mo) w hmx hz hm jJ hk0 yc4 hkl c.toNat hck mb hb hmb hhb (yF mo) jC ygb e1 e2 e3 yog hd0 yci ybg (yA rfl) (hmk _ _ _ _ (yd9 hd h2 (by omega)) (yd9 mo ybo (by omega)) rfl rfl)
     ·by_cases h46:c=46
      ·rw [if_pos h46,had,hmd] at hsp
       have hoo:o=some (yX (hd++mo),10^mo.length):=hsp
       rw [hoo]
       have yiB:(hd++mo).all yG=true:=by rw [List.all_append,h2,ybo];rfl
       have lhm:(hb++mb).data.toList=hd++mo:=by simp [lhb,lmb]
       have shm:(hb++mb).size=hd.length+mo.length:=by simp [shb,smb]
       have hrd:∀ W,Hid (Calls Tryz.prog 90 #[.string (hb++mb)] W (zU (yX (hd++mo)) W)):=fun W=>yA (by rw [← lhm];exact uC (hb++mb) W (by rw [shm];omega) (by rw [lhm];exact yiB))
       exact ykd s (yF l) _ _ (yX (hd++mo)) (10^mo.length) w hmx hz hm jJ hk0 yc4 hkl c.toNat hck mb hb hmb hhb (yF mo) jC ygb e1 e2 e3 (by rw [h46];rfl) (yA (by rw [lmb];exact ybo)) (by omega) (by omega) (yA (by rw [smb])) hrd (yA rfl) (hmk _ _ _ _ (yd9 _ yiB (by rw [List.length_append];omega)) (ymm (K:=2000) (by omega)) rfl rfl)
      ·rw [if_neg h46,if_neg h47] at hsp
       rw [hsp]
       have n46:((c.toNat:Int) != 46)=true:=by
        have:c.toNat≠46:=fun h=>h46 (UInt8.toNat_inj.1 h)
        simp;omega
       have n47:((c.toNat:Int) != 47)=true:=by
        have:c.toNat≠47:=fun h=>h47 (UInt8.toNat_inj.1 h)
        simp;omega
       exact (yib s (yF l) 0 false 0 0 w hmx hz hm jJ hk0 yc4 hkl c.toNat hck mb hb hmb hhb (yF mo) jC ygb e1 e2 e3 n46 n47).mono fun e w' h=>⟨_,h⟩
   ·have hmd:yR mo=false:=by
     cases h:yR mo with
     | false=>rfl
     | true=>exact absurd ((ybV mo).2 (jM h)) hcm
    have hoo:o=none:=by
     rw [hsp,hmd];simp
    rw [hoo]
    exact (ykc s (yF l) 0 false 0 0 w hmx hz hm jJ hk0 yc4 hkl c.toNat hck mb hb hmb hhb (yF mo) jC (by rw [smb];simp;omega)).mono fun e w' h=>⟨_,h⟩
theorem ygG (s:ByteArray) (w:World) (hmax:(s.size:Int)≤1000) (hz:0<s.size) (hm:(((s[0]'hz).toNat:Int)==45)=true) (s1:ByteArray) (hs1:s.extract 1 s.size=s1) (ygf:(s1.size:Int)≤1000) (o:Option (Nat × Nat)) (ho:vY s1.data.toList=o) :
  Calls Tryz.prog 62 #[.string s] w (ydY (o.map fun p=>(true,p.1,p.2)) w):=by
 have hmx:(s.size:Int)≤100000:=by omega
 obtain ⟨l,hl⟩:∃ l,s1.data.toList=l:=⟨_,rfl⟩
 have hll:l.length=s1.size:=by rw [← hl];simp
 rw [hl] at ho
 have jJ:∀ W,Hid (Calls Tryz.prog 65 #[.string s1,.int .i64 0] W fun e w'=>e=.returned (.int .i64 ((yF l:Nat):Int))∧W=w'):=fun W=>yA (by rw [← hl];exact ybj s1 W (by omega))
 have hmk:∀ (N0 D0:Nat) (q:Rat) (sb:Bool),N0<B9^2000→D0<B9^2000→q=zD true N0 D0→sb=decide (q.num<0)→∀ W u v,yL W u N0→yL W v D0→Hid (Calls Tryz.prog 69 #[.bool true,u,v] W (yam q sb W)):=by
  intro N0 D0 q sb h1 h2 h3 h4 W u v hu hv
  refine yA ((ybE true u v N0 D0 2000 W (by omega) h1 h2 hu hv).mono fun e w' h=>?_)
  rw [← h3] at h
  exact h.b h4
 have hlen:l.length≤1000:=by omega
 by_cases hk:yF l=0
 ·have yos:o=none:=by
   rw [← ho]
   by_cases h0:l=[]
   ·subst h0;rfl
   ·obtain ⟨hd,mo,c,e,h1,h2,h3,-,-,-⟩:=ycO l (by rw [hk];exact List.length_pos_iff.2 h0)
    rw [hk] at h1
    have:hd=[]:=List.eq_nil_of_length_eq_zero h1
    subst this
    rw [e,yah _ _ _ h2 h3]
    simp [yR]
  rw [yos]
  exact (ylU s (yF l) 0 false 0 0 w hmx hz hm s1 hs1 (by omega) jJ hk).mono fun e w' h=>⟨_,h⟩
 ·have hk0:(((yF l:Nat):Int)==0)=false:=by simp;omega
  by_cases hks:yF l=l.length
  ·have jR:=(ybV l).1 hks
   have had:yR l=true:=by
    unfold yR;rw [jR]
    cases h:l with
    | nil=>rw [h] at hk;exact absurd rfl hk
    | cons x t=>rfl
   have hoo:o=some (yX l,1):=by rw [← ho];exact ybf l had
   rw [hoo]
   have hN:yX l<B9^2000:=ycr (K:=2000) jR (by omega)
   exact ylV s (yF l) (zD true (yX l) 1) _ (yX l) 1 w hmx hz hm s1 hs1 (by omega) jJ hk0 (by rw [hks,hll];simp) (fun W=>yA (by rw [← hl];exact uC s1 W (by omega) (by rw [hl];exact jR))) (fun W=>yA (ycy W)) (yA rfl) (hmk _ _ _ _ hN (yml (K:=2000) (by omega)) rfl rfl)
  ·have hlt:yF l<l.length:=by
    have:yF l≤l.length:=by unfold yF;exact (List.takeWhile_prefix yG).length_le
    omega
   obtain ⟨hd,mo,c,e,h1,h2,h3,h4,h5,h6⟩:=ycO l hlt
   have yc4:(((yF l:Nat):Int)==s1.size)=false:=by rw [← hll];simp;omega
   have hkl:yF l<s1.size:=by omega
   have hck:((s1[yF l]'hkl).toNat:Int)=(c.toNat:Int):=by
    have:s1[yF l]'hkl=c:=by
     subst hl
     rw [List.getElem?_eq_getElem (by simpa using hkl)] at h6
     exact Option.some.inj h6
    rw [this]
   obtain ⟨mb,hmb⟩:∃ mb,s1.extract (yF l+1) s1.size=mb:=⟨_,rfl⟩
   obtain ⟨hb,hhb⟩:∃ hb,s1.extract 0 (yF l)=hb:=⟨_,rfl⟩
   have lmb:mb.data.toList=mo:=by rw [← hmb,extract_to_end,hl,h5]
   have lhb:hb.data.toList=hd:=by rw [← hhb,extract_upto,hl,h4]
   have smb:mb.size=mo.length:=by rw [← lmb];simp
   have shb:hb.size=hd.length:=by rw [← lhb];simp
   have hle:l.length=hd.length+1+mo.length:=by rw [e];simp;omega
   have jC:∀ W,Hid (Calls Tryz.prog 65 #[.string mb,.int .i64 0] W fun e w'=>e=.returned (.int .i64 ((yF mo:Nat):Int))∧W=w'):=fun W=>yA (by rw [← lmb];exact ybj mb W (by omega))
   have hsp:=yah hd mo c h2 h3
   rw [← e,ho] at hsp
   have had:yR hd=true:=by
    unfold yR;rw [h2]
    cases h:hd with
    | nil=>rw [h] at h1;exact absurd h1.symm hk
    | cons x t=>rfl
   by_cases hcm:yF mo=mo.length
   ·have ybo:=(ybV mo).1 hcm
    by_cases hm0:mo=[]
    ·have hoo:o=none:=by
      rw [hsp,hm0];simp [yR]
     rw [hoo]
     exact (yie s (yF l) 0 false 0 0 w hmx hz hm s1 hs1 (by omega) jJ hk0 yc4 hkl c.toNat hck mb hb hmb hhb (yF mo) jC (by rw [hcm,hm0];rfl) (yfn (by rw [lmb,hm0]))).mono fun e w' h=>⟨_,h⟩
    ·have hmd:yR mo=true:=by
      unfold yR;rw [ybo]
      cases h:mo with
      | nil=>exact absurd h hm0
      | cons x t=>rfl
     have ygb:(((yF mo:Nat):Int) != mb.size)=false:=by rw [hcm,smb];simp
     have ltl:mb.toList=mo:=by rw [Lib.toList_data];exact lmb
     have e1:(mb.toList==[])=false:=by rw [ltl,beq_eq_false_iff_ne];exact hm0
     have e2:¬ mb.toList=[]:=by rw [ltl];exact hm0
     have e3:mb.toList.isEmpty=false:=by rw [ltl];cases h:mo with|nil=>exact absurd h hm0|cons x t=>rfl
     have yd9:∀ x:List UInt8,x.all yG=true→x.length≤1000→yX x<B9^2000:=fun x hx hxl=>ycr (K:=2000) hx (by omega)
     by_cases h47:c=47
     ·have h46:¬ c=46:=by rw [h47];decide
      rw [if_neg h46,if_pos h47,had,hmd] at hsp
      have yci:∀ W,Hid (Calls Tryz.prog 90 #[.string mb] W (zU (yX mo) W)):=fun W=>yA (by rw [← lmb];exact uC mb W (by omega) (by rw [lmb];exact ybo))
      have ybg:∀ W,Hid (Calls Tryz.prog 90 #[.string hb] W (zU (yX hd) W)):=fun W=>yA (by rw [← lhb];exact uC hb W (by omega) (by rw [lhb];exact h2))
      have yog:c.toNat=47:=by rw [h47];rfl
      by_cases hd0:yX mo=0
      ·have hoo:o=none:=by rw [hsp,hd0];rfl
       rw [hoo]
       exact (yih s (yF l) _ _ (yX hd) (yX mo) w hmx hz hm s1 hs1 (by omega) jJ hk0 yc4 hkl c.toNat hck mb hb hmb hhb (yF mo) jC ygb e1 e2 e3 yog hd0 yci ybg (yA rfl) (hmk _ _ _ _ (yd9 hd h2 (by omega)) (yd9 mo ybo (by omega)) rfl rfl)).mono fun e w' h=>⟨_,h⟩
      ·have hoo:o=some (yX hd,yX mo):=by
        rw [hsp]
        have:(yX mo==0)=false:=by simpa using hd0
        rw [this];rfl
       rw [hoo]
       exact yig s (yF l) _ _ (yX hd) (yX mo) w hmx hz hm s1 hs1 (by omega) jJ hk0 yc4 hkl c.toNat hck mb hb hmb hhb (yF mo) jC ygb e1 e2 e3 yog hd0 yci ybg (yA rfl) (hmk _ _ _ _ (yd9 hd h2 (by omega)) (yd9 mo ybo (by omega)) rfl rfl)
     ·by_cases h46:c=46
      ·rw [if_pos h46,had,hmd] at hsp
       have hoo:o=some (yX (hd++mo),10^mo.length):=hsp
       rw [hoo]
       have yiB:(hd++mo).all yG=true:=by rw [List.all_append,h2,ybo];rfl
       have lhm:(hb++mb).data.toList=hd++mo:=by simp [lhb,lmb]
       have shm:(hb++mb).size=hd.length+mo.length:=by simp [shb,smb]
       have hrd:∀ W,Hid (Calls Tryz.prog 90 #[.string (hb++mb)] W (zU (yX (hd++mo)) W)):=fun W=>yA (by rw [← lhm];exact uC (hb++mb) W (by rw [shm];omega) (by rw [lhm];exact yiB))
       exact ykf s (yF l) _ _ (yX (hd++mo)) (10^mo.length) w hmx hz hm s1 hs1 (by omega) jJ hk0 yc4 hkl c.toNat hck mb hb hmb hhb (yF mo) jC ygb e1 e2 e3 (by rw [h46];rfl) (yA (by rw [lmb];exact ybo)) (by omega) (by omega) (yA (by rw [smb])) hrd (yA rfl) (hmk _ _ _ _ (yd9 _ yiB (by rw [List.length_append];omega)) (ymm (K:=2000) (by omega)) rfl rfl)
      ·rw [if_neg h46,if_neg h47] at hsp
       rw [hsp]
       have n46:((c.toNat:Int) != 46)=true:=by
        have:c.toNat≠46:=fun h=>h46 (UInt8.toNat_inj.1 h)
        simp;omega
       have n47:((c.toNat:Int) != 47)=true:=by
        have:c.toNat≠47:=fun h=>h47 (UInt8.toNat_inj.1 h)
        simp;omega
       exact (yif s (yF l) 0 false 0 0 w hmx hz hm s1 hs1 (by omega) jJ hk0 yc4 hkl c.toNat hck mb hb hmb hhb (yF mo) jC ygb e1 e2 e3 n46 n47).mono fun e w' h=>⟨_,h⟩
   ·have hmd:yR mo=false:=by
     cases h:yR mo with
     | false=>rfl
     | true=>exact absurd ((ybV mo).2 (jM h)) hcm
    have hoo:o=none:=by
     rw [hsp,hmd];simp
    rw [hoo]
    exact (yke s (yF l) 0 false 0 0 w hmx hz hm s1 hs1 (by omega) jJ hk0 yc4 hkl c.toNat hck mb hb hmb hhb (yF mo) jC (by rw [smb];simp;omega)).mono fun e w' h=>⟨_,h⟩
theorem ynt (s:ByteArray) (w:World) (hmax:(s.size:Int)≤1000):Calls Tryz.prog 62 #[.string s] w (ydY (jL s.data.toList) w):=by
 by_cases hz:s.size=0
 ·have hl:s.data.toList=[]:=List.eq_nil_of_length_eq_zero (by simpa using hz)
  have:jL s.data.toList=none:=by rw [hl];rfl
  rw [this]
  have hc:yF s.data.toList=0:=by rw [hl];rfl
  exact (ylR s 0 0 false 0 0 w (by omega) hz (fun W=>yA (by have h:=ybj s W (by omega);rw [hc] at h;exact h)) rfl).mono fun e w' h=>⟨_,h⟩
 ·have hz0:0<s.size:=by omega
  have hl0:0<s.data.toList.length:=by simpa using hz0
  obtain ⟨x,t,hl⟩:∃ x t,s.data.toList=x::t:=by
   cases h:s.data.toList with
   | nil=>rw [h] at hl0;simp at hl0
   | cons x t=>exact ⟨x,t,rfl⟩
  have hx:s[0]'hz0=x:=by
   have h1:s.data.toList[0]'hl0=s[0]'hz0:=rfl
   rw [← h1];simp only [hl];rfl
  by_cases h45:x=45
  ·have hr:jL s.data.toList=(vY (s.extract 1 s.size).data.toList).map fun p=>(true,p.1,p.2):=by
    rw [extract_to_end]
    unfold jL Lib.trimPrefix
    have:Lib.hasPrefix s.data.toList [45]=true:=by rw [hl,h45];simp [Lib.hasPrefix,List.isPrefixOf]
    rw [this];rfl
   rw [hr]
   exact ygG s w hmax hz0 (by rw [hx,h45];rfl) _ rfl (by
    have:(s.extract 1 s.size).size=s.size-1:=by
     simp
    omega) _ rfl
  ·have hp:Lib.hasPrefix s.data.toList [45]=false:=by
    rw [hl]
    have:((45:UInt8)==x)=false:=by rw [beq_eq_false_iff_ne];exact fun h=>h45 h.symm
    simp [Lib.hasPrefix,List.isPrefixOf,this]
   have hr:jL s.data.toList=(vY s.data.toList).map fun p=>(false,p.1,p.2):=by
    unfold jL Lib.trimPrefix
    rw [hp];rfl
   rw [hr]
   exact ygF s w hmax hz0 (by
    rw [hx]
    have:x.toNat≠45:=fun h=>h45 (UInt8.toNat_inj.1 h)
    simp;omega) _ rfl
end Go.Proofs.YtfjnipkpfbkegaaGreatDoor
