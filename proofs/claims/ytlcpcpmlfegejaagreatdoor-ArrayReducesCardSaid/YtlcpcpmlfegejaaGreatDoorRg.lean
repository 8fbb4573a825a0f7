/- The document's plain: the walks. -/
import Derived.Test.YtlcpcpmlfegejaaGreatDoorRf
set_option maxHeartbeats 3200000
set_option maxRecDepth 100000
namespace Go.Proofs.YtlcpcpmlfegejaaGreatDoor
open Go.RowKit Big
open Go.Lib
theorem Resa.fin {B:Nat} {w0 W:World} {q:Rat} {sb:Bool} {p p2:Option Addr} {n c n2 c2:Nat} (h:Resa B w0 W) (hB:w0.heap.size≤B) (hs:sb=decide (q.num<0))
  (h1:Nat9 W (.slice p n c) q.num.natAbs) (h2:Nat9 W (.slice p2 n2 c2) q.den∨(Nat9 W (.slice p2 n2 c2) 0∧q.den=1)) :
  QPost q w0 (.returned (.agg #[.bool sb,.slice p n c,.slice p2 n2 c2])) (((W.setCell ⟨B,0,none⟩ (.bool sb)).setCell ⟨B,1,none⟩ (.slice p n c)).setCell ⟨B,2,none⟩ (.slice p2 n2 c2)) :=
 ⟨_,rfl,⟨_,_,by rw [hs],h.nat3 hB h1 sb p p2 n c n2 c2,h2.imp (fun h2=>h.nat3 hB h2 sb p p2 n c n2 c2) fun h2=>⟨h.nat3 hB h2.1 sb p p2 n c n2 c2,h2.2⟩⟩,(h.put3 hB sb p p2 n c n2 c2).below⟩
def FlagPost (q:Rat) (f:Bool) (w:World) (e:Ending) (w':World):Prop:=∃ b p n c p2 n2 c2,e=.returned (.tuple #[.agg #[.bool b,.slice p n c,.slice p2 n2 c2],.bool f])∧Below w.heap.size w w'∧(f=true→QAt w' (.agg #[.bool b,.slice p n c,.slice p2 n2 c2]) q)
def iterAt (W:World) (g:Nat) (s:ByteArray) (pos:Nat):World:={ W with heap:=W.heap.setIfInBounds g (.stringIter s pos) }
theorem next_at (W:World) (g:Nat) (s:ByteArray) (pos:Nat) (ty:TypeId) (hg:W.heap[g]?=some (.stringIter s pos)) (h:pos<s.size) (ha:(s[pos]'h).toNat<128) :
  (Instr.next (.pointer (some ⟨g,0,none⟩)) true ty).run Tryz.prog W=.ok (.tuple #[.bool true,.int .i64 pos,.int .i32 (s[pos]'h).toNat]) (iterAt W g s (pos+1)):=by
 simp only [Instr.next,getObj,setObj,Sem.run_bind,Sem.run,hg,Result.andThen,h,if_true,decode_ascii s pos h ha]
 simp [goInt,iterAt]
theorem next_at_end (W:World) (g:Nat) (s:ByteArray) (pos:Nat) (ty:TypeId) (hg:W.heap[g]?=some (.stringIter s pos)) (h:¬ pos<s.size) :
  (Instr.next (.pointer (some ⟨g,0,none⟩)) true ty).run Tryz.prog W=.ok (.tuple #[.bool false]) W:=by
 simp [Instr.next,getObj,Sem.run,hg,h]
theorem iterAt_below (W:World) (g:Nat) (s:ByteArray) (pos:Nat) {B:Nat} (hB:B≤g):Below B W (iterAt W g s pos) :=
 ⟨rfl,rfl,rfl,by simp [iterAt],fun k hk=>by simp only [iterAt];rw [Array.getElem?_setIfInBounds_ne (by omega)]⟩
theorem iterAt_new (W:World) (g:Nat) (s:ByteArray) (pos:Nat) (h:g<W.heap.size):(iterAt W g s pos).heap[g]?=some (.stringIter s pos):=by
 simp [iterAt,h]
structure DotAt (w wr:World) (g:Nat) (mo:ByteArray) (pos:Nat) (dv:Value):Prop where
 nat:Nat9 wr dv (10^pos)
 it:wr.heap[g]?=some (.stringIter mo pos)
 res:Resa w.heap.size w wr
 gt:w.heap.size<g
 le:pos≤mo.size
theorem Nat9.iter {W:World} {v:Value} {x g pos:Nat} {mo:ByteArray} (h:Nat9 W v x) (hg:W.heap[g]?=some (.stringIter mo pos)) (p2:Nat):Nat9 (iterAt W g mo p2) v x:=by
 obtain ⟨p,n,c,l,rfl,h2,h3,h4⟩:=h
 refine ⟨p,n,c,l,rfl,h2,⟨h3.len,?_⟩,h4⟩
 by_cases hn:n=0
 ·exact .inl hn
 ·obtain ⟨b,o,hp,hb,hc⟩:=h3.opened (by omega)
  refine .inr ⟨b,o,hp,by simpa [iterAt] using hb,fun j hj=>?_⟩
  have hne:b≠g:=by
   rintro rfl
   have:=hc 0 (by omega)
   simp [World.cell?,hg] at this
  rw [← hc j hj]
  refine World.cell?_of_block (w:=W) ?_
  simp only [iterAt];rw [Array.getElem?_setIfInBounds_ne (by omega)]
theorem DotAt.step {w wr w5:World} {g pos:Nat} {mo:ByteArray} {dv d2:Value} (h:DotAt w wr g mo pos dv) (hlt:pos<mo.size) (hb:Below (iterAt wr g mo (pos+1)).heap.size (iterAt wr g mo (pos+1)) w5) (h2:Nat9 w5 d2 (10^(pos+1))):DotAt w w5 g mo (pos+1) d2:=by
 have hg:=(Array.getElem?_eq_some_iff.1 h.it).1
 have hs:(iterAt wr g mo (pos+1)).heap.size=wr.heap.size:=by simp [iterAt]
 have hr:Resa w.heap.size w (iterAt wr g mo (pos+1)):=by
  refine ⟨by rw [hs];exact h.res.size,h.res.below.trans (iterAt_below _ _ _ _ (Nat.le_of_lt h.gt)),?_⟩
  obtain ⟨z0,z1,z2,hz,hn⟩:=h.res.z
  refine ⟨z0,z1,z2,?_,hn⟩
  rw [← hz];simp only [iterAt];rw [Array.getElem?_setIfInBounds_ne (by have:=h.gt;omega)]
 refine ⟨h2,?_,hr.next hb,h.gt,hlt⟩
 rw [hb.block g (by rw [hs];exact hg)]
 exact iterAt_new _ _ _ _ hg
theorem pow10_lt (p:Nat):10^p<B9^(p+1):=by
 rw [B9_pow];exact Nat.pow_lt_pow_right (by omega) (by omega)
theorem plain_n0_A (s:ByteArray) (k:Nat) (q:Rat) (_sb:Bool) (_N0 _D0:Nat) (w:World) (_hmax:(s.size:Int)≤100000) (hz:s.size=0) (hrun:∀ W,Hid (Calls Tryz.prog 180 #[.string s,.int .i64 0] W fun e w'=>e=.returned (.int .i64 (k:Int))∧W=w')) (hk:k=0):Calls Tryz.prog 147 #[.string s] w (FlagPost q false w):=by
 subst hk
 have hres:=hiD (Resa.start w)
 have hz0:((s.size:Int))=0:=by omega
 go_enter Tryz.func147,Tryz.ntmps147
 go_wp2_with fail
 refine (hrun _).out.mono ?_
 rintro e w1 ⟨rfl,rfl⟩
 go_wp2_with fail
 refine bodyPost_ret (v:=.tuple #[.agg #[.bool false,.slice none 0 0,.slice none 0 0],.bool false]) ?h1 rfl ?h2
 case h1=>simp [results,Tryz.results147,go_sem]
 exact ⟨_,_,_,_,_,_,_,rfl,hres.out.below,fun h=>by cases h⟩
theorem plain_n1_A (s:ByteArray) (k:Nat) (q:Rat) (_sb:Bool) (_N0 _D0:Nat) (w:World) (_hmax:(s.size:Int)≤100000) (hz:0<s.size) (hm:(((s[0]'hz).toNat:Int)==45)=false) (hrun:∀ W,Hid (Calls Tryz.prog 180 #[.string s,.int .i64 0] W fun e w'=>e=.returned (.int .i64 (k:Int))∧W=w')) (hk:k=0):Calls Tryz.prog 147 #[.string s] w (FlagPost q false w):=by
 subst hk
 have hres:=hiD (Resa.start w)
 go_enter Tryz.func147,Tryz.ntmps147
 go_wp2_with fail
 refine (hrun _).out.mono ?_
 rintro e w1 ⟨rfl,rfl⟩
 go_wp2_with fail
 refine bodyPost_ret (v:=.tuple #[.agg #[.bool false,.slice none 0 0,.slice none 0 0],.bool false]) ?h1 rfl ?h2
 case h1=>simp [results,Tryz.results147,go_sem]
 exact ⟨_,_,_,_,_,_,_,rfl,hres.out.below,fun h=>by cases h⟩
theorem plain_n1_B (s:ByteArray) (k:Nat) (q:Rat) (sb:Bool) (N0 D0:Nat) (w:World) (_hmax:(s.size:Int)≤100000) (hz:0<s.size) (hm:(((s[0]'hz).toNat:Int)==45)=false) (hrun:∀ W,Hid (Calls Tryz.prog 180 #[.string s,.int .i64 0] W fun e w'=>e=.returned (.int .i64 (k:Int))∧W=w')) (hk0:((k:Int)==0)=false) (hks:((k:Int)==s.size)=true) (hrd:∀ W,Hid (Calls Tryz.prog 181 #[.string s] W (Post9 N0 W))) (hone:∀ W,Hid (Calls Tryz.prog 118 #[] W (Post9 D0 W))) (hqs:Hid (sb=decide (q.num<0))) (hmk:∀ W u v,Nat9 W u N0→Nat9 W v D0→Hid (Calls Tryz.prog 114 #[.bool false,u,v] W (QPostB q sb W))):Calls Tryz.prog 147 #[.string s] w (FlagPost q true w):=by
 have hres:=hiD (Resa.start w)
 go_enter Tryz.func147,Tryz.ntmps147
 go_wp2_with fail
 refine (hrun _).out.mono ?_
 rintro e w1 ⟨rfl,rfl⟩
 go_wp2_with fail
 refine (hrd _).out.mono ?_
 rintro e w2 ⟨v2,rfl,hv2,hb2,-⟩
 obtain ⟨p2,n2,c2,rfl⟩:=hv2.slice
 have hr2:=hiD (hres.out.next hb2)
 have Hv2:=hiD hv2
 clear hv2 hb2
 go_wp2_with fail
 refine (hone _).out.mono ?_
 rintro e w3 ⟨v3,rfl,hv3,hb3,-⟩
 obtain ⟨p3,n3,c3,rfl⟩:=hv3.slice
 have HR:=hiD (hr2.out.next hb3)
 have hm3:=hmk w3 _ _ (Hv2.out.below hb3) hv3
 clear hv3 hb3 hr2
 go_wp2_with fail
 refine hm3.out.mono ?_
 rintro e wM ⟨pr,nr,cr,pq,nq,cq,rfl,hr1,hr2,hbM⟩
 have hrz:=hiD (HR.out.next hbM)
 have Hr1:=hiD hr1
 have Hr2:=hiD hr2
 obtain ⟨z0,z1,z2,l0,l1,l2,f0,f1,f2⟩:=hrz.out.slots
 clear hr1 hr2 hbM
 go_wp2_with fail
 have hfin:=hiD (hrz.out.fin (Nat.le_refl _) hqs.out Hr1.out Hr2.out)
 refine bodyPost_ret (v:=.tuple #[.agg #[.bool sb,.slice pr nr cr,.slice pq nq cq],.bool true]) ?h1 rfl ?h2
 case h1=>simp [results,Tryz.results147,go_sem,l0,l1,l2]<;>omega
 obtain ⟨x,hx,hq,hb⟩:=hfin.out
 cases hx
 exact ⟨_,_,_,_,_,_,_,rfl,hb,fun _=>hq⟩
theorem plain_n1_C1 (s:ByteArray) (k:Nat) (q:Rat) (_sb:Bool) (_N0 _D0:Nat) (w:World) (hmax:(s.size:Int)≤100000) (hz:0<s.size) (hm:(((s[0]'hz).toNat:Int)==45)=false) (hrun:∀ W,Hid (Calls Tryz.prog 180 #[.string s,.int .i64 0] W fun e w'=>e=.returned (.int .i64 (k:Int))∧W=w')) (hk0:((k:Int)==0)=false) (hks:((k:Int)==s.size)=false) (hkl:k<s.size) (ck:Nat) (hck:((s[k]'hkl).toNat:Int)=(ck:Int)) (mo hd:ByteArray) (hmo:s.extract (k+1) s.size=mo) (_hhd:s.extract 0 k=hd) (cm:Nat) (hrun2:∀ W,Hid (Calls Tryz.prog 180 #[.string mo,.int .i64 0] W fun e w'=>e=.returned (.int .i64 (cm:Int))∧W=w')) (hb:((cm:Int) != mo.size)=true):Calls Tryz.prog 147 #[.string s] w (FlagPost q false w):=by
 have hres:=hiD (Resa.start w)
 go_enter Tryz.func147,Tryz.ntmps147
 go_wp2_with fail
 refine (hrun _).out.mono ?_
 rintro e w1 ⟨rfl,rfl⟩
 have hkl2:(k:Int)<s.size:=by omega
 go_wp2_with fail
 go_quiet (fail)
 have hrq:=hiD (hres.out.next (below_drewN _ _ nq))
 go_wp2_with fail
 refine (hrun2 _).out.mono ?_
 rintro e w1 ⟨rfl,rfl⟩
 obtain ⟨z0,z1,z2,l0,l1,l2,f0,f1,f2⟩:=hrq.out.slots
 have q3:=hiD (hrq.out.put3 (Nat.le_refl _) false none none 0 0 0 0).below
 go_wp2_with fail
 refine bodyPost_ret (v:=.tuple #[.agg #[.bool false,.slice none 0 0,.slice none 0 0],.bool false]) ?h1 rfl ?h2
 case h1=>simp [results,Tryz.results147,go_sem,l0,l1,l2]<;>omega
 exact ⟨_,_,_,_,_,_,_,rfl,q3.out,fun h=>by cases h⟩
theorem plain_n1_C1b (s:ByteArray) (k:Nat) (q:Rat) (_sb:Bool) (_N0 _D0:Nat) (w:World) (hmax:(s.size:Int)≤100000) (hz:0<s.size) (hm:(((s[0]'hz).toNat:Int)==45)=false) (hrun:∀ W,Hid (Calls Tryz.prog 180 #[.string s,.int .i64 0] W fun e w'=>e=.returned (.int .i64 (k:Int))∧W=w')) (hk0:((k:Int)==0)=false) (hks:((k:Int)==s.size)=false) (hkl:k<s.size) (ck:Nat) (hck:((s[k]'hkl).toNat:Int)=(ck:Int)) (mo hd:ByteArray) (hmo:s.extract (k+1) s.size=mo) (_hhd:s.extract 0 k=hd) (cm:Nat) (hrun2:∀ W,Hid (Calls Tryz.prog 180 #[.string mo,.int .i64 0] W fun e w'=>e=.returned (.int .i64 (cm:Int))∧W=w')) (hb:((cm:Int) != 0)=false) (he:mo=⟨#[]⟩):Calls Tryz.prog 147 #[.string s] w (FlagPost q false w):=by
 subst he
 have hres:=hiD (Resa.start w)
 go_enter Tryz.func147,Tryz.ntmps147
 go_wp2_with fail
 refine (hrun _).out.mono ?_
 rintro e w1 ⟨rfl,rfl⟩
 have hkl2:(k:Int)<s.size:=by omega
 go_wp2_with fail
 go_quiet (fail)
 have hrq:=hiD (hres.out.next (below_drewN _ _ nq))
 go_wp2_with fail
 refine (hrun2 _).out.mono ?_
 rintro e w1 ⟨rfl,rfl⟩
 obtain ⟨z0,z1,z2,l0,l1,l2,f0,f1,f2⟩:=hrq.out.slots
 have q3:=hiD (hrq.out.put3 (Nat.le_refl _) false none none 0 0 0 0).below
 go_wp2_with fail
 refine bodyPost_ret (v:=.tuple #[.agg #[.bool false,.slice none 0 0,.slice none 0 0],.bool false]) ?h1 rfl ?h2
 case h1=>simp [results,Tryz.results147,go_sem,l0,l1,l2]<;>omega
 exact ⟨_,_,_,_,_,_,_,rfl,q3.out,fun h=>by cases h⟩
theorem plain_n1_C1c (s:ByteArray) (k:Nat) (q:Rat) (_sb:Bool) (_N0 _D0:Nat) (w:World) (hmax:(s.size:Int)≤100000) (hz:0<s.size) (hm:(((s[0]'hz).toNat:Int)==45)=false) (hrun:∀ W,Hid (Calls Tryz.prog 180 #[.string s,.int .i64 0] W fun e w'=>e=.returned (.int .i64 (k:Int))∧W=w')) (hk0:((k:Int)==0)=false) (hks:((k:Int)==s.size)=false) (hkl:k<s.size) (ck:Nat) (hck:((s[k]'hkl).toNat:Int)=(ck:Int)) (mo hd:ByteArray) (hmo:s.extract (k+1) s.size=mo) (_hhd:s.extract 0 k=hd) (cm:Nat) (hrun2:∀ W,Hid (Calls Tryz.prog 180 #[.string mo,.int .i64 0] W fun e w'=>e=.returned (.int .i64 (cm:Int))∧W=w')) (hb:((cm:Int) != mo.size)=false) (he:(mo.toList==[])=false) (_he2:¬ mo.toList=[]) (_he3:mo.toList.isEmpty=false) (h46:((ck:Int) != 46)=true) (h47:((ck:Int) != 47)=true):Calls Tryz.prog 147 #[.string s] w (FlagPost q false w):=by
 have hres:=hiD (Resa.start w)
 go_enter Tryz.func147,Tryz.ntmps147
 go_wp2_with fail
 refine (hrun _).out.mono ?_
 rintro e w1 ⟨rfl,rfl⟩
 have hkl2:(k:Int)<s.size:=by omega
 go_wp2_with fail
 go_quiet (fail)
 have hrq:=hiD (hres.out.next (below_drewN _ _ nq))
 go_wp2_with fail
 refine (hrun2 _).out.mono ?_
 rintro e w1 ⟨rfl,rfl⟩
 obtain ⟨z0,z1,z2,l0,l1,l2,f0,f1,f2⟩:=hrq.out.slots
 have q3:=hiD (hrq.out.put3 (Nat.le_refl _) false none none 0 0 0 0).below
 go_wp2_with fail
 refine bodyPost_ret (v:=.tuple #[.agg #[.bool false,.slice none 0 0,.slice none 0 0],.bool false]) ?h1 rfl ?h2
 case h1=>simp [results,Tryz.results147,go_sem,l0,l1,l2]<;>omega
 exact ⟨_,_,_,_,_,_,_,rfl,q3.out,fun h=>by cases h⟩
theorem plain_n1_C2y (s:ByteArray) (k:Nat) (q:Rat) (sb:Bool) (N0 D0:Nat) (w:World) (hmax:(s.size:Int)≤100000) (hz:0<s.size) (hm:(((s[0]'hz).toNat:Int)==45)=false) (hrun:∀ W,Hid (Calls Tryz.prog 180 #[.string s,.int .i64 0] W fun e w'=>e=.returned (.int .i64 (k:Int))∧W=w')) (hk0:((k:Int)==0)=false) (hks:((k:Int)==s.size)=false) (hkl:k<s.size) (ck:Nat) (hck:((s[k]'hkl).toNat:Int)=(ck:Int)) (mo hd:ByteArray) (hmo:s.extract (k+1) s.size=mo) (hhd:s.extract 0 k=hd) (cm:Nat) (hrun2:∀ W,Hid (Calls Tryz.prog 180 #[.string mo,.int .i64 0] W fun e w'=>e=.returned (.int .i64 (cm:Int))∧W=w')) (hb:((cm:Int) != mo.size)=false) (he:(mo.toList==[])=false) (_he2:¬ mo.toList=[]) (_he3:mo.toList.isEmpty=false) (h47:ck=47) (hD0:D0≠0) (hrd1:∀ W,Hid (Calls Tryz.prog 181 #[.string mo] W (Post9 D0 W))) (hrd2:∀ W,Hid (Calls Tryz.prog 181 #[.string hd] W (Post9 N0 W))) (hqs:Hid (sb=decide (q.num<0))) (hmk:∀ W u v,Nat9 W u N0→Nat9 W v D0→Hid (Calls Tryz.prog 114 #[.bool false,u,v] W (QPostB q sb W))):Calls Tryz.prog 147 #[.string s] w (FlagPost q true w):=by
 subst h47
 have hres:=hiD (Resa.start w)
 go_enter Tryz.func147,Tryz.ntmps147
 go_wp2_with fail
 refine (hrun _).out.mono ?_
 rintro e w1 ⟨rfl,rfl⟩
 have hkl2:(k:Int)<s.size:=by omega
 go_wp2_with fail
 go_quiet (fail)
 have hrq:=hiD (hres.out.next (below_drewN _ _ nq))
 go_wp2_with fail
 refine (hrun2 _).out.mono ?_
 rintro e w1 ⟨rfl,rfl⟩
 go_wp2_with fail
 refine (hrd1 _).out.mono ?_
 rintro e w2 ⟨v2,rfl,hv2,hb2,-⟩
 obtain ⟨p2,n2,c2,rfl⟩:=hv2.slice
 have hr2:=hiD (hrq.out.next hb2)
 have Hv2:=hiD hv2
 have hn3:0<n2:=by have h:=hv2.zero_iff (n:=n2);omega
 have hn2:(0:Int)<n2:=by omega
 clear hv2 hb2
 go_wp2_with fail
 refine (hrd2 _).out.mono ?_
 rintro e w3 ⟨v3,rfl,hv3,hb3,-⟩
 obtain ⟨p3,n3,c3,rfl⟩:=hv3.slice
 have HR:=hiD (hr2.out.next hb3)
 have hm3:=hmk w3 _ _ hv3 (Hv2.out.below hb3)
 clear hv3 hb3 hr2
 go_wp2_with fail
 refine hm3.out.mono ?_
 rintro e wM ⟨pr,nr,cr,pq,nq,cq,rfl,hr1,hr2,hbM⟩
 have hrz:=hiD (HR.out.next hbM)
 have Hr1:=hiD hr1
 have Hr2:=hiD hr2
 obtain ⟨z0,z1,z2,l0,l1,l2,f0,f1,f2⟩:=hrz.out.slots
 clear hr1 hr2 hbM
 go_wp2_with fail
 have hfin:=hiD (hrz.out.fin (Nat.le_refl _) hqs.out Hr1.out Hr2.out)
 refine bodyPost_ret (v:=.tuple #[.agg #[.bool sb,.slice pr nr cr,.slice pq nq cq],.bool true]) ?h1 rfl ?h2
 case h1=>simp [results,Tryz.results147,go_sem,l0,l1,l2]<;>omega
 obtain ⟨x,hx,hq,hb⟩:=hfin.out
 cases hx
 exact ⟨_,_,_,_,_,_,_,rfl,hb,fun _=>hq⟩
theorem plain_n1_C2n (s:ByteArray) (k:Nat) (q:Rat) (sb:Bool) (N0 D0:Nat) (w:World) (hmax:(s.size:Int)≤100000) (hz:0<s.size) (hm:(((s[0]'hz).toNat:Int)==45)=false) (hrun:∀ W,Hid (Calls Tryz.prog 180 #[.string s,.int .i64 0] W fun e w'=>e=.returned (.int .i64 (k:Int))∧W=w')) (hk0:((k:Int)==0)=false) (hks:((k:Int)==s.size)=false) (hkl:k<s.size) (ck:Nat) (hck:((s[k]'hkl).toNat:Int)=(ck:Int)) (mo hd:ByteArray) (hmo:s.extract (k+1) s.size=mo) (hhd:s.extract 0 k=hd) (cm:Nat) (hrun2:∀ W,Hid (Calls Tryz.prog 180 #[.string mo,.int .i64 0] W fun e w'=>e=.returned (.int .i64 (cm:Int))∧W=w')) (hb:((cm:Int) != mo.size)=false) (he:(mo.toList==[])=false) (_he2:¬ mo.toList=[]) (_he3:mo.toList.isEmpty=false) (h47:ck=47) (hD0:D0=0) (hrd1:∀ W,Hid (Calls Tryz.prog 181 #[.string mo] W (Post9 D0 W))) (hrd2:∀ W,Hid (Calls Tryz.prog 181 #[.string hd] W (Post9 N0 W))) (hqs:Hid (sb=decide (q.num<0))) (hmk:∀ W u v,Nat9 W u N0→Nat9 W v D0→Hid (Calls Tryz.prog 114 #[.bool false,u,v] W (QPostB q sb W))):Calls Tryz.prog 147 #[.string s] w (FlagPost q false w):=by
 subst h47
 have hres:=hiD (Resa.start w)
 go_enter Tryz.func147,Tryz.ntmps147
 go_wp2_with fail
 refine (hrun _).out.mono ?_
 rintro e w1 ⟨rfl,rfl⟩
 have hkl2:(k:Int)<s.size:=by omega
 go_wp2_with fail
 go_quiet (fail)
 have hrq:=hiD (hres.out.next (below_drewN _ _ nq))
 go_wp2_with fail
 refine (hrun2 _).out.mono ?_
 rintro e w1 ⟨rfl,rfl⟩
 go_wp2_with fail
 refine (hrd1 _).out.mono ?_
 rintro e w2 ⟨v2,rfl,hv2,hb2,-⟩
 obtain ⟨p2,n2,c2,rfl⟩:=hv2.slice
 have hr2:=hiD (hrq.out.next hb2)
 have Hv2:=hiD hv2
 have hn3:n2=0:=by have h:=hv2.zero_iff (n:=n2);omega
 subst hn3
 clear hv2 hb2
 go_wp2_with fail
 refine (hrd2 _).out.mono ?_
 rintro e w3 ⟨v3,rfl,hv3,hb3,-⟩
 obtain ⟨p3,n3,c3,rfl⟩:=hv3.slice
 have HR:=hiD (hr2.out.next hb3)
 have hm3:=hmk w3 _ _ hv3 (Hv2.out.below hb3)
 clear hv3 hb3 hr2
 go_wp2_with fail
 refine hm3.out.mono ?_
 rintro e wM ⟨pr,nr,cr,pq,nq,cq,rfl,hr1,hr2,hbM⟩
 have hrz:=hiD (HR.out.next hbM)
 have Hr1:=hiD hr1
 have Hr2:=hiD hr2
 obtain ⟨z0,z1,z2,l0,l1,l2,f0,f1,f2⟩:=hrz.out.slots
 clear hr1 hr2 hbM
 go_wp2_with fail
 have hfin:=hiD (hrz.out.fin (Nat.le_refl _) hqs.out Hr1.out Hr2.out)
 refine bodyPost_ret (v:=.tuple #[.agg #[.bool sb,.slice pr nr cr,.slice pq nq cq],.bool false]) ?h1 rfl ?h2
 case h1=>simp [results,Tryz.results147,go_sem,l0,l1,l2]<;>omega
 obtain ⟨x,hx,hq,hb⟩:=hfin.out
 cases hx
 exact ⟨_,_,_,_,_,_,_,rfl,hb,fun _=>hq⟩
theorem plain_n1_C3 (s:ByteArray) (k:Nat) (q:Rat) (sb:Bool) (N0 D0:Nat) (w:World) (hmax:(s.size:Int)≤100000) (hz:0<s.size) (hm:(((s[0]'hz).toNat:Int)==45)=false) (hrun:∀ W,Hid (Calls Tryz.prog 180 #[.string s,.int .i64 0] W fun e w'=>e=.returned (.int .i64 (k:Int))∧W=w')) (hk0:((k:Int)==0)=false) (hks:((k:Int)==s.size)=false) (hkl:k<s.size) (ck:Nat) (hck:((s[k]'hkl).toNat:Int)=(ck:Int)) (mo hd:ByteArray) (hmo:s.extract (k+1) s.size=mo) (hhd:s.extract 0 k=hd) (cm:Nat) (hrun2:∀ W,Hid (Calls Tryz.prog 180 #[.string mo,.int .i64 0] W fun e w'=>e=.returned (.int .i64 (cm:Int))∧W=w')) (hb:((cm:Int) != mo.size)=false) (he:(mo.toList==[])=false) (_he2:¬ mo.toList=[]) (_he3:mo.toList.isEmpty=false) (h46:ck=46) (hall:Hid (mo.data.toList.all isDig=true)) (hsz:(mo.size:Int)≤100000) (hszh:(hd.size:Int)≤100000) (hD0:Hid (D0=10^mo.size)) (hrd2:∀ W,Hid (Calls Tryz.prog 181 #[.string (hd++mo)] W (Post9 N0 W))) (hqs:Hid (sb=decide (q.num<0))) (hmk:∀ W u v,Nat9 W u N0→Nat9 W v D0→Hid (Calls Tryz.prog 114 #[.bool false,u,v] W (QPostB q sb W))):Calls Tryz.prog 147 #[.string s] w (FlagPost q true w):=by
 subst h46
 have hone:∀ W,Hid (Calls Tryz.prog 118 #[] W (Post9 1 W)):=fun W=>hiD (one_any W)
 have hten:∀ W,Hid (Calls Tryz.prog 117 #[.int .u64 10] W (Post9 10 W)):=fun W=>hiD (natOf_any 10 W (by omega))
 have hres:=hiD (Resa.start w)
 go_enter Tryz.func147,Tryz.ntmps147
 go_wp2_with fail
 refine (hrun _).out.mono ?_
 rintro e w1 ⟨rfl,rfl⟩
 have hkl2:(k:Int)<s.size:=by omega
 go_wp2_with fail
 go_quiet (fail)
 have hrq:=hiD (hres.out.next (below_drewN _ _ nq))
 go_wp2_with fail
 refine (hrun2 _).out.mono ?_
 rintro e w1 ⟨rfl,rfl⟩
 go_wp2_with fail
 refine (hone _).out.mono ?_
 rintro e w2 ⟨v2,rfl,hv2,hb2,-⟩
 obtain ⟨p2,n2,c2,rfl⟩:=hv2.slice
 have hr2:=hrq.out.next hb2
 have hst:Hid (DotAt w (w2.iter mo 0) w2.heap.size mo 0 (.slice p2 n2 c2)):=hiD ⟨by rw [Nat.pow_zero];exact hv2.below (below_alloc9 _ _),World.iter_heap _ _ _,hr2.next (below_alloc9 _ _),by have:=hr2.size;omega,Nat.zero_le _⟩
 clear hv2 hb2 hr2
 go_wp2_with fail
 go_loopw [9] (fun dv w3=>∃ (pos:Nat) (pd:Option Addr) (nd cd:Nat),dv=.slice pd nd cd∧Hid (DotAt w w3 w2.heap.size mo pos dv)) (fun _ w3=>mo.size-w3.iterPos w2.heap.size)
 case atStart=>exact ⟨0,_,_,_,rfl,hst⟩
 case round =>
  obtain ⟨pos,pd,nd,cd,rfl,hat⟩:=hrel
  by_cases hp:pos<mo.size
  ·have hasc:(mo[pos]'hp).toNat<128:=by
    have h1:isDig (mo[pos]'hp)=true:=List.all_eq_true.1 hall.out _ (List.getElem_mem (by simpa using hp):mo.data.toList[pos]'(by simpa using hp) ∈ _)
    simp [isDig] at h1;omega
   have hnx:∀ ty,(Instr.next (.pointer (some ⟨w2.heap.size,0,none⟩)) true ty).run Tryz.prog wr=_:=fun ty=>next_at wr w2.heap.size mo pos ty hat.out.it hp hasc
   have hd1:=hiD (hat.out.nat.iter hat.out.it (pos+1))
   have hps:Hid (pos≤100000):=hiD (by omega)
   clear hasc
   go_wp2_with fail
   refine (hten _).out.mono ?_
   rintro e w5 ⟨v5,rfl,hv5,hb5,-⟩
   obtain ⟨p5,n5,c5,rfl⟩:=hv5.slice
   have hm5:Hid (Calls Tryz.prog 115 #[.slice pd nd cd,.slice p5 n5 c5] w5 (Post9 (10^pos*10) w5)):=hiD (natMul_nat _ _ _ _ (pos+1) 1 w5 (by have:=hps.out;unfold most;omega) (by unfold most;omega) (pow10_lt pos) (by rw [Nat.pow_one,B9_eq];omega) (hd1.out.below hb5) hv5)
   have Hb5:=hiD hb5
   clear hv5 hb5
   go_wp2_with fail
   refine hm5.out.mono ?_
   rintro e w6 ⟨v6,rfl,hv6,hb6,-⟩
   obtain ⟨p6,n6,c6,rfl⟩:=hv6.slice
   have hnext:Hid (DotAt w w6 w2.heap.size mo (pos+1) (.slice p6 n6 c6)):=hiD (hat.out.step hp (Hb5.out.trans (hb6.mono Hb5.out.size)) (by rw [Nat.pow_succ];exact hv6))
   have hmeas:Hid (mo.size-w6.iterPos w2.heap.size<mo.size-wr.iterPos w2.heap.size):=hiD (by
    have h1:=hnext.out.it
    have h2:=hat.out.it
    simp only [World.iterPos,h1,h2];omega)
   clear hv6 hb6
   go_wp2_with fail
   go_roundw
   case rel=>exact ⟨pos+1,_,_,_,rfl,hnext⟩
   case measure=>exact hmeas.out
  ·have hpe:pos=mo.size:=by have:=hat.out.le;omega
   have hnx:∀ ty,(Instr.next (.pointer (some ⟨w2.heap.size,0,none⟩)) true ty).run Tryz.prog wr=_:=fun ty=>next_at_end wr w2.heap.size mo pos ty hat.out.it hp
   have hdn:Hid (Nat9 wr (.slice pd nd cd) D0):=hiD (by rw [hD0.out,← hpe];exact hat.out.nat)
   clear hpe
   go_wp2_with fail
   refine (hrd2 _).out.mono ?_
   rintro e w7 ⟨v7,rfl,hv7,hb7,-⟩
   obtain ⟨p7,n7,c7,rfl⟩:=hv7.slice
   have HR:=hiD (hat.out.res.next hb7)
   have hm3:=hmk w7 _ _ hv7 (hdn.out.below hb7)
   clear hv7 hb7
   go_wp2_with fail
   refine hm3.out.mono ?_
   rintro e wM ⟨pr,nr,cr,pq,nq,cq,rfl,hr1,hr2,hbM⟩
   have hrz:=hiD (HR.out.next hbM)
   have Hr1:=hiD hr1
   have Hr2:=hiD hr2
   obtain ⟨z0,z1,z2,l0,l1,l2,f0,f1,f2⟩:=hrz.out.slots
   clear hr1 hr2 hbM
   go_wp2_with fail
   have hfin:=hiD (hrz.out.fin (Nat.le_refl _) hqs.out Hr1.out Hr2.out)
   refine bodyPost_ret (v:=.tuple #[.agg #[.bool sb,.slice pr nr cr,.slice pq nq cq],.bool true]) ?h1 rfl ?h2
   case h1=>simp [results,Tryz.results147,go_sem,l0,l1,l2]<;>omega
   obtain ⟨x,hx,hq,hb⟩:=hfin.out
   cases hx
   exact ⟨_,_,_,_,_,_,_,rfl,hb,fun _=>hq⟩
theorem plain_ng_A (s:ByteArray) (k:Nat) (q:Rat) (_sb:Bool) (_N0 _D0:Nat) (w:World) (hmax:(s.size:Int)≤100000) (hz:0<s.size) (hm:(((s[0]'hz).toNat:Int)==45)=true) (s1:ByteArray) (hs1:s.extract 1 s.size=s1) (_hmax1:(s1.size:Int)≤100000) (hrun:∀ W,Hid (Calls Tryz.prog 180 #[.string s1,.int .i64 0] W fun e w'=>e=.returned (.int .i64 (k:Int))∧W=w')) (hk:k=0):Calls Tryz.prog 147 #[.string s] w (FlagPost q false w):=by
 subst hk
 have hres:=hiD (Resa.start w)
 go_enter Tryz.func147,Tryz.ntmps147
 go_wp2_with fail
 refine (hrun _).out.mono ?_
 rintro e w1 ⟨rfl,rfl⟩
 go_wp2_with fail
 refine bodyPost_ret (v:=.tuple #[.agg #[.bool false,.slice none 0 0,.slice none 0 0],.bool false]) ?h1 rfl ?h2
 case h1=>simp [results,Tryz.results147,go_sem]
 exact ⟨_,_,_,_,_,_,_,rfl,hres.out.below,fun h=>by cases h⟩
theorem plain_ng_B (s:ByteArray) (k:Nat) (q:Rat) (sb:Bool) (N0 D0:Nat) (w:World) (hmax:(s.size:Int)≤100000) (hz:0<s.size) (hm:(((s[0]'hz).toNat:Int)==45)=true) (s1:ByteArray) (hs1:s.extract 1 s.size=s1) (_hmax1:(s1.size:Int)≤100000) (hrun:∀ W,Hid (Calls Tryz.prog 180 #[.string s1,.int .i64 0] W fun e w'=>e=.returned (.int .i64 (k:Int))∧W=w')) (hk0:((k:Int)==0)=false) (hks:((k:Int)==s1.size)=true) (hrd:∀ W,Hid (Calls Tryz.prog 181 #[.string s1] W (Post9 N0 W))) (hone:∀ W,Hid (Calls Tryz.prog 118 #[] W (Post9 D0 W))) (hqs:Hid (sb=decide (q.num<0))) (hmk:∀ W u v,Nat9 W u N0→Nat9 W v D0→Hid (Calls Tryz.prog 114 #[.bool true,u,v] W (QPostB q sb W))):Calls Tryz.prog 147 #[.string s] w (FlagPost q true w):=by
 have hres:=hiD (Resa.start w)
 go_enter Tryz.func147,Tryz.ntmps147
 go_wp2_with fail
 refine (hrun _).out.mono ?_
 rintro e w1 ⟨rfl,rfl⟩
 go_wp2_with fail
 refine (hrd _).out.mono ?_
 rintro e w2 ⟨v2,rfl,hv2,hb2,-⟩
 obtain ⟨p2,n2,c2,rfl⟩:=hv2.slice
 have hr2:=hiD (hres.out.next hb2)
 have Hv2:=hiD hv2
 clear hv2 hb2
 go_wp2_with fail
 refine (hone _).out.mono ?_
 rintro e w3 ⟨v3,rfl,hv3,hb3,-⟩
 obtain ⟨p3,n3,c3,rfl⟩:=hv3.slice
 have HR:=hiD (hr2.out.next hb3)
 have hm3:=hmk w3 _ _ (Hv2.out.below hb3) hv3
 clear hv3 hb3 hr2
 go_wp2_with fail
 refine hm3.out.mono ?_
 rintro e wM ⟨pr,nr,cr,pq,nq,cq,rfl,hr1,hr2,hbM⟩
 have hrz:=hiD (HR.out.next hbM)
 have Hr1:=hiD hr1
 have Hr2:=hiD hr2
 obtain ⟨z0,z1,z2,l0,l1,l2,f0,f1,f2⟩:=hrz.out.slots
 clear hr1 hr2 hbM
 go_wp2_with fail
 have hfin:=hiD (hrz.out.fin (Nat.le_refl _) hqs.out Hr1.out Hr2.out)
 refine bodyPost_ret (v:=.tuple #[.agg #[.bool sb,.slice pr nr cr,.slice pq nq cq],.bool true]) ?h1 rfl ?h2
 case h1=>simp [results,Tryz.results147,go_sem,l0,l1,l2]<;>omega
 obtain ⟨x,hx,hq,hb⟩:=hfin.out
 cases hx
 exact ⟨_,_,_,_,_,_,_,rfl,hb,fun _=>hq⟩
theorem plain_ng_C1 (s:ByteArray) (k:Nat) (q:Rat) (_sb:Bool) (_N0 _D0:Nat) (w:World) (hmax:(s.size:Int)≤100000) (hz:0<s.size) (hm:(((s[0]'hz).toNat:Int)==45)=true) (s1:ByteArray) (hs1:s.extract 1 s.size=s1) (hmax1:(s1.size:Int)≤100000) (hrun:∀ W,Hid (Calls Tryz.prog 180 #[.string s1,.int .i64 0] W fun e w'=>e=.returned (.int .i64 (k:Int))∧W=w')) (hk0:((k:Int)==0)=false) (hks:((k:Int)==s1.size)=false) (hkl:k<s1.size) (ck:Nat) (hck:((s1[k]'hkl).toNat:Int)=(ck:Int)) (mo hd:ByteArray) (hmo:s1.extract (k+1) s1.size=mo) (_hhd:s1.extract 0 k=hd) (cm:Nat) (hrun2:∀ W,Hid (Calls Tryz.prog 180 #[.string mo,.int .i64 0] W fun e w'=>e=.returned (.int .i64 (cm:Int))∧W=w')) (hb:((cm:Int) != mo.size)=true):Calls Tryz.prog 147 #[.string s] w (FlagPost q false w):=by
 have hres:=hiD (Resa.start w)
 go_enter Tryz.func147,Tryz.ntmps147
 go_wp2_with fail
 refine (hrun _).out.mono ?_
 rintro e w1 ⟨rfl,rfl⟩
 have hkl2:(k:Int)<s1.size:=by omega
 go_wp2_with fail
 go_quiet (fail)
 have hrq:=hiD (hres.out.next (below_drewN _ _ nq))
 go_wp2_with fail
 refine (hrun2 _).out.mono ?_
 rintro e w1 ⟨rfl,rfl⟩
 obtain ⟨z0,z1,z2,l0,l1,l2,f0,f1,f2⟩:=hrq.out.slots
 have q3:=hiD (hrq.out.put3 (Nat.le_refl _) false none none 0 0 0 0).below
 go_wp2_with fail
 refine bodyPost_ret (v:=.tuple #[.agg #[.bool false,.slice none 0 0,.slice none 0 0],.bool false]) ?h1 rfl ?h2
 case h1=>simp [results,Tryz.results147,go_sem,l0,l1,l2]<;>omega
 exact ⟨_,_,_,_,_,_,_,rfl,q3.out,fun h=>by cases h⟩
theorem plain_ng_C1b (s:ByteArray) (k:Nat) (q:Rat) (_sb:Bool) (_N0 _D0:Nat) (w:World) (hmax:(s.size:Int)≤100000) (hz:0<s.size) (hm:(((s[0]'hz).toNat:Int)==45)=true) (s1:ByteArray) (hs1:s.extract 1 s.size=s1) (hmax1:(s1.size:Int)≤100000) (hrun:∀ W,Hid (Calls Tryz.prog 180 #[.string s1,.int .i64 0] W fun e w'=>e=.returned (.int .i64 (k:Int))∧W=w')) (hk0:((k:Int)==0)=false) (hks:((k:Int)==s1.size)=false) (hkl:k<s1.size) (ck:Nat) (hck:((s1[k]'hkl).toNat:Int)=(ck:Int)) (mo hd:ByteArray) (hmo:s1.extract (k+1) s1.size=mo) (_hhd:s1.extract 0 k=hd) (cm:Nat) (hrun2:∀ W,Hid (Calls Tryz.prog 180 #[.string mo,.int .i64 0] W fun e w'=>e=.returned (.int .i64 (cm:Int))∧W=w')) (hb:((cm:Int) != 0)=false) (he:mo=⟨#[]⟩):Calls Tryz.prog 147 #[.string s] w (FlagPost q false w):=by
 subst he
 have hres:=hiD (Resa.start w)
 go_enter Tryz.func147,Tryz.ntmps147
 go_wp2_with fail
 refine (hrun _).out.mono ?_
 rintro e w1 ⟨rfl,rfl⟩
 have hkl2:(k:Int)<s1.size:=by omega
 go_wp2_with fail
 go_quiet (fail)
 have hrq:=hiD (hres.out.next (below_drewN _ _ nq))
 go_wp2_with fail
 refine (hrun2 _).out.mono ?_
 rintro e w1 ⟨rfl,rfl⟩
 obtain ⟨z0,z1,z2,l0,l1,l2,f0,f1,f2⟩:=hrq.out.slots
 have q3:=hiD (hrq.out.put3 (Nat.le_refl _) false none none 0 0 0 0).below
 go_wp2_with fail
 refine bodyPost_ret (v:=.tuple #[.agg #[.bool false,.slice none 0 0,.slice none 0 0],.bool false]) ?h1 rfl ?h2
 case h1=>simp [results,Tryz.results147,go_sem,l0,l1,l2]<;>omega
 exact ⟨_,_,_,_,_,_,_,rfl,q3.out,fun h=>by cases h⟩
theorem plain_ng_C1c (s:ByteArray) (k:Nat) (q:Rat) (_sb:Bool) (_N0 _D0:Nat) (w:World) (hmax:(s.size:Int)≤100000) (hz:0<s.size) (hm:(((s[0]'hz).toNat:Int)==45)=true) (s1:ByteArray) (hs1:s.extract 1 s.size=s1) (hmax1:(s1.size:Int)≤100000) (hrun:∀ W,Hid (Calls Tryz.prog 180 #[.string s1,.int .i64 0] W fun e w'=>e=.returned (.int .i64 (k:Int))∧W=w')) (hk0:((k:Int)==0)=false) (hks:((k:Int)==s1.size)=false) (hkl:k<s1.size) (ck:Nat) (hck:((s1[k]'hkl).toNat:Int)=(ck:Int)) (mo hd:ByteArray) (hmo:s1.extract (k+1) s1.size=mo) (_hhd:s1.extract 0 k=hd) (cm:Nat) (hrun2:∀ W,Hid (Calls Tryz.prog 180 #[.string mo,.int .i64 0] W fun e w'=>e=.returned (.int .i64 (cm:Int))∧W=w')) (hb:((cm:Int) != mo.size)=false) (he:(mo.toList==[])=false) (_he2:¬ mo.toList=[]) (_he3:mo.toList.isEmpty=false) (h46:((ck:Int) != 46)=true) (h47:((ck:Int) != 47)=true):Calls Tryz.prog 147 #[.string s] w (FlagPost q false w):=by
 have hres:=hiD (Resa.start w)
 go_enter Tryz.func147,Tryz.ntmps147
 go_wp2_with fail
 refine (hrun _).out.mono ?_
 rintro e w1 ⟨rfl,rfl⟩
 have hkl2:(k:Int)<s1.size:=by omega
 go_wp2_with fail
 go_quiet (fail)
 have hrq:=hiD (hres.out.next (below_drewN _ _ nq))
 go_wp2_with fail
 refine (hrun2 _).out.mono ?_
 rintro e w1 ⟨rfl,rfl⟩
 obtain ⟨z0,z1,z2,l0,l1,l2,f0,f1,f2⟩:=hrq.out.slots
 have q3:=hiD (hrq.out.put3 (Nat.le_refl _) false none none 0 0 0 0).below
 go_wp2_with fail
 refine bodyPost_ret (v:=.tuple #[.agg #[.bool false,.slice none 0 0,.slice none 0 0],.bool false]) ?h1 rfl ?h2
 case h1=>simp [results,Tryz.results147,go_sem,l0,l1,l2]<;>omega
 exact ⟨_,_,_,_,_,_,_,rfl,q3.out,fun h=>by cases h⟩
theorem plain_ng_C2y (s:ByteArray) (k:Nat) (q:Rat) (sb:Bool) (N0 D0:Nat) (w:World) (hmax:(s.size:Int)≤100000) (hz:0<s.size) (hm:(((s[0]'hz).toNat:Int)==45)=true) (s1:ByteArray) (hs1:s.extract 1 s.size=s1) (hmax1:(s1.size:Int)≤100000) (hrun:∀ W,Hid (Calls Tryz.prog 180 #[.string s1,.int .i64 0] W fun e w'=>e=.returned (.int .i64 (k:Int))∧W=w')) (hk0:((k:Int)==0)=false) (hks:((k:Int)==s1.size)=false) (hkl:k<s1.size) (ck:Nat) (hck:((s1[k]'hkl).toNat:Int)=(ck:Int)) (mo hd:ByteArray) (hmo:s1.extract (k+1) s1.size=mo) (hhd:s1.extract 0 k=hd) (cm:Nat) (hrun2:∀ W,Hid (Calls Tryz.prog 180 #[.string mo,.int .i64 0] W fun e w'=>e=.returned (.int .i64 (cm:Int))∧W=w')) (hb:((cm:Int) != mo.size)=false) (he:(mo.toList==[])=false) (_he2:¬ mo.toList=[]) (_he3:mo.toList.isEmpty=false) (h47:ck=47) (hD0:D0≠0) (hrd1:∀ W,Hid (Calls Tryz.prog 181 #[.string mo] W (Post9 D0 W))) (hrd2:∀ W,Hid (Calls Tryz.prog 181 #[.string hd] W (Post9 N0 W))) (hqs:Hid (sb=decide (q.num<0))) (hmk:∀ W u v,Nat9 W u N0→Nat9 W v D0→Hid (Calls Tryz.prog 114 #[.bool true,u,v] W (QPostB q sb W))):Calls Tryz.prog 147 #[.string s] w (FlagPost q true w):=by
 subst h47
 have hres:=hiD (Resa.start w)
 go_enter Tryz.func147,Tryz.ntmps147
 go_wp2_with fail
 refine (hrun _).out.mono ?_
 rintro e w1 ⟨rfl,rfl⟩
 have hkl2:(k:Int)<s1.size:=by omega
 go_wp2_with fail
 go_quiet (fail)
 have hrq:=hiD (hres.out.next (below_drewN _ _ nq))
 go_wp2_with fail
 refine (hrun2 _).out.mono ?_
 rintro e w1 ⟨rfl,rfl⟩
 go_wp2_with fail
 refine (hrd1 _).out.mono ?_
 rintro e w2 ⟨v2,rfl,hv2,hb2,-⟩
 obtain ⟨p2,n2,c2,rfl⟩:=hv2.slice
 have hr2:=hiD (hrq.out.next hb2)
 have Hv2:=hiD hv2
 have hn3:0<n2:=by have h:=hv2.zero_iff (n:=n2);omega
 have hn2:(0:Int)<n2:=by omega
 clear hv2 hb2
 go_wp2_with fail
 refine (hrd2 _).out.mono ?_
 rintro e w3 ⟨v3,rfl,hv3,hb3,-⟩
 obtain ⟨p3,n3,c3,rfl⟩:=hv3.slice
 have HR:=hiD (hr2.out.next hb3)
 have hm3:=hmk w3 _ _ hv3 (Hv2.out.below hb3)
 clear hv3 hb3 hr2
 go_wp2_with fail
 refine hm3.out.mono ?_
 rintro e wM ⟨pr,nr,cr,pq,nq,cq,rfl,hr1,hr2,hbM⟩
 have hrz:=hiD (HR.out.next hbM)
 have Hr1:=hiD hr1
 have Hr2:=hiD hr2
 obtain ⟨z0,z1,z2,l0,l1,l2,f0,f1,f2⟩:=hrz.out.slots
 clear hr1 hr2 hbM
 go_wp2_with fail
 have hfin:=hiD (hrz.out.fin (Nat.le_refl _) hqs.out Hr1.out Hr2.out)
 refine bodyPost_ret (v:=.tuple #[.agg #[.bool sb,.slice pr nr cr,.slice pq nq cq],.bool true]) ?h1 rfl ?h2
 case h1=>simp [results,Tryz.results147,go_sem,l0,l1,l2]<;>omega
 obtain ⟨x,hx,hq,hb⟩:=hfin.out
 cases hx
 exact ⟨_,_,_,_,_,_,_,rfl,hb,fun _=>hq⟩
theorem plain_ng_C2n (s:ByteArray) (k:Nat) (q:Rat) (sb:Bool) (N0 D0:Nat) (w:World) (hmax:(s.size:Int)≤100000) (hz:0<s.size) (hm:(((s[0]'hz).toNat:Int)==45)=true) (s1:ByteArray) (hs1:s.extract 1 s.size=s1) (hmax1:(s1.size:Int)≤100000) (hrun:∀ W,Hid (Calls Tryz.prog 180 #[.string s1,.int .i64 0] W fun e w'=>e=.returned (.int .i64 (k:Int))∧W=w')) (hk0:((k:Int)==0)=false) (hks:((k:Int)==s1.size)=false) (hkl:k<s1.size) (ck:Nat) (hck:((s1[k]'hkl).toNat:Int)=(ck:Int)) (mo hd:ByteArray) (hmo:s1.extract (k+1) s1.size=mo) (hhd:s1.extract 0 k=hd) (cm:Nat) (hrun2:∀ W,Hid (Calls Tryz.prog 180 #[.string mo,.int .i64 0] W fun e w'=>e=.returned (.int .i64 (cm:Int))∧W=w')) (hb:((cm:Int) != mo.size)=false) (he:(mo.toList==[])=false) (_he2:¬ mo.toList=[]) (_he3:mo.toList.isEmpty=false) (h47:ck=47) (hD0:D0=0) (hrd1:∀ W,Hid (Calls Tryz.prog 181 #[.string mo] W (Post9 D0 W))) (hrd2:∀ W,Hid (Calls Tryz.prog 181 #[.string hd] W (Post9 N0 W))) (hqs:Hid (sb=decide (q.num<0))) (hmk:∀ W u v,Nat9 W u N0→Nat9 W v D0→Hid (Calls Tryz.prog 114 #[.bool true,u,v] W (QPostB q sb W))):Calls Tryz.prog 147 #[.string s] w (FlagPost q false w):=by
 subst h47
 have hres:=hiD (Resa.start w)
 go_enter Tryz.func147,Tryz.ntmps147
 go_wp2_with fail
 refine (hrun _).out.mono ?_
 rintro e w1 ⟨rfl,rfl⟩
 have hkl2:(k:Int)<s1.size:=by omega
 go_wp2_with fail
 go_quiet (fail)
 have hrq:=hiD (hres.out.next (below_drewN _ _ nq))
 go_wp2_with fail
 refine (hrun2 _).out.mono ?_
 rintro e w1 ⟨rfl,rfl⟩
 go_wp2_with fail
 refine (hrd1 _).out.mono ?_
 rintro e w2 ⟨v2,rfl,hv2,hb2,-⟩
 obtain ⟨p2,n2,c2,rfl⟩:=hv2.slice
 have hr2:=hiD (hrq.out.next hb2)
 have Hv2:=hiD hv2
 have hn3:n2=0:=by have h:=hv2.zero_iff (n:=n2);omega
 subst hn3
 clear hv2 hb2
 go_wp2_with fail
 refine (hrd2 _).out.mono ?_
 rintro e w3 ⟨v3,rfl,hv3,hb3,-⟩
 obtain ⟨p3,n3,c3,rfl⟩:=hv3.slice
 have HR:=hiD (hr2.out.next hb3)
 have hm3:=hmk w3 _ _ hv3 (Hv2.out.below hb3)
 clear hv3 hb3 hr2
 go_wp2_with fail
 refine hm3.out.mono ?_
 rintro e wM ⟨pr,nr,cr,pq,nq,cq,rfl,hr1,hr2,hbM⟩
 have hrz:=hiD (HR.out.next hbM)
 have Hr1:=hiD hr1
 have Hr2:=hiD hr2
 obtain ⟨z0,z1,z2,l0,l1,l2,f0,f1,f2⟩:=hrz.out.slots
 clear hr1 hr2 hbM
 go_wp2_with fail
 have hfin:=hiD (hrz.out.fin (Nat.le_refl _) hqs.out Hr1.out Hr2.out)
 refine bodyPost_ret (v:=.tuple #[.agg #[.bool sb,.slice pr nr cr,.slice pq nq cq],.bool false]) ?h1 rfl ?h2
 case h1=>simp [results,Tryz.results147,go_sem,l0,l1,l2]<;>omega
 obtain ⟨x,hx,hq,hb⟩:=hfin.out
 cases hx
 exact ⟨_,_,_,_,_,_,_,rfl,hb,fun _=>hq⟩
theorem plain_ng_C3 (s:ByteArray) (k:Nat) (q:Rat) (sb:Bool) (N0 D0:Nat) (w:World) (hmax:(s.size:Int)≤100000) (hz:0<s.size) (hm:(((s[0]'hz).toNat:Int)==45)=true) (s1:ByteArray) (hs1:s.extract 1 s.size=s1) (hmax1:(s1.size:Int)≤100000) (hrun:∀ W,Hid (Calls Tryz.prog 180 #[.string s1,.int .i64 0] W fun e w'=>e=.returned (.int .i64 (k:Int))∧W=w')) (hk0:((k:Int)==0)=false) (hks:((k:Int)==s1.size)=false) (hkl:k<s1.size) (ck:Nat) (hck:((s1[k]'hkl).toNat:Int)=(ck:Int)) (mo hd:ByteArray) (hmo:s1.extract (k+1) s1.size=mo) (hhd:s1.extract 0 k=hd) (cm:Nat) (hrun2:∀ W,Hid (Calls Tryz.prog 180 #[.string mo,.int .i64 0] W fun e w'=>e=.returned (.int .i64 (cm:Int))∧W=w')) (hb:((cm:Int) != mo.size)=false) (he:(mo.toList==[])=false) (_he2:¬ mo.toList=[]) (_he3:mo.toList.isEmpty=false) (h46:ck=46) (hall:Hid (mo.data.toList.all isDig=true)) (hsz:(mo.size:Int)≤100000) (hszh:(hd.size:Int)≤100000) (hD0:Hid (D0=10^mo.size)) (hrd2:∀ W,Hid (Calls Tryz.prog 181 #[.string (hd++mo)] W (Post9 N0 W))) (hqs:Hid (sb=decide (q.num<0))) (hmk:∀ W u v,Nat9 W u N0→Nat9 W v D0→Hid (Calls Tryz.prog 114 #[.bool true,u,v] W (QPostB q sb W))):Calls Tryz.prog 147 #[.string s] w (FlagPost q true w):=by
 subst h46
 have hone:∀ W,Hid (Calls Tryz.prog 118 #[] W (Post9 1 W)):=fun W=>hiD (one_any W)
 have hten:∀ W,Hid (Calls Tryz.prog 117 #[.int .u64 10] W (Post9 10 W)):=fun W=>hiD (natOf_any 10 W (by omega))
 have hres:=hiD (Resa.start w)
 go_enter Tryz.func147,Tryz.ntmps147
 go_wp2_with fail
 refine (hrun _).out.mono ?_
 rintro e w1 ⟨rfl,rfl⟩
 have hkl2:(k:Int)<s1.size:=by omega
 go_wp2_with fail
 go_quiet (fail)
 have hrq:=hiD (hres.out.next (below_drewN _ _ nq))
 go_wp2_with fail
 refine (hrun2 _).out.mono ?_
 rintro e w1 ⟨rfl,rfl⟩
 go_wp2_with fail
 refine (hone _).out.mono ?_
 rintro e w2 ⟨v2,rfl,hv2,hb2,-⟩
 obtain ⟨p2,n2,c2,rfl⟩:=hv2.slice
 have hr2:=hrq.out.next hb2
 have hst:Hid (DotAt w (w2.iter mo 0) w2.heap.size mo 0 (.slice p2 n2 c2)):=hiD ⟨by rw [Nat.pow_zero];exact hv2.below (below_alloc9 _ _),World.iter_heap _ _ _,hr2.next (below_alloc9 _ _),by have:=hr2.size;omega,Nat.zero_le _⟩
 clear hv2 hb2 hr2
 go_wp2_with fail
 go_loopw [9] (fun dv w3=>∃ (pos:Nat) (pd:Option Addr) (nd cd:Nat),dv=.slice pd nd cd∧Hid (DotAt w w3 w2.heap.size mo pos dv)) (fun _ w3=>mo.size-w3.iterPos w2.heap.size)
 case atStart=>exact ⟨0,_,_,_,rfl,hst⟩
 case round =>
  obtain ⟨pos,pd,nd,cd,rfl,hat⟩:=hrel
  by_cases hp:pos<mo.size
  ·have hasc:(mo[pos]'hp).toNat<128:=by
    have h1:isDig (mo[pos]'hp)=true:=List.all_eq_true.1 hall.out _ (List.getElem_mem (by simpa using hp):mo.data.toList[pos]'(by simpa using hp) ∈ _)
    simp [isDig] at h1;omega
   have hnx:∀ ty,(Instr.next (.pointer (some ⟨w2.heap.size,0,none⟩)) true ty).run Tryz.prog wr=_:=fun ty=>next_at wr w2.heap.size mo pos ty hat.out.it hp hasc
   have hd1:=hiD (hat.out.nat.iter hat.out.it (pos+1))
   have hps:Hid (pos≤100000):=hiD (by omega)
   clear hasc
   go_wp2_with fail
   refine (hten _).out.mono ?_
   rintro e w5 ⟨v5,rfl,hv5,hb5,-⟩
   obtain ⟨p5,n5,c5,rfl⟩:=hv5.slice
   have hm5:Hid (Calls Tryz.prog 115 #[.slice pd nd cd,.slice p5 n5 c5] w5 (Post9 (10^pos*10) w5)):=hiD (natMul_nat _ _ _ _ (pos+1) 1 w5 (by have:=hps.out;unfold most;omega) (by unfold most;omega) (pow10_lt pos) (by rw [Nat.pow_one,B9_eq];omega) (hd1.out.below hb5) hv5)
   have Hb5:=hiD hb5
   clear hv5 hb5
   go_wp2_with fail
   refine hm5.out.mono ?_
   rintro e w6 ⟨v6,rfl,hv6,hb6,-⟩
   obtain ⟨p6,n6,c6,rfl⟩:=hv6.slice
   have hnext:Hid (DotAt w w6 w2.heap.size mo (pos+1) (.slice p6 n6 c6)):=hiD (hat.out.step hp (Hb5.out.trans (hb6.mono Hb5.out.size)) (by rw [Nat.pow_succ];exact hv6))
   have hmeas:Hid (mo.size-w6.iterPos w2.heap.size<mo.size-wr.iterPos w2.heap.size):=hiD (by
    have h1:=hnext.out.it
    have h2:=hat.out.it
    simp only [World.iterPos,h1,h2];omega)
   clear hv6 hb6
   go_wp2_with fail
   go_roundw
   case rel=>exact ⟨pos+1,_,_,_,rfl,hnext⟩
   case measure=>exact hmeas.out
  ·have hpe:pos=mo.size:=by have:=hat.out.le;omega
   have hnx:∀ ty,(Instr.next (.pointer (some ⟨w2.heap.size,0,none⟩)) true ty).run Tryz.prog wr=_:=fun ty=>next_at_end wr w2.heap.size mo pos ty hat.out.it hp
   have hdn:Hid (Nat9 wr (.slice pd nd cd) D0):=hiD (by rw [hD0.out,← hpe];exact hat.out.nat)
   clear hpe
   go_wp2_with fail
   refine (hrd2 _).out.mono ?_
   rintro e w7 ⟨v7,rfl,hv7,hb7,-⟩
   obtain ⟨p7,n7,c7,rfl⟩:=hv7.slice
   have HR:=hiD (hat.out.res.next hb7)
   have hm3:=hmk w7 _ _ hv7 (hdn.out.below hb7)
   clear hv7 hb7
   go_wp2_with fail
   refine hm3.out.mono ?_
   rintro e wM ⟨pr,nr,cr,pq,nq,cq,rfl,hr1,hr2,hbM⟩
   have hrz:=hiD (HR.out.next hbM)
   have Hr1:=hiD hr1
   have Hr2:=hiD hr2
   obtain ⟨z0,z1,z2,l0,l1,l2,f0,f1,f2⟩:=hrz.out.slots
   clear hr1 hr2 hbM
   go_wp2_with fail
   have hfin:=hiD (hrz.out.fin (Nat.le_refl _) hqs.out Hr1.out Hr2.out)
   refine bodyPost_ret (v:=.tuple #[.agg #[.bool sb,.slice pr nr cr,.slice pq nq cq],.bool true]) ?h1 rfl ?h2
   case h1=>simp [results,Tryz.results147,go_sem,l0,l1,l2]<;>omega
   obtain ⟨x,hx,hq,hb⟩:=hfin.out
   cases hx
   exact ⟨_,_,_,_,_,_,_,rfl,hb,fun _=>hq⟩
theorem cut_cases (l:List UInt8) (x:UInt8):(x ∉ l∧Lib.cut l [x]=(l,[],false))∨∃ a b,l=a++x::b∧x ∉ a∧Lib.cut l [x]=(a,b,true):=by
 by_cases h:x ∈ l
 ·obtain ⟨a,b,e,ha⟩:=List.eq_append_cons_of_mem h
  exact .inr ⟨a,b,e,ha,by rw [e];exact cut_at ha⟩
 ·exact .inl ⟨h,cut_none h⟩
theorem tw_split {a b:List UInt8} {x:UInt8} (ha:a.all isDig=true) (hx:isDig x=false):(a++x::b).takeWhile isDig=a:=by
 induction a with
 | nil=>simp [hx]
 | cons y l ih =>
  rw [List.all_cons,Bool.and_eq_true] at ha
  simp [ha.1,ih ha.2]
theorem first_non {a b c d:List UInt8} {x y:UInt8} (ha:a.all isDig=true) (hx:isDig x=false) (hc:c.all isDig=true) (hy:isDig y=false) (h:a++x::b=c++y::d):a=c∧x=y∧b=d:=by
 have h1:=tw_split (b:=b) ha hx
 have h2:=tw_split (b:=d) hc hy
 rw [h,h2] at h1
 subst h1
 have:=List.append_cancel_left h
 simp at this
 exact ⟨rfl,this.1,this.2⟩
theorem allDig_false_of {l:List UInt8} {x:UInt8} (hx:x ∈ l) (hn:isDig x=false):allDig l=false:=by
 have:l.all isDig=false:=by rw [List.all_eq_false];exact ⟨x,hx,by simp [hn]⟩
 simp [allDig,this]
theorem readAbs_split (hd mo:List UInt8) (c:UInt8) (hh:hd.all isDig=true) (hc:isDig c=false) :
  readAbs (hd++c::mo)=if c=46 then (if allDig hd&&allDig mo then some (dval (hd++mo),10^mo.length) else none) else if c=47 then (if allDig hd&&allDig mo&&!(dval mo==0) then some (dval hd,dval mo) else none) else none:=by
 have k1:isDig 46=false:=by decide
 have k2:isDig 47=false:=by decide
 unfold readAbs
 by_cases h46:c=46
 ·subst h46
  rw [if_pos rfl,cut_at (isDig_ne hh k1)]
  rfl
 ·rw [if_neg h46]
  rcases cut_cases (hd++c::mo) 46 with ⟨hn,e⟩|⟨a,b,e,hna,e2⟩
  ·rw [e]
   simp only [Bool.false_eq_true,if_false]
   by_cases h47:c=47
   ·subst h47
    rw [if_pos rfl,cut_at (isDig_ne hh k2)]
    rfl
   ·rw [if_neg h47]
    rcases cut_cases (hd++c::mo) 47 with ⟨hn2,e3⟩|⟨a,b,e3,hna,e4⟩
    ·rw [e3]
     simp only [Bool.false_eq_true,if_false]
     rw [allDig_false_of (x:=c) (by simp) hc];rfl
    ·rw [e4]
     have:allDig a=false:=by
      cases h:allDig a with
      | false=>rfl
      | true =>
       have:=first_non hh hc (allDig_all h) k2 e3
       exact absurd this.2.1 h47
     rw [this];rfl
  ·rw [e2]
   have h1:allDig a=false:=by
    cases h:allDig a with
    | false=>rfl
    | true =>
     have:=first_non hh hc (allDig_all h) k1 e
     exact absurd this.2.1 h46
   have h2:allDig mo=false:=by
    have hm:(46:UInt8) ∈ hd++c::mo:=by rw [e];simp
    have:(46:UInt8) ∈ mo:=by
     rcases List.mem_append.1 hm with h|h
     ·exact absurd h (isDig_ne hh k1)
     ·rcases List.mem_cons.1 h with h|h
      ·exact absurd h.symm h46
      ·exact h
    exact allDig_false_of this k1
   rw [h1,h2]
   simp
theorem readAbs_digits (l:List UInt8) (h:allDig l=true):readAbs l=some (dval l,1):=by
 have h1:=allDig_all h
 unfold readAbs
 rw [cut_none (isDig_ne h1 (by decide)),cut_none (isDig_ne h1 (by decide))]
 simp [h]
theorem cnt_split (l:List UInt8) (h:cntD l<l.length):∃ (hd mo:List UInt8) (c:UInt8),l=hd++c::mo∧hd.length=cntD l∧hd.all isDig=true∧isDig c=false∧hd=l.take (cntD l)∧mo=l.drop (cntD l+1)∧l[cntD l]?=some c:=by
 have h1:l.takeWhile isDig++l.dropWhile isDig=l:=List.takeWhile_append_dropWhile
 cases hdw:l.dropWhile isDig with
 | nil=>rw [hdw,List.append_nil] at h1;unfold cntD at h;rw [h1] at h;omega
 | cons c mo =>
  rw [hdw] at h1
  have hc:isDig c=false:=by
   have:=List.head?_dropWhile_not isDig l
   rw [hdw] at this
   simpa using this
  have ha:(l.takeWhile isDig).all isDig=true:=List.all_takeWhile
  have hcn:cntD l=(l.takeWhile isDig).length:=rfl
  rw [hcn]
  generalize l.takeWhile isDig=hd at h1 ha
  subst h1
  exact ⟨hd,mo,c,rfl,rfl,ha,hc,by simp,by simp,by simp⟩
theorem cnt_all (l:List UInt8):cntD l=l.length↔l.all isDig=true:=by
 unfold cntD
 constructor
 ·intro h
  have h1:l.takeWhile isDig=l:=List.IsPrefix.eq_of_length (List.takeWhile_prefix isDig) h
  rw [← h1];exact List.all_takeWhile
 ·intro h
  have:l.takeWhile isDig=l:=by
   have:=tw_len isDig l l.length (Nat.le_refl _) (by rw [List.take_length];exact h) (.inl rfl)
   exact List.IsPrefix.eq_of_length (List.takeWhile_prefix isDig) this
  rw [this]
theorem dval_lt9 {l:List UInt8} {K:Nat} (hall:l.all isDig=true) (h:l.length≤9*K):dval l<B9^K:=by
 rw [B9_pow]
 exact Nat.lt_of_lt_of_le (dval_lt l hall) (Nat.pow_le_pow_right (by omega) h)
theorem one_lt9 {K:Nat} (h:1≤K):1<B9^K:=pow9_mono (K:=1) (by rw [Nat.pow_one,B9_eq];omega) h
theorem ten_lt9 {n K:Nat} (h:n<9*K):10^n<B9^K:=by
 rw [B9_pow];exact Nat.pow_lt_pow_right (by omega) h
def PlainPost (o:Option (Bool × Nat × Nat)) (w:World) (e:Ending) (w':World):Prop:=match o with
 | some (sg,n,d)=>FlagPost (ratv sg n d) true w e w'
 | none=>∃ q,FlagPost q false w e w'
theorem plain_core_n1 (s:ByteArray) (w:World) (hmax:(s.size:Int)≤1000) (hz:0<s.size) (hm:(((s[0]'hz).toNat:Int)==45)=false) (o:Option (Nat × Nat)) (ho:readAbs s.data.toList=o) :
  Calls Tryz.prog 147 #[.string s] w (PlainPost (o.map fun p=>(false,p.1,p.2)) w):=by
 have hmx:(s.size:Int)≤100000:=by omega
 obtain ⟨l,hl⟩:∃ l,s.data.toList=l:=⟨_,rfl⟩
 have hll:l.length=s.size:=by rw [← hl];simp
 rw [hl] at ho
 have hrun:∀ W,Hid (Calls Tryz.prog 180 #[.string s,.int .i64 0] W fun e w'=>e=.returned (.int .i64 ((cntD l:Nat):Int))∧W=w'):=fun W=>hiD (by rw [← hl];exact run_any s W (by omega))
 have hmk:∀ (N0 D0:Nat) (q:Rat) (sb:Bool),N0<B9^2000→D0<B9^2000→q=ratv false N0 D0→sb=decide (q.num<0)→∀ W u v,Nat9 W u N0→Nat9 W v D0→Hid (Calls Tryz.prog 114 #[.bool false,u,v] W (QPostB q sb W)):=by
  intro N0 D0 q sb h1 h2 h3 h4 W u v hu hv
  refine hiD ((make_any false u v N0 D0 2000 W (by omega) h1 h2 hu hv).mono fun e w' h=>?_)
  rw [← h3] at h
  exact h.b h4
 have hlen:l.length≤1000:=by omega
 by_cases hk:cntD l=0
 ·have hnone:o=none:=by
   rw [← ho]
   by_cases h0:l=[]
   ·subst h0;rfl
   ·obtain ⟨hd,mo,c,e,h1,h2,h3,-,-,-⟩:=cnt_split l (by rw [hk];exact List.length_pos_iff.2 h0)
    rw [hk] at h1
    have:hd=[]:=List.eq_nil_of_length_eq_zero h1
    subst this
    rw [e,readAbs_split _ _ _ h2 h3]
    simp [allDig]
  rw [hnone]
  exact (plain_n1_A s (cntD l) 0 false 0 0 w hmx hz hm hrun hk).mono fun e w' h=>⟨_,h⟩
 ·have hk0:(((cntD l:Nat):Int)==0)=false:=by simp;omega
  by_cases hks:cntD l=l.length
  ·have hall:=(cnt_all l).1 hks
   have had:allDig l=true:=by
    unfold allDig;rw [hall]
    cases h:l with
    | nil=>rw [h] at hk;exact absurd rfl hk
    | cons x t=>rfl
   have hoo:o=some (dval l,1):=by rw [← ho];exact readAbs_digits l had
   rw [hoo]
   have hN:dval l<B9^2000:=dval_lt9 (K:=2000) hall (by omega)
   exact plain_n1_B s (cntD l) (ratv false (dval l) 1) _ (dval l) 1 w hmx hz hm hrun hk0 (by rw [hks,hll];simp) (fun W=>hiD (by rw [← hl];exact natRead_any s W (by omega) (by rw [hl];exact hall))) (fun W=>hiD (one_any W)) (hiD rfl) (hmk _ _ _ _ hN (one_lt9 (K:=2000) (by omega)) rfl rfl)
  ·have hlt:cntD l<l.length:=by
    have:cntD l≤l.length:=by unfold cntD;exact (List.takeWhile_prefix isDig).length_le
    omega
   obtain ⟨hd,mo,c,e,h1,h2,h3,h4,h5,h6⟩:=cnt_split l hlt
   have hks0:(((cntD l:Nat):Int)==s.size)=false:=by rw [← hll];simp;omega
   have hkl:cntD l<s.size:=by omega
   have hck:((s[cntD l]'hkl).toNat:Int)=(c.toNat:Int):=by
    have:s[cntD l]'hkl=c:=by
     subst hl
     rw [List.getElem?_eq_getElem (by simpa using hkl)] at h6
     exact Option.some.inj h6
    rw [this]
   obtain ⟨mb,hmb⟩:∃ mb,s.extract (cntD l+1) s.size=mb:=⟨_,rfl⟩
   obtain ⟨hb,hhb⟩:∃ hb,s.extract 0 (cntD l)=hb:=⟨_,rfl⟩
   have lmb:mb.data.toList=mo:=by rw [← hmb,extract_to_end,hl,h5]
   have lhb:hb.data.toList=hd:=by rw [← hhb,extract_upto,hl,h4]
   have smb:mb.size=mo.length:=by rw [← lmb];simp
   have shb:hb.size=hd.length:=by rw [← lhb];simp
   have hle:l.length=hd.length+1+mo.length:=by rw [e];simp;omega
   have hrun2:∀ W,Hid (Calls Tryz.prog 180 #[.string mb,.int .i64 0] W fun e w'=>e=.returned (.int .i64 ((cntD mo:Nat):Int))∧W=w'):=fun W=>hiD (by rw [← lmb];exact run_any mb W (by omega))
   have hsp:=readAbs_split hd mo c h2 h3
   rw [← e,ho] at hsp
   have had:allDig hd=true:=by
    unfold allDig;rw [h2]
    cases h:hd with
    | nil=>rw [h] at h1;exact absurd h1.symm hk
    | cons x t=>rfl
   by_cases hcm:cntD mo=mo.length
   ·have hmall:=(cnt_all mo).1 hcm
    by_cases hm0:mo=[]
    ·have hoo:o=none:=by
      rw [hsp,hm0];simp [allDig]
     rw [hoo]
     exact (plain_n1_C1b s (cntD l) 0 false 0 0 w hmx hz hm hrun hk0 hks0 hkl c.toNat hck mb hb hmb hhb (cntD mo) hrun2 (by rw [hcm,hm0];rfl) (bytes_eq (by rw [lmb,hm0]))).mono fun e w' h=>⟨_,h⟩
    ·have hmd:allDig mo=true:=by
      unfold allDig;rw [hmall]
      cases h:mo with
      | nil=>exact absurd h hm0
      | cons x t=>rfl
     have hcm2:(((cntD mo:Nat):Int) != mb.size)=false:=by rw [hcm,smb];simp
     have ltl:mb.toList=mo:=by rw [Lib.toList_data];exact lmb
     have e1:(mb.toList==[])=false:=by rw [ltl,beq_eq_false_iff_ne];exact hm0
     have e2:¬ mb.toList=[]:=by rw [ltl];exact hm0
     have e3:mb.toList.isEmpty=false:=by rw [ltl];cases h:mo with|nil=>exact absurd h hm0|cons x t=>rfl
     have hmk0:∀ x:List UInt8,x.all isDig=true→x.length≤1000→dval x<B9^2000:=fun x hx hxl=>dval_lt9 (K:=2000) hx (by omega)
     by_cases h47:c=47
     ·have h46:¬ c=46:=by rw [h47];decide
      rw [if_neg h46,if_pos h47,had,hmd] at hsp
      have hrd1:∀ W,Hid (Calls Tryz.prog 181 #[.string mb] W (Post9 (dval mo) W)):=fun W=>hiD (by rw [← lmb];exact natRead_any mb W (by omega) (by rw [lmb];exact hmall))
      have hrd2:∀ W,Hid (Calls Tryz.prog 181 #[.string hb] W (Post9 (dval hd) W)):=fun W=>hiD (by rw [← lhb];exact natRead_any hb W (by omega) (by rw [lhb];exact h2))
      have hc47:c.toNat=47:=by rw [h47];rfl
      by_cases hd0:dval mo=0
      ·have hoo:o=none:=by rw [hsp,hd0];rfl
       rw [hoo]
       exact (plain_n1_C2n s (cntD l) _ _ (dval hd) (dval mo) w hmx hz hm hrun hk0 hks0 hkl c.toNat hck mb hb hmb hhb (cntD mo) hrun2 hcm2 e1 e2 e3 hc47 hd0 hrd1 hrd2 (hiD rfl) (hmk _ _ _ _ (hmk0 hd h2 (by omega)) (hmk0 mo hmall (by omega)) rfl rfl)).mono fun e w' h=>⟨_,h⟩
      ·have hoo:o=some (dval hd,dval mo):=by
        rw [hsp]
        have:(dval mo==0)=false:=by simpa using hd0
        rw [this];rfl
       rw [hoo]
       exact plain_n1_C2y s (cntD l) _ _ (dval hd) (dval mo) w hmx hz hm hrun hk0 hks0 hkl c.toNat hck mb hb hmb hhb (cntD mo) hrun2 hcm2 e1 e2 e3 hc47 hd0 hrd1 hrd2 (hiD rfl) (hmk _ _ _ _ (hmk0 hd h2 (by omega)) (hmk0 mo hmall (by omega)) rfl rfl)
     ·by_cases h46:c=46
      ·rw [if_pos h46,had,hmd] at hsp
       have hoo:o=some (dval (hd++mo),10^mo.length):=hsp
       rw [hoo]
       have hboth:(hd++mo).all isDig=true:=by rw [List.all_append,h2,hmall];rfl
       have lhm:(hb++mb).data.toList=hd++mo:=by simp [lhb,lmb]
       have shm:(hb++mb).size=hd.length+mo.length:=by simp [shb,smb]
       have hrd:∀ W,Hid (Calls Tryz.prog 181 #[.string (hb++mb)] W (Post9 (dval (hd++mo)) W)):=fun W=>hiD (by rw [← lhm];exact natRead_any (hb++mb) W (by rw [shm];omega) (by rw [lhm];exact hboth))
       exact plain_n1_C3 s (cntD l) _ _ (dval (hd++mo)) (10^mo.length) w hmx hz hm hrun hk0 hks0 hkl c.toNat hck mb hb hmb hhb (cntD mo) hrun2 hcm2 e1 e2 e3 (by rw [h46];rfl) (hiD (by rw [lmb];exact hmall)) (by omega) (by omega) (hiD (by rw [smb])) hrd (hiD rfl) (hmk _ _ _ _ (hmk0 _ hboth (by rw [List.length_append];omega)) (ten_lt9 (K:=2000) (by omega)) rfl rfl)
      ·rw [if_neg h46,if_neg h47] at hsp
       rw [hsp]
       have n46:((c.toNat:Int) != 46)=true:=by
        have:c.toNat≠46:=fun h=>h46 (UInt8.toNat_inj.1 h)
        simp;omega
       have n47:((c.toNat:Int) != 47)=true:=by
        have:c.toNat≠47:=fun h=>h47 (UInt8.toNat_inj.1 h)
        simp;omega
       exact (plain_n1_C1c s (cntD l) 0 false 0 0 w hmx hz hm hrun hk0 hks0 hkl c.toNat hck mb hb hmb hhb (cntD mo) hrun2 hcm2 e1 e2 e3 n46 n47).mono fun e w' h=>⟨_,h⟩
   ·have hmd:allDig mo=false:=by
     cases h:allDig mo with
     | false=>rfl
     | true=>exact absurd ((cnt_all mo).2 (allDig_all h)) hcm
    have hoo:o=none:=by
     rw [hsp,hmd];simp
    rw [hoo]
    exact (plain_n1_C1 s (cntD l) 0 false 0 0 w hmx hz hm hrun hk0 hks0 hkl c.toNat hck mb hb hmb hhb (cntD mo) hrun2 (by rw [smb];simp;omega)).mono fun e w' h=>⟨_,h⟩
theorem plain_core_ng (s:ByteArray) (w:World) (hmax:(s.size:Int)≤1000) (hz:0<s.size) (hm:(((s[0]'hz).toNat:Int)==45)=true) (s1:ByteArray) (hs1:s.extract 1 s.size=s1) (hmax1:(s1.size:Int)≤1000) (o:Option (Nat × Nat)) (ho:readAbs s1.data.toList=o) :
  Calls Tryz.prog 147 #[.string s] w (PlainPost (o.map fun p=>(true,p.1,p.2)) w):=by
 have hmx:(s.size:Int)≤100000:=by omega
 obtain ⟨l,hl⟩:∃ l,s1.data.toList=l:=⟨_,rfl⟩
 have hll:l.length=s1.size:=by rw [← hl];simp
 rw [hl] at ho
 have hrun:∀ W,Hid (Calls Tryz.prog 180 #[.string s1,.int .i64 0] W fun e w'=>e=.returned (.int .i64 ((cntD l:Nat):Int))∧W=w'):=fun W=>hiD (by rw [← hl];exact run_any s1 W (by omega))
 have hmk:∀ (N0 D0:Nat) (q:Rat) (sb:Bool),N0<B9^2000→D0<B9^2000→q=ratv true N0 D0→sb=decide (q.num<0)→∀ W u v,Nat9 W u N0→Nat9 W v D0→Hid (Calls Tryz.prog 114 #[.bool true,u,v] W (QPostB q sb W)):=by
  intro N0 D0 q sb h1 h2 h3 h4 W u v hu hv
  refine hiD ((make_any true u v N0 D0 2000 W (by omega) h1 h2 hu hv).mono fun e w' h=>?_)
  rw [← h3] at h
  exact h.b h4
 have hlen:l.length≤1000:=by omega
 by_cases hk:cntD l=0
 ·have hnone:o=none:=by
   rw [← ho]
   by_cases h0:l=[]
   ·subst h0;rfl
   ·obtain ⟨hd,mo,c,e,h1,h2,h3,-,-,-⟩:=cnt_split l (by rw [hk];exact List.length_pos_iff.2 h0)
    rw [hk] at h1
    have:hd=[]:=List.eq_nil_of_length_eq_zero h1
    subst this
    rw [e,readAbs_split _ _ _ h2 h3]
    simp [allDig]
  rw [hnone]
  exact (plain_ng_A s (cntD l) 0 false 0 0 w hmx hz hm s1 hs1 (by omega) hrun hk).mono fun e w' h=>⟨_,h⟩
 ·have hk0:(((cntD l:Nat):Int)==0)=false:=by simp;omega
  by_cases hks:cntD l=l.length
  ·have hall:=(cnt_all l).1 hks
   have had:allDig l=true:=by
    unfold allDig;rw [hall]
    cases h:l with
    | nil=>rw [h] at hk;exact absurd rfl hk
    | cons x t=>rfl
   have hoo:o=some (dval l,1):=by rw [← ho];exact readAbs_digits l had
   rw [hoo]
   have hN:dval l<B9^2000:=dval_lt9 (K:=2000) hall (by omega)
   exact plain_ng_B s (cntD l) (ratv true (dval l) 1) _ (dval l) 1 w hmx hz hm s1 hs1 (by omega) hrun hk0 (by rw [hks,hll];simp) (fun W=>hiD (by rw [← hl];exact natRead_any s1 W (by omega) (by rw [hl];exact hall))) (fun W=>hiD (one_any W)) (hiD rfl) (hmk _ _ _ _ hN (one_lt9 (K:=2000) (by omega)) rfl rfl)
  ·have hlt:cntD l<l.length:=by
    have:cntD l≤l.length:=by unfold cntD;exact (List.takeWhile_prefix isDig).length_le
    omega
   obtain ⟨hd,mo,c,e,h1,h2,h3,h4,h5,h6⟩:=cnt_split l hlt
   have hks0:(((cntD l:Nat):Int)==s1.size)=false:=by rw [← hll];simp;omega
   have hkl:cntD l<s1.size:=by omega
   have hck:((s1[cntD l]'hkl).toNat:Int)=(c.toNat:Int):=by
    have:s1[cntD l]'hkl=c:=by
     subst hl
     rw [List.getElem?_eq_getElem (by simpa using hkl)] at h6
     exact Option.some.inj h6
    rw [this]
   obtain ⟨mb,hmb⟩:∃ mb,s1.extract (cntD l+1) s1.size=mb:=⟨_,rfl⟩
   obtain ⟨hb,hhb⟩:∃ hb,s1.extract 0 (cntD l)=hb:=⟨_,rfl⟩
   have lmb:mb.data.toList=mo:=by rw [← hmb,extract_to_end,hl,h5]
   have lhb:hb.data.toList=hd:=by rw [← hhb,extract_upto,hl,h4]
   have smb:mb.size=mo.length:=by rw [← lmb];simp
   have shb:hb.size=hd.length:=by rw [← lhb];simp
   have hle:l.length=hd.length+1+mo.length:=by rw [e];simp;omega
   have hrun2:∀ W,Hid (Calls Tryz.prog 180 #[.string mb,.int .i64 0] W fun e w'=>e=.returned (.int .i64 ((cntD mo:Nat):Int))∧W=w'):=fun W=>hiD (by rw [← lmb];exact run_any mb W (by omega))
   have hsp:=readAbs_split hd mo c h2 h3
   rw [← e,ho] at hsp
   have had:allDig hd=true:=by
    unfold allDig;rw [h2]
    cases h:hd with
    | nil=>rw [h] at h1;exact absurd h1.symm hk
    | cons x t=>rfl
   by_cases hcm:cntD mo=mo.length
   ·have hmall:=(cnt_all mo).1 hcm
    by_cases hm0:mo=[]
    ·have hoo:o=none:=by
      rw [hsp,hm0];simp [allDig]
     rw [hoo]
     exact (plain_ng_C1b s (cntD l) 0 false 0 0 w hmx hz hm s1 hs1 (by omega) hrun hk0 hks0 hkl c.toNat hck mb hb hmb hhb (cntD mo) hrun2 (by rw [hcm,hm0];rfl) (bytes_eq (by rw [lmb,hm0]))).mono fun e w' h=>⟨_,h⟩
    ·have hmd:allDig mo=true:=by
      unfold allDig;rw [hmall]
      cases h:mo with
      | nil=>exact absurd h hm0
      | cons x t=>rfl
     have hcm2:(((cntD mo:Nat):Int) != mb.size)=false:=by rw [hcm,smb];simp
     have ltl:mb.toList=mo:=by rw [Lib.toList_data];exact lmb
     have e1:(mb.toList==[])=false:=by rw [ltl,beq_eq_false_iff_ne];exact hm0
     have e2:¬ mb.toList=[]:=by rw [ltl];exact hm0
     have e3:mb.toList.isEmpty=false:=by rw [ltl];cases h:mo with|nil=>exact absurd h hm0|cons x t=>rfl
     have hmk0:∀ x:List UInt8,x.all isDig=true→x.length≤1000→dval x<B9^2000:=fun x hx hxl=>dval_lt9 (K:=2000) hx (by omega)
     by_cases h47:c=47
     ·have h46:¬ c=46:=by rw [h47];decide
      rw [if_neg h46,if_pos h47,had,hmd] at hsp
      have hrd1:∀ W,Hid (Calls Tryz.prog 181 #[.string mb] W (Post9 (dval mo) W)):=fun W=>hiD (by rw [← lmb];exact natRead_any mb W (by omega) (by rw [lmb];exact hmall))
      have hrd2:∀ W,Hid (Calls Tryz.prog 181 #[.string hb] W (Post9 (dval hd) W)):=fun W=>hiD (by rw [← lhb];exact natRead_any hb W (by omega) (by rw [lhb];exact h2))
      have hc47:c.toNat=47:=by rw [h47];rfl
      by_cases hd0:dval mo=0
      ·have hoo:o=none:=by rw [hsp,hd0];rfl
       rw [hoo]
       exact (plain_ng_C2n s (cntD l) _ _ (dval hd) (dval mo) w hmx hz hm s1 hs1 (by omega) hrun hk0 hks0 hkl c.toNat hck mb hb hmb hhb (cntD mo) hrun2 hcm2 e1 e2 e3 hc47 hd0 hrd1 hrd2 (hiD rfl) (hmk _ _ _ _ (hmk0 hd h2 (by omega)) (hmk0 mo hmall (by omega)) rfl rfl)).mono fun e w' h=>⟨_,h⟩
      ·have hoo:o=some (dval hd,dval mo):=by
        rw [hsp]
        have:(dval mo==0)=false:=by simpa using hd0
        rw [this];rfl
       rw [hoo]
       exact plain_ng_C2y s (cntD l) _ _ (dval hd) (dval mo) w hmx hz hm s1 hs1 (by omega) hrun hk0 hks0 hkl c.toNat hck mb hb hmb hhb (cntD mo) hrun2 hcm2 e1 e2 e3 hc47 hd0 hrd1 hrd2 (hiD rfl) (hmk _ _ _ _ (hmk0 hd h2 (by omega)) (hmk0 mo hmall (by omega)) rfl rfl)
     ·by_cases h46:c=46
      ·rw [if_pos h46,had,hmd] at hsp
       have hoo:o=some (dval (hd++mo),10^mo.length):=hsp
       rw [hoo]
       have hboth:(hd++mo).all isDig=true:=by rw [List.all_append,h2,hmall];rfl
       have lhm:(hb++mb).data.toList=hd++mo:=by simp [lhb,lmb]
       have shm:(hb++mb).size=hd.length+mo.length:=by simp [shb,smb]
       have hrd:∀ W,Hid (Calls Tryz.prog 181 #[.string (hb++mb)] W (Post9 (dval (hd++mo)) W)):=fun W=>hiD (by rw [← lhm];exact natRead_any (hb++mb) W (by rw [shm];omega) (by rw [lhm];exact hboth))
       exact plain_ng_C3 s (cntD l) _ _ (dval (hd++mo)) (10^mo.length) w hmx hz hm s1 hs1 (by omega) hrun hk0 hks0 hkl c.toNat hck mb hb hmb hhb (cntD mo) hrun2 hcm2 e1 e2 e3 (by rw [h46];rfl) (hiD (by rw [lmb];exact hmall)) (by omega) (by omega) (hiD (by rw [smb])) hrd (hiD rfl) (hmk _ _ _ _ (hmk0 _ hboth (by rw [List.length_append];omega)) (ten_lt9 (K:=2000) (by omega)) rfl rfl)
      ·rw [if_neg h46,if_neg h47] at hsp
       rw [hsp]
       have n46:((c.toNat:Int) != 46)=true:=by
        have:c.toNat≠46:=fun h=>h46 (UInt8.toNat_inj.1 h)
        simp;omega
       have n47:((c.toNat:Int) != 47)=true:=by
        have:c.toNat≠47:=fun h=>h47 (UInt8.toNat_inj.1 h)
        simp;omega
       exact (plain_ng_C1c s (cntD l) 0 false 0 0 w hmx hz hm s1 hs1 (by omega) hrun hk0 hks0 hkl c.toNat hck mb hb hmb hhb (cntD mo) hrun2 hcm2 e1 e2 e3 n46 n47).mono fun e w' h=>⟨_,h⟩
   ·have hmd:allDig mo=false:=by
     cases h:allDig mo with
     | false=>rfl
     | true=>exact absurd ((cnt_all mo).2 (allDig_all h)) hcm
    have hoo:o=none:=by
     rw [hsp,hmd];simp
    rw [hoo]
    exact (plain_ng_C1 s (cntD l) 0 false 0 0 w hmx hz hm s1 hs1 (by omega) hrun hk0 hks0 hkl c.toNat hck mb hb hmb hhb (cntD mo) hrun2 (by rw [smb];simp;omega)).mono fun e w' h=>⟨_,h⟩
theorem plain_any (s:ByteArray) (w:World) (hmax:(s.size:Int)≤1000):Calls Tryz.prog 147 #[.string s] w (PlainPost (readL s.data.toList) w):=by
 by_cases hz:s.size=0
 ·have hl:s.data.toList=[]:=List.eq_nil_of_length_eq_zero (by simpa using hz)
  have:readL s.data.toList=none:=by rw [hl];rfl
  rw [this]
  have hc:cntD s.data.toList=0:=by rw [hl];rfl
  exact (plain_n0_A s 0 0 false 0 0 w (by omega) hz (fun W=>hiD (by have h:=run_any s W (by omega);rw [hc] at h;exact h)) rfl).mono fun e w' h=>⟨_,h⟩
 ·have hz0:0<s.size:=by omega
  have hl0:0<s.data.toList.length:=by simpa using hz0
  obtain ⟨x,t,hl⟩:∃ x t,s.data.toList=x::t:=by
   cases h:s.data.toList with
   | nil=>rw [h] at hl0;simp at hl0
   | cons x t=>exact ⟨x,t,rfl⟩
  have hx:s[0]'hz0=x:=by
   have h1:s.data.toList[0]'hl0=s[0]'hz0:=rfl
   rw [← h1];simp only [hl];rfl
  by_cases h45:x=45
  ·have hr:readL s.data.toList=(readAbs (s.extract 1 s.size).data.toList).map fun p=>(true,p.1,p.2):=by
    rw [extract_to_end]
    unfold readL Lib.trimPrefix
    have:Lib.hasPrefix s.data.toList [45]=true:=by rw [hl,h45];simp [Lib.hasPrefix,List.isPrefixOf]
    rw [this];rfl
   rw [hr]
   exact plain_core_ng s w hmax hz0 (by rw [hx,h45];rfl) _ rfl (by
    have:(s.extract 1 s.size).size=s.size-1:=by
     simp
    omega) _ rfl
  ·have hp:Lib.hasPrefix s.data.toList [45]=false:=by
    rw [hl]
    have:((45:UInt8)==x)=false:=by rw [beq_eq_false_iff_ne];exact fun h=>h45 h.symm
    simp [Lib.hasPrefix,List.isPrefixOf,this]
   have hr:readL s.data.toList=(readAbs s.data.toList).map fun p=>(false,p.1,p.2):=by
    unfold readL Lib.trimPrefix
    rw [hp];rfl
   rw [hr]
   exact plain_core_n1 s w hmax hz0 (by
    rw [hx]
    have:x.toNat≠45:=fun h=>h45 (UInt8.toNat_inj.1 h)
    simp;omega) _ rfl
end Go.Proofs.YtlcpcpmlfegejaaGreatDoor
