/- Contracts. -/
import Derived.Test.YtgepehlpjpccaaaGreatDoorRf
set_option maxHeartbeats 3200000
set_option maxRecDepth 100000
namespace Go.Proofs.YtgepehlpjpccaaaGreatDoor
open Go.RowKit Big
open Go.Lib
theorem Resa.fin {B:Nat} {w0 W:World} {q:Rat} {sb:Bool} {p p2:Oa} {n c n2 c2:Nat} (h:Resa B w0 W) (hB:w0.heap.size≤B) (hs:sb=decide (q.num<0))
  (h1:yE W (.slice p n c) q.num.natAbs) (h2:yE W (.slice p2 n2 c2) q.den∨(yE W (.slice p2 n2 c2) 0∧q.den=1)) :
  uF q w0 (.returned (.agg #[.bool sb,.slice p n c,.slice p2 n2 c2])) (((W.setCell ⟨B,0,none⟩ (.bool sb)).setCell ⟨B,1,none⟩ (.slice p n c)).setCell ⟨B,2,none⟩ (.slice p2 n2 c2)) :=
 ⟨_,rfl,⟨_,_,by rw [hs],h.nat3 hB h1 sb p p2 n c n2 c2,h2.imp (fun h2=>h.nat3 hB h2 sb p p2 n c n2 c2) fun h2=>⟨h.nat3 hB h2.1 sb p p2 n c n2 c2,h2.2⟩⟩,(h.put3 hB sb p p2 n c n2 c2).below⟩
def zY (q:Rat) (f:Bool) (w:World) (e:Ending) (w':World):Prop:=∃ b p n c p2 n2 c2,e=.returned (.tuple #[.agg #[.bool b,.slice p n c,.slice p2 n2 c2],.bool f])∧Be w w'∧(f=true→jL w' (.agg #[.bool b,.slice p n c,.slice p2 n2 c2]) q)
def yab (W:World) (g:Nat) (s:ByteArray) (pos:Nat):World:={ W with heap:=W.heap.setIfInBounds g (.stringIter s pos) }
theorem ywf (W:World) (g:Nat) (s:ByteArray) (pos:Nat) (ty:TypeId) (hg:W.heap[g]?=some (.stringIter s pos)) (h:pos<s.size) (ha:(s[pos]'h).toNat<128) :
  (Instr.next (.pointer (some ⟨g,0,none⟩)) true ty).run Tryz.prog W=.ok (.tuple #[.bool true,.int .i64 pos,.int .i32 (s[pos]'h).toNat]) (yab W g s (pos+1)):=by
 simp only [Instr.next,getObj,setObj,Sem.run_bind,Sem.run,hg,Result.andThen,h,if_true,decode_ascii s pos h ha]
 simp [goInt,yab]
theorem ymo (W:World) (g:Nat) (s:ByteArray) (pos:Nat) (ty:TypeId) (hg:W.heap[g]?=some (.stringIter s pos)) (h:¬ pos<s.size) :
  (Instr.next (.pointer (some ⟨g,0,none⟩)) true ty).run Tryz.prog W=.ok (.tuple #[.bool false]) W:=by
 simp [Instr.next,getObj,Sem.run,hg,h]
theorem ykh (W:World) (g:Nat) (s:ByteArray) (pos:Nat) {B:Nat} (hB:B≤g):Below B W (yab W g s pos) :=
 ⟨rfl,rfl,rfl,by simp [yab],fun k hk=>by simp only [yab];rw [Array.getElem?_setIfInBounds_ne (by omega)]⟩
theorem yox (W:World) (g:Nat) (s:ByteArray) (pos:Nat) (h:g<W.heap.size):(yab W g s pos).heap[g]?=some (.stringIter s pos):=by
 simp [yab,h]
structure DotAt (w wr:World) (g:Nat) (mo:ByteArray) (pos:Nat) (dv:Value):Prop where
 nat:yE wr dv (10^pos)
 it:wr.heap[g]?=some (.stringIter mo pos)
 res:Resa w.heap.size w wr
 gt:w.heap.size<g
 le:pos≤mo.size
theorem yE.iter {W:World} {v:Value} {x g pos:Nat} {mo:ByteArray} (h:yE W v x) (hg:W.heap[g]?=some (.stringIter mo pos)) (p2:Nat):yE (yab W g mo p2) v x:=by
 obtain ⟨p,n,c,l,rfl,h2,h3,h4⟩:=h
 refine ⟨p,n,c,l,rfl,h2,⟨h3.len,?_⟩,h4⟩
 by_cases hn:n=0
 ·exact .inl hn
 ·obtain ⟨b,o,hp,hb,hc⟩:=h3.opened (by omega)
  refine .inr ⟨b,o,hp,by simpa [yab] using hb,fun j hj=>?_⟩
  have hne:b≠g:=by
   rintro rfl
   have:=hc 0 (by omega)
   simp [World.cell?,hg] at this
  rw [← hc j hj]
  refine World.cell?_of_block (w:=W) ?_
  simp only [yab];rw [Array.getElem?_setIfInBounds_ne (by omega)]
theorem DotAt.step {w wr w5:World} {g pos:Nat} {mo:ByteArray} {dv d2:Value} (h:DotAt w wr g mo pos dv) (hlt:pos<mo.size) (hb:Below (yab wr g mo (pos+1)).heap.size (yab wr g mo (pos+1)) w5) (h2:yE w5 d2 (10^(pos+1))):DotAt w w5 g mo (pos+1) d2:=by
 have hg:=(Array.getElem?_eq_some_iff.1 h.it).1
 have hs:(yab wr g mo (pos+1)).heap.size=wr.heap.size:=by simp [yab]
 have hr:Resa w.heap.size w (yab wr g mo (pos+1)):=by
  refine ⟨by rw [hs];exact h.res.size,h.res.below.trans (ykh _ _ _ _ (Nat.le_of_lt h.gt)),?_⟩
  obtain ⟨z0,z1,z2,hz,hn⟩:=h.res.z
  refine ⟨z0,z1,z2,?_,hn⟩
  rw [← hz];simp only [yab];rw [Array.getElem?_setIfInBounds_ne (by have:=h.gt;omega)]
 refine ⟨h2,?_,hr.next hb,h.gt,hlt⟩
 rw [hb.block g (by rw [hs];exact hg)]
 exact yox _ _ _ _ hg
theorem ytO (p:Nat):10^p<B9^(p+1):=by
 rw [yaA];exact Nat.pow_lt_pow_right (by omega) (by omega)
theorem yhl (s:ByteArray) (k:Nat) (q:Rat) (_sb:Bool) (_N0 _D0:Nat) (w:World) (_hmax:(s.size:Int)≤100000) (hz:s.size=0) (jY:∀ W,Hid (Calls Tryz.prog 123 #[.string s,.int .i64 0] W (Qp (.int .i64 (k:Int)) W))) (hk:k=0):Calls Tryz.prog 68 #[.string s] w (zY q false w):=by
 subst hk
 have zF:=yA (Resa.start w)
 have hz0:((s.size:Int))=0:=by omega
 go_in
 go_wp2_with fail
 refine (jY _).out.mono ?_
 rintro e w1 ⟨rfl,rfl⟩
 go_wp2
 refine bodyPost_ret (v:=.tuple #[.agg #[.bool false,.slice none 0 0,.slice none 0 0],.bool false]) ?_ rfl ?_
 ·simp [results,Tryz.results68,go_sem]
 exact ⟨_,_,_,_,_,_,_,rfl,zF.out.below,fun h=>by cases h⟩
theorem ywg (s:ByteArray) (k:Nat) (q:Rat) (_sb:Bool) (_N0 _D0:Nat) (w:World) (hmax:(s.size:Int)≤100000) (hz:0<s.size) (neg:Bool) (s1:ByteArray) (yao:(s1=s∧neg=false∧(((s[0]'hz).toNat:Int)==45)=false)∨(s.extract 1 s.size=s1∧neg=true∧(((s[0]'hz).toNat:Int)==45)=true)) (_hmax1:(s1.size:Int)≤100000) (jY:∀ W,Hid (Calls Tryz.prog 123 #[.string s1,.int .i64 0] W (Qp (.int .i64 (k:Int)) W))) (hk:k=0):Calls Tryz.prog 68 #[.string s] w (zY q false w):=by
 rcases yao with ⟨rfl,rfl,hm⟩|⟨hs1,rfl,hm⟩
 all_goals
  subst hk
  have zF:=yA (Resa.start w)
  go_in
  go_wp2_with fail
  refine (jY _).out.mono ?_
  rintro e w1 ⟨rfl,rfl⟩
  go_wp2
  refine bodyPost_ret (v:=.tuple #[.agg #[.bool false,.slice none 0 0,.slice none 0 0],.bool false]) ?_ rfl ?_
  ·simp [results,Tryz.results68,go_sem]
  exact ⟨_,_,_,_,_,_,_,rfl,zF.out.below,fun h=>by cases h⟩
theorem ywh (s:ByteArray) (k:Nat) (q:Rat) (sb:Bool) (N0 D0:Nat) (w:World) (hmax:(s.size:Int)≤100000) (hz:0<s.size) (neg:Bool) (s1:ByteArray) (yao:(s1=s∧neg=false∧(((s[0]'hz).toNat:Int)==45)=false)∨(s.extract 1 s.size=s1∧neg=true∧(((s[0]'hz).toNat:Int)==45)=true)) (_hmax1:(s1.size:Int)≤100000) (jY:∀ W,Hid (Calls Tryz.prog 123 #[.string s1,.int .i64 0] W (Qp (.int .i64 (k:Int)) W))) (hk0:((k:Int)==0)=false) (hks:((k:Int)==s1.size)=true) (hrd:∀ W,Hid (Calls Tryz.prog 124 #[.string s1] W (zC N0 W))) (zX:∀ W,Hid (Calls Tryz.prog 67 #[] W (zC D0 W))) (hqs:Hid (sb=decide (q.num<0))) (hmk:∀ W u v,yE W u N0→yE W v D0→Hid (Calls Tryz.prog 65 #[.bool neg,u,v] W (uJ q sb W))):Calls Tryz.prog 68 #[.string s] w (zY q true w):=by
 rcases yao with ⟨rfl,rfl,hm⟩|⟨hs1,rfl,hm⟩
 all_goals
  have zF:=yA (Resa.start w)
  go_in
  go_wp2_with fail
  refine (jY _).out.mono ?_
  rintro e w1 ⟨rfl,rfl⟩
  go_wp2_with fail
  refine (hrd _).out.mono ?_
  rintro e w2 ⟨v2,rfl,hv2,hb2,-⟩
  obtain ⟨p2,n2,c2,rfl⟩:=hv2.slice
  have hr2:=yA (zF.out.next hb2)
  have Hv2:=yA hv2
  clear hv2 hb2
  go_wp2_with fail
  refine (zX _).out.mono ?_
  rintro e w3 ⟨v3,rfl,hv3,hb3,-⟩
  obtain ⟨p3,n3,c3,rfl⟩:=hv3.slice
  have HR:=yA (hr2.out.next hb3)
  have hm3:=hmk w3 _ _ (Hv2.out.below hb3) hv3
  clear hv3 hb3 hr2
  go_wp2_with fail
  refine hm3.out.mono ?_
  rintro e wM ⟨pr,nr,cr,pq,nq,cq,rfl,hr1,hr2,hbM⟩
  have hrz:=yA (HR.out.next hbM)
  have Hr1:=yA hr1
  have Hr2:=yA hr2
  obtain ⟨z0,z1,z2,l0,l1,l2,f0,f1,f2⟩:=hrz.out.slots
  clear hr1 hr2 hbM
  go_wp2_with fail
  have yD:=yA (hrz.out.fin nl hqs.out Hr1.out Hr2.out)
  refine bodyPost_ret (v:=.tuple #[.agg #[.bool sb,.slice pr nr cr,.slice pq nq cq],.bool true]) ?_ rfl ?_
  ·simp [results,Tryz.results68,go_sem,l0,l1,l2]<;>omega
  obtain ⟨x,hx,hq,hb⟩:=yD.out
  cases hx
  exact ⟨_,_,_,_,_,_,_,rfl,hb,fun _=>hq⟩
theorem ytP (s:ByteArray) (k:Nat) (q:Rat) (_sb:Bool) (_N0 _D0:Nat) (w:World) (hmax:(s.size:Int)≤100000) (hz:0<s.size) (neg:Bool) (s1:ByteArray) (yao:(s1=s∧neg=false∧(((s[0]'hz).toNat:Int)==45)=false)∨(s.extract 1 s.size=s1∧neg=true∧(((s[0]'hz).toNat:Int)==45)=true)) (yh7:(s1.size:Int)≤100000) (jY:∀ W,Hid (Calls Tryz.prog 123 #[.string s1,.int .i64 0] W (Qp (.int .i64 (k:Int)) W))) (hk0:((k:Int)==0)=false) (hks:((k:Int)==s1.size)=false) (hkl:k<s1.size) (ck:Nat) (hck:((s1[k]'hkl).toNat:Int)=(ck:Int)) (mo hd:ByteArray) (hmo:s1.extract (k+1) s1.size=mo) (_hhd:s1.extract 0 k=hd) (cm:Nat) (vV:∀ W,Hid (Calls Tryz.prog 123 #[.string mo,.int .i64 0] W (Qp (.int .i64 (cm:Int)) W))) (hb:((cm:Int) != mo.size)=true):Calls Tryz.prog 68 #[.string s] w (zY q false w):=by
 rcases yao with ⟨rfl,rfl,hm⟩|⟨hs1,rfl,hm⟩
 all_goals
  have zF:=yA (Resa.start w)
  go_in
  go_wp2_with fail
  refine (jY _).out.mono ?_
  rintro e w1 ⟨rfl,rfl⟩
  have yrY:(k:Int)<s1.size:=by omega
  go_wp2_with fail
  go_quiet (fail)
  have hrq:=yA (zF.out.next (yI _ _ nq))
  go_wp2_with fail
  refine (vV _).out.mono ?_
  rintro e w1 ⟨rfl,rfl⟩
  obtain ⟨z0,z1,z2,l0,l1,l2,f0,f1,f2⟩:=hrq.out.slots
  have q3:=yA (hrq.out.put3 nl false none none 0 0 0 0).below
  go_wp2
  refine bodyPost_ret (v:=.tuple #[.agg #[.bool false,.slice none 0 0,.slice none 0 0],.bool false]) ?_ rfl ?_
  ·simp [results,Tryz.results68,go_sem,l0,l1,l2]<;>omega
  exact ⟨_,_,_,_,_,_,_,rfl,q3.out,fun h=>by cases h⟩
theorem yqL (s:ByteArray) (k:Nat) (q:Rat) (_sb:Bool) (_N0 _D0:Nat) (w:World) (hmax:(s.size:Int)≤100000) (hz:0<s.size) (neg:Bool) (s1:ByteArray) (yao:(s1=s∧neg=false∧(((s[0]'hz).toNat:Int)==45)=false)∨(s.extract 1 s.size=s1∧neg=true∧(((s[0]'hz).toNat:Int)==45)=true)) (yh7:(s1.size:Int)≤100000) (jY:∀ W,Hid (Calls Tryz.prog 123 #[.string s1,.int .i64 0] W (Qp (.int .i64 (k:Int)) W))) (hk0:((k:Int)==0)=false) (hks:((k:Int)==s1.size)=false) (hkl:k<s1.size) (ck:Nat) (hck:((s1[k]'hkl).toNat:Int)=(ck:Int)) (mo hd:ByteArray) (hmo:s1.extract (k+1) s1.size=mo) (_hhd:s1.extract 0 k=hd) (cm:Nat) (vV:∀ W,Hid (Calls Tryz.prog 123 #[.string mo,.int .i64 0] W (Qp (.int .i64 (cm:Int)) W))) (hb:((cm:Int) != 0)=false) (he:mo=⟨#[]⟩):Calls Tryz.prog 68 #[.string s] w (zY q false w):=by
 rcases yao with ⟨rfl,rfl,hm⟩|⟨hs1,rfl,hm⟩
 all_goals
  subst he
  have zF:=yA (Resa.start w)
  go_in
  go_wp2_with fail
  refine (jY _).out.mono ?_
  rintro e w1 ⟨rfl,rfl⟩
  have yrY:(k:Int)<s1.size:=by omega
  go_wp2_with fail
  go_quiet (fail)
  have hrq:=yA (zF.out.next (yI _ _ nq))
  go_wp2_with fail
  refine (vV _).out.mono ?_
  rintro e w1 ⟨rfl,rfl⟩
  obtain ⟨z0,z1,z2,l0,l1,l2,f0,f1,f2⟩:=hrq.out.slots
  have q3:=yA (hrq.out.put3 nl false none none 0 0 0 0).below
  go_wp2
  refine bodyPost_ret (v:=.tuple #[.agg #[.bool false,.slice none 0 0,.slice none 0 0],.bool false]) ?_ rfl ?_
  ·simp [results,Tryz.results68,go_sem,l0,l1,l2]<;>omega
  exact ⟨_,_,_,_,_,_,_,rfl,q3.out,fun h=>by cases h⟩
theorem yqM (s:ByteArray) (k:Nat) (q:Rat) (_sb:Bool) (_N0 _D0:Nat) (w:World) (hmax:(s.size:Int)≤100000) (hz:0<s.size) (neg:Bool) (s1:ByteArray) (yao:(s1=s∧neg=false∧(((s[0]'hz).toNat:Int)==45)=false)∨(s.extract 1 s.size=s1∧neg=true∧(((s[0]'hz).toNat:Int)==45)=true)) (yh7:(s1.size:Int)≤100000) (jY:∀ W,Hid (Calls Tryz.prog 123 #[.string s1,.int .i64 0] W (Qp (.int .i64 (k:Int)) W))) (hk0:((k:Int)==0)=false) (hks:((k:Int)==s1.size)=false) (hkl:k<s1.size) (ck:Nat) (hck:((s1[k]'hkl).toNat:Int)=(ck:Int)) (mo hd:ByteArray) (hmo:s1.extract (k+1) s1.size=mo) (_hhd:s1.extract 0 k=hd) (cm:Nat) (vV:∀ W,Hid (Calls Tryz.prog 123 #[.string mo,.int .i64 0] W (Qp (.int .i64 (cm:Int)) W))) (hb:((cm:Int) != mo.size)=false) (he:(mo.toList==[])=false) (_he2:¬ mo.toList=[]) (_he3:mo.toList.isEmpty=false) (h46:((ck:Int) != 46)=true) (h47:((ck:Int) != 47)=true):Calls Tryz.prog 68 #[.string s] w (zY q false w):=by
 rcases yao with ⟨rfl,rfl,hm⟩|⟨hs1,rfl,hm⟩
 all_goals
  have zF:=yA (Resa.start w)
  go_in
  go_wp2_with fail
  refine (jY _).out.mono ?_
  rintro e w1 ⟨rfl,rfl⟩
  have yrY:(k:Int)<s1.size:=by omega
  go_wp2_with fail
  go_quiet (fail)
  have hrq:=yA (zF.out.next (yI _ _ nq))
  go_wp2_with fail
  refine (vV _).out.mono ?_
  rintro e w1 ⟨rfl,rfl⟩
  obtain ⟨z0,z1,z2,l0,l1,l2,f0,f1,f2⟩:=hrq.out.slots
  have q3:=yA (hrq.out.put3 nl false none none 0 0 0 0).below
  go_wp2
  refine bodyPost_ret (v:=.tuple #[.agg #[.bool false,.slice none 0 0,.slice none 0 0],.bool false]) ?_ rfl ?_
  ·simp [results,Tryz.results68,go_sem,l0,l1,l2]<;>omega
  exact ⟨_,_,_,_,_,_,_,rfl,q3.out,fun h=>by cases h⟩
theorem yqN (s:ByteArray) (k:Nat) (q:Rat) (sb:Bool) (N0 D0:Nat) (w:World) (hmax:(s.size:Int)≤100000) (hz:0<s.size) (neg:Bool) (s1:ByteArray) (yao:(s1=s∧neg=false∧(((s[0]'hz).toNat:Int)==45)=false)∨(s.extract 1 s.size=s1∧neg=true∧(((s[0]'hz).toNat:Int)==45)=true)) (yh7:(s1.size:Int)≤100000) (jY:∀ W,Hid (Calls Tryz.prog 123 #[.string s1,.int .i64 0] W (Qp (.int .i64 (k:Int)) W))) (hk0:((k:Int)==0)=false) (hks:((k:Int)==s1.size)=false) (hkl:k<s1.size) (ck:Nat) (hck:((s1[k]'hkl).toNat:Int)=(ck:Int)) (mo hd:ByteArray) (hmo:s1.extract (k+1) s1.size=mo) (hhd:s1.extract 0 k=hd) (cm:Nat) (vV:∀ W,Hid (Calls Tryz.prog 123 #[.string mo,.int .i64 0] W (Qp (.int .i64 (cm:Int)) W))) (hb:((cm:Int) != mo.size)=false) (he:(mo.toList==[])=false) (_he2:¬ mo.toList=[]) (_he3:mo.toList.isEmpty=false) (h47:ck=47) (hD0:D0≠0) (ynQ:∀ W,Hid (Calls Tryz.prog 124 #[.string mo] W (zC D0 W))) (yjz:∀ W,Hid (Calls Tryz.prog 124 #[.string hd] W (zC N0 W))) (hqs:Hid (sb=decide (q.num<0))) (hmk:∀ W u v,yE W u N0→yE W v D0→Hid (Calls Tryz.prog 65 #[.bool neg,u,v] W (uJ q sb W))):Calls Tryz.prog 68 #[.string s] w (zY q true w):=by
 rcases yao with ⟨rfl,rfl,hm⟩|⟨hs1,rfl,hm⟩
 all_goals
  subst h47
  have zF:=yA (Resa.start w)
  go_in
  go_wp2_with fail
  refine (jY _).out.mono ?_
  rintro e w1 ⟨rfl,rfl⟩
  have yrY:(k:Int)<s1.size:=by omega
  go_wp2_with fail
  go_quiet (fail)
  have hrq:=yA (zF.out.next (yI _ _ nq))
  go_wp2_with fail
  refine (vV _).out.mono ?_
  rintro e w1 ⟨rfl,rfl⟩
  go_wp2_with fail
  refine (ynQ _).out.mono ?_
  rintro e w2 ⟨v2,rfl,hv2,hb2,-⟩
  obtain ⟨p2,n2,c2,rfl⟩:=hv2.slice
  have hr2:=yA (hrq.out.next hb2)
  have Hv2:=yA hv2
  have hn3:0<n2:=by have h:=hv2.zero_iff (n:=n2);omega
  have hn2:(0:Int)<n2:=by omega
  clear hv2 hb2
  go_wp2_with fail
  refine (yjz _).out.mono ?_
  rintro e w3 ⟨v3,rfl,hv3,hb3,-⟩
  obtain ⟨p3,n3,c3,rfl⟩:=hv3.slice
  have HR:=yA (hr2.out.next hb3)
  have hm3:=hmk w3 _ _ hv3 (Hv2.out.below hb3)
  clear hv3 hb3 hr2
  go_wp2_with fail
  refine hm3.out.mono ?_
  rintro e wM ⟨pr,nr,cr,pq,nq,cq,rfl,hr1,hr2,hbM⟩
  have hrz:=yA (HR.out.next hbM)
  have Hr1:=yA hr1
  have Hr2:=yA hr2
  obtain ⟨z0,z1,z2,l0,l1,l2,f0,f1,f2⟩:=hrz.out.slots
  clear hr1 hr2 hbM
  go_wp2_with fail
  have yD:=yA (hrz.out.fin nl hqs.out Hr1.out Hr2.out)
  refine bodyPost_ret (v:=.tuple #[.agg #[.bool sb,.slice pr nr cr,.slice pq nq cq],.bool true]) ?_ rfl ?_
  ·simp [results,Tryz.results68,go_sem,l0,l1,l2]<;>omega
  obtain ⟨x,hx,hq,hb⟩:=yD.out
  cases hx
  exact ⟨_,_,_,_,_,_,_,rfl,hb,fun _=>hq⟩
theorem yqO (s:ByteArray) (k:Nat) (q:Rat) (sb:Bool) (N0 D0:Nat) (w:World) (hmax:(s.size:Int)≤100000) (hz:0<s.size) (neg:Bool) (s1:ByteArray) (yao:(s1=s∧neg=false∧(((s[0]'hz).toNat:Int)==45)=false)∨(s.extract 1 s.size=s1∧neg=true∧(((s[0]'hz).toNat:Int)==45)=true)) (yh7:(s1.size:Int)≤100000) (jY:∀ W,Hid (Calls Tryz.prog 123 #[.string s1,.int .i64 0] W (Qp (.int .i64 (k:Int)) W))) (hk0:((k:Int)==0)=false) (hks:((k:Int)==s1.size)=false) (hkl:k<s1.size) (ck:Nat) (hck:((s1[k]'hkl).toNat:Int)=(ck:Int)) (mo hd:ByteArray) (hmo:s1.extract (k+1) s1.size=mo) (hhd:s1.extract 0 k=hd) (cm:Nat) (vV:∀ W,Hid (Calls Tryz.prog 123 #[.string mo,.int .i64 0] W (Qp (.int .i64 (cm:Int)) W))) (hb:((cm:Int) != mo.size)=false) (he:(mo.toList==[])=false) (_he2:¬ mo.toList=[]) (_he3:mo.toList.isEmpty=false) (h47:ck=47) (hD0:D0=0) (ynQ:∀ W,Hid (Calls Tryz.prog 124 #[.string mo] W (zC D0 W))) (yjz:∀ W,Hid (Calls Tryz.prog 124 #[.string hd] W (zC N0 W))) (hqs:Hid (sb=decide (q.num<0))) (hmk:∀ W u v,yE W u N0→yE W v D0→Hid (Calls Tryz.prog 65 #[.bool neg,u,v] W (uJ q sb W))):Calls Tryz.prog 68 #[.string s] w (zY q false w):=by
 rcases yao with ⟨rfl,rfl,hm⟩|⟨hs1,rfl,hm⟩
 all_goals
  subst h47
  have zF:=yA (Resa.start w)
  go_in
  go_wp2_with fail
  refine (jY _).out.mono ?_
  rintro e w1 ⟨rfl,rfl⟩
  have yrY:(k:Int)<s1.size:=by omega
  go_wp2_with fail
  go_quiet (fail)
  have hrq:=yA (zF.out.next (yI _ _ nq))
  go_wp2_with fail
  refine (vV _).out.mono ?_
  rintro e w1 ⟨rfl,rfl⟩
  go_wp2_with fail
  refine (ynQ _).out.mono ?_
  rintro e w2 ⟨v2,rfl,hv2,hb2,-⟩
  obtain ⟨p2,n2,c2,rfl⟩:=hv2.slice
  have hr2:=yA (hrq.out.next hb2)
  have Hv2:=yA hv2
  have hn3:n2=0:=by have h:=hv2.zero_iff (n:=n2);omega
  subst hn3
  clear hv2 hb2
  go_wp2_with fail
  refine (yjz _).out.mono ?_
  rintro e w3 ⟨v3,rfl,hv3,hb3,-⟩
  obtain ⟨p3,n3,c3,rfl⟩:=hv3.slice
  have HR:=yA (hr2.out.next hb3)
  have hm3:=hmk w3 _ _ hv3 (Hv2.out.below hb3)
  clear hv3 hb3 hr2
  go_wp2_with fail
  refine hm3.out.mono ?_
  rintro e wM ⟨pr,nr,cr,pq,nq,cq,rfl,hr1,hr2,hbM⟩
  have hrz:=yA (HR.out.next hbM)
  have Hr1:=yA hr1
  have Hr2:=yA hr2
  obtain ⟨z0,z1,z2,l0,l1,l2,f0,f1,f2⟩:=hrz.out.slots
  clear hr1 hr2 hbM
  go_wp2_with fail
  have yD:=yA (hrz.out.fin nl hqs.out Hr1.out Hr2.out)
  refine bodyPost_ret (v:=.tuple #[.agg #[.bool sb,.slice pr nr cr,.slice pq nq cq],.bool false]) ?_ rfl ?_
  ·simp [results,Tryz.results68,go_sem,l0,l1,l2]<;>omega
  obtain ⟨x,hx,hq,hb⟩:=yD.out
  cases hx
  exact ⟨_,_,_,_,_,_,_,rfl,hb,fun _=>hq⟩
theorem ytQ (s:ByteArray) (k:Nat) (q:Rat) (sb:Bool) (N0 D0:Nat) (w:World) (hmax:(s.size:Int)≤100000) (hz:0<s.size) (neg:Bool) (s1:ByteArray) (yao:(s1=s∧neg=false∧(((s[0]'hz).toNat:Int)==45)=false)∨(s.extract 1 s.size=s1∧neg=true∧(((s[0]'hz).toNat:Int)==45)=true)) (yh7:(s1.size:Int)≤100000) (jY:∀ W,Hid (Calls Tryz.prog 123 #[.string s1,.int .i64 0] W (Qp (.int .i64 (k:Int)) W))) (hk0:((k:Int)==0)=false) (hks:((k:Int)==s1.size)=false) (hkl:k<s1.size) (ck:Nat) (hck:((s1[k]'hkl).toNat:Int)=(ck:Int)) (mo hd:ByteArray) (hmo:s1.extract (k+1) s1.size=mo) (hhd:s1.extract 0 k=hd) (cm:Nat) (vV:∀ W,Hid (Calls Tryz.prog 123 #[.string mo,.int .i64 0] W (Qp (.int .i64 (cm:Int)) W))) (hb:((cm:Int) != mo.size)=false) (he:(mo.toList==[])=false) (_he2:¬ mo.toList=[]) (_he3:mo.toList.isEmpty=false) (h46:ck=46) (GV:Hid (mo.data.toList.all yJ=true)) (hsz:(mo.size:Int)≤100000) (hszh:(hd.size:Int)≤100000) (hD0:Hid (D0=10^mo.size)) (yjz:∀ W,Hid (Calls Tryz.prog 124 #[.string (hd++mo)] W (zC N0 W))) (hqs:Hid (sb=decide (q.num<0))) (hmk:∀ W u v,yE W u N0→yE W v D0→Hid (Calls Tryz.prog 65 #[.bool neg,u,v] W (uJ q sb W))):Calls Tryz.prog 68 #[.string s] w (zY q true w):=by
 rcases yao with ⟨rfl,rfl,hm⟩|⟨hs1,rfl,hm⟩
 all_goals
  subst h46
  have zX:∀ W,Hid (Calls Tryz.prog 67 #[] W (zC 1 W)):=fun W=>yA (ybk W)
  have hten:∀ W,Hid (Calls Tryz.prog 66 #[.int .u64 10] W (zC 10 W)):=fun W=>yA (yaW 10 W (by omega))
  have zF:=yA (Resa.start w)
  go_in
  go_wp2_with fail
  refine (jY _).out.mono ?_
  rintro e w1 ⟨rfl,rfl⟩
  have yrY:(k:Int)<s1.size:=by omega
  go_wp2_with fail
  go_quiet (fail)
  have hrq:=yA (zF.out.next (yI _ _ nq))
  go_wp2_with fail
  refine (vV _).out.mono ?_
  rintro e w1 ⟨rfl,rfl⟩
  go_wp2_with fail
  refine (zX _).out.mono ?_
  rintro e w2 ⟨v2,rfl,hv2,hb2,-⟩
  obtain ⟨p2,n2,c2,rfl⟩:=hv2.slice
  have hr2:=hrq.out.next hb2
  have hst:Hid (DotAt w (w2.iter mo 0) w2.heap.size mo 0 (.slice p2 n2 c2)):=yA ⟨by rw [Nat.pow_zero];exact hv2.below (yC _ _),World.iter_heap _ _ _,hr2.next (yC _ _),by have:=hr2.size;omega,Nat.zero_le _⟩
  clear hv2 hb2 hr2
  go_wp2
  go_loopw [9] (fun dv w3=>∃ (pos:Nat) (pd:Oa) (nd cd:Nat),dv=.slice pd nd cd∧Hid (DotAt w w3 w2.heap.size mo pos dv)) (fun _ w3=>mo.size-w3.iterPos w2.heap.size)
  case atStart=>exact ⟨0,_,_,_,rfl,hst⟩
  case round =>
   obtain ⟨pos,pd,nd,cd,rfl,hat⟩:=hrel
   by_cases hp:pos<mo.size
   ·have hasc:(mo[pos]'hp).toNat<128:=by
     have h1:yJ (mo[pos]'hp)=true:=List.all_eq_true.1 GV.out _ (List.getElem_mem (by simpa using hp):mo.data.toList[pos]'(by simpa using hp) ∈ _)
     simp [yJ] at h1;omega
    have hnx:∀ ty,(Instr.next (.pointer (some ⟨w2.heap.size,0,none⟩)) true ty).run Tryz.prog wr=_:=fun ty=>ywf wr w2.heap.size mo pos ty hat.out.it hp hasc
    have hd1:=yA (hat.out.nat.iter hat.out.it (pos+1))
    have hps:Hid (pos≤100000):=yA (by omega)
    clear hasc
    go_wp2_with fail
    refine (hten _).out.mono ?_
    rintro e w5 ⟨v5,rfl,hv5,hb5,-⟩
    obtain ⟨p5,n5,c5,rfl⟩:=hv5.slice
    have hm5:Hid (Calls Tryz.prog 70 #[.slice pd nd cd,.slice p5 n5 c5] w5 (zC (10^pos*10) w5)):=yA (jN _ _ _ _ (pos+1) 1 w5 (by have:=hps.out;unfold yF;omega) (by unfold yF;omega) (ytO pos) (by rw [Nat.pow_one,zA];omega) (hd1.out.below hb5) hv5)
    have Hb5:=yA hb5
    clear hv5 hb5
    go_wp2_with fail
    refine hm5.out.mono ?_
    rintro e w6 ⟨v6,rfl,hv6,hb6,-⟩
    obtain ⟨p6,n6,c6,rfl⟩:=hv6.slice
    have jB:Hid (DotAt w w6 w2.heap.size mo (pos+1) (.slice p6 n6 c6)):=yA (hat.out.step hp (tr Hb5.out hb6) (by rw [Nat.pow_succ];exact hv6))
    have ycx:Hid (mo.size-w6.iterPos w2.heap.size<mo.size-wr.iterPos w2.heap.size):=yA (by
     have h1:=jB.out.it
     have h2:=hat.out.it
     simp only [World.iterPos,h1,h2];omega)
    clear hv6 hb6
    go_wp2
    go_roundw
    case rel=>exact ⟨pos+1,_,_,_,rfl,jB⟩
    case measure=>exact ycx.out
   ·have hpe:pos=mo.size:=by have:=hat.out.le;omega
    have hnx:∀ ty,(Instr.next (.pointer (some ⟨w2.heap.size,0,none⟩)) true ty).run Tryz.prog wr=_:=fun ty=>ymo wr w2.heap.size mo pos ty hat.out.it hp
    have hdn:Hid (yE wr (.slice pd nd cd) D0):=yA (by rw [hD0.out,← hpe];exact hat.out.nat)
    clear hpe
    go_wp2_with fail
    refine (yjz _).out.mono ?_
    rintro e w7 ⟨v7,rfl,hv7,hb7,-⟩
    obtain ⟨p7,n7,c7,rfl⟩:=hv7.slice
    have HR:=yA (hat.out.res.next hb7)
    have hm3:=hmk w7 _ _ hv7 (hdn.out.below hb7)
    clear hv7 hb7
    go_wp2_with fail
    refine hm3.out.mono ?_
    rintro e wM ⟨pr,nr,cr,pq,nq,cq,rfl,hr1,hr2,hbM⟩
    have hrz:=yA (HR.out.next hbM)
    have Hr1:=yA hr1
    have Hr2:=yA hr2
    obtain ⟨z0,z1,z2,l0,l1,l2,f0,f1,f2⟩:=hrz.out.slots
    clear hr1 hr2 hbM
    go_wp2_with fail
    have yD:=yA (hrz.out.fin nl hqs.out Hr1.out Hr2.out)
    refine bodyPost_ret (v:=.tuple #[.agg #[.bool sb,.slice pr nr cr,.slice pq nq cq],.bool true]) ?_ rfl ?_
    ·simp [results,Tryz.results68,go_sem,l0,l1,l2]<;>omega
    obtain ⟨x,hx,hq,hb⟩:=yD.out
    cases hx
    exact ⟨_,_,_,_,_,_,_,rfl,hb,fun _=>hq⟩
theorem yiI (l:Lb) (x:UInt8):(x ∉ l∧Lib.cut l [x]=(l,[],false))∨∃ a b,l=a++x::b∧x ∉ a∧Lib.cut l [x]=(a,b,true):=by
 by_cases h:x ∈ l
 ·obtain ⟨a,b,e,ha⟩:=List.eq_append_cons_of_mem h
  exact .inr ⟨a,b,e,ha,by rw [e];exact yjf ha⟩
 ·exact .inl ⟨h,ycs h⟩
theorem ylq {a b:Lb} {x:UInt8} (ha:a.all yJ=true) (hx:yJ x=false):(a++x::b).takeWhile yJ=a:=by
 induction a with
 | nil=>simp [hx]
 | cons y l ih =>
  rw [List.all_cons,Bool.and_eq_true] at ha
  simp [ha.1,ih ha.2]
theorem yiJ {a b c d:Lb} {x y:UInt8} (ha:a.all yJ=true) (hx:yJ x=false) (hc:c.all yJ=true) (hy:yJ y=false) (h:a++x::b=c++y::d):a=c∧x=y∧b=d:=by
 have h1:=ylq (b:=b) ha hx
 have h2:=ylq (b:=d) hc hy
 rw [h,h2] at h1
 subst h1
 have:=List.append_cancel_left h
 simp at this
 exact ⟨rfl,this.1,this.2⟩
theorem yc7 {l:Lb} {x:UInt8} (hx:x ∈ l) (hn:yJ x=false):yY l=false:=by
 have:l.all yJ=false:=by rw [List.all_eq_false];exact ⟨x,hx,by simp [hn]⟩
 simp [yY,this]
theorem yd9 (hd mo:Lb) (c:UInt8) (hh:hd.all yJ=true) (hc:yJ c=false) :
  uT (hd++c::mo)=if c=46 then (if yY hd&&yY mo then some (zD (hd++mo),10^mo.length) else none) else if c=47 then (if yY hd&&yY mo&&!(zD mo==0) then some (zD hd,zD mo) else none) else none:=by
 have k1:yJ 46=false:=by decide
 have k2:yJ 47=false:=by decide
 unfold uT
 by_cases h46:c=46
 ·subst h46
  rw [if_pos rfl,yjf (ya6 hh k1)]
  rfl
 ·rw [if_neg h46]
  rcases yiI (hd++c::mo) 46 with ⟨hn,e⟩|⟨a,b,e,hna,e2⟩
  ·rw [e]
   simp only [Bool.false_eq_true,if_false]
   by_cases h47:c=47
   ·subst h47
    rw [if_pos rfl,yjf (ya6 hh k2)]
    rfl
   ·rw [if_neg h47]
    rcases yiI (hd++c::mo) 47 with ⟨hn2,e3⟩|⟨a,b,e3,hna,e4⟩
    ·rw [e3]
     simp only [Bool.false_eq_true,if_false]
     rw [yc7 (x:=c) (by simp) hc];rfl
    ·rw [e4]
     have:yY a=false:=by
      cases h:yY a with
      | false=>rfl
      | true =>
       have:=yiJ hh hc (jI h) k2 e3
       exact absurd this.2.1 h47
     rw [this];rfl
  ·rw [e2]
   have h1:yY a=false:=by
    cases h:yY a with
    | false=>rfl
    | true =>
     have:=yiJ hh hc (jI h) k1 e
     exact absurd this.2.1 h46
   have h2:yY mo=false:=by
    have hm:(46:UInt8) ∈ hd++c::mo:=by rw [e];simp
    have:(46:UInt8) ∈ mo:=by
     rcases List.mem_append.1 hm with h|h
     ·exact absurd h (ya6 hh k1)
     ·rcases List.mem_cons.1 h with h|h
      ·exact absurd h.symm h46
      ·exact h
    exact yc7 this k1
   rw [h1,h2]
   simp
theorem yhL (l:Lb) (h:yY l=true):uT l=some (zD l,1):=by
 have h1:=jI h
 unfold uT
 rw [ycs (ya6 h1 (by decide)),ycs (ya6 h1 (by decide))]
 simp [h]
theorem yiK (l:Lb) (h:vJ l<l.length):∃ (hd mo:Lb) (c:UInt8),l=hd++c::mo∧hd.length=vJ l∧hd.all yJ=true∧yJ c=false∧hd=l.take (vJ l)∧mo=l.drop (vJ l+1)∧l[vJ l]?=some c:=by
 have h1:l.takeWhile yJ++l.dropWhile yJ=l:=List.takeWhile_append_dropWhile
 cases hdw:l.dropWhile yJ with
 | nil=>rw [hdw,List.append_nil] at h1;unfold vJ at h;rw [h1] at h;omega
 | cons c mo =>
  rw [hdw] at h1
  have hc:yJ c=false:=by
   have:=List.head?_dropWhile_not yJ l
   rw [hdw] at this
   simpa using this
  have ha:(l.takeWhile yJ).all yJ=true:=List.all_takeWhile
  have hcn:vJ l=(l.takeWhile yJ).length:=rfl
  rw [hcn]
  generalize l.takeWhile yJ=hd at h1 ha
  subst h1
  exact ⟨hd,mo,c,rfl,rfl,ha,hc,by simp,by simp,by simp⟩
theorem yjL (l:Lb):vJ l=l.length↔l.all yJ=true:=by
 unfold vJ
 constructor
 ·intro h
  have h1:l.takeWhile yJ=l:=List.IsPrefix.eq_of_length (List.takeWhile_prefix yJ) h
  rw [← h1];exact List.all_takeWhile
 ·intro h
  have:l.takeWhile yJ=l:=by
   have:=yjg yJ l l.length nl (by rw [List.take_length];exact h) (.inl rfl)
   exact List.IsPrefix.eq_of_length (List.takeWhile_prefix yJ) this
  rw [this]
theorem ylr {l:Lb} {K:Nat} (GV:l.all yJ=true) (h:l.length≤9*K):zD l<B9^K:=by
 rw [yaA]
 exact Nat.lt_of_lt_of_le (ycL l GV) (Nat.pow_le_pow_right (by omega) h)
theorem ywi {K:Nat} (h:1≤K):1<B9^K:=uV (K:=1) (by rw [Nat.pow_one,zA];omega) h
theorem ywj {n K:Nat} (h:n<9*K):10^n<B9^K:=by
 rw [yaA];exact Nat.pow_lt_pow_right (by omega) h
def yft (o:Option (Bool × Nat × Nat)) (w:World) (e:Ending) (w':World):Prop:=match o with
 | some (sg,n,d)=>zY (yM sg n d) true w e w'
 | none=>∃ q,zY q false w e w'
theorem yhm (s:ByteArray) (w:World) (hmax:(s.size:Int)≤1000) (hz:0<s.size) (neg:Bool) (s1:ByteArray) (yao:(s1=s∧neg=false∧(((s[0]'hz).toNat:Int)==45)=false)∨(s.extract 1 s.size=s1∧neg=true∧(((s[0]'hz).toNat:Int)==45)=true)) (yh7:(s1.size:Int)≤1000) (o:Option (Nat × Nat)) (ho:uT s1.data.toList=o) :
  Calls Tryz.prog 68 #[.string s] w (yft (o.map fun p=>(neg,p.1,p.2)) w):=by
 have hmx:(s.size:Int)≤100000:=by omega
 obtain ⟨l,hl⟩:∃ l,s1.data.toList=l:=⟨_,rfl⟩
 have hll:l.length=s1.size:=by rw [← hl];simp
 rw [hl] at ho
 have jY:∀ W,Hid (Calls Tryz.prog 123 #[.string s1,.int .i64 0] W (Qp (.int .i64 ((vJ l:Nat):Int)) W)):=fun W=>yA (by rw [← hl];exact ygp s1 W (by omega))
 have hmk:∀ (N0 D0:Nat) (q:Rat) (sb:Bool),N0<B9^2000→D0<B9^2000→q=yM neg N0 D0→sb=decide (q.num<0)→∀ W u v,yE W u N0→yE W v D0→Hid (Calls Tryz.prog 65 #[.bool neg,u,v] W (uJ q sb W)):=by
  intro N0 D0 q sb h1 h2 h3 h4 W u v hu hv
  refine yA ((GR neg u v N0 D0 2000 W (by omega) h1 h2 hu hv).mono fun e w' h=>?_)
  rw [← h3] at h
  exact h.b h4
 have hlen:l.length≤1000:=by omega
 by_cases hk:vJ l=0
 ·have hnone:o=none:=by
   rw [← ho]
   by_cases h0:l=[]
   ·subst h0;rfl
   ·obtain ⟨hd,mo,c,e,h1,h2,h3,-,-,-⟩:=yiK l (by rw [hk];exact List.length_pos_iff.2 h0)
    rw [hk] at h1
    have:hd=[]:=List.eq_nil_of_length_eq_zero h1
    subst this
    rw [e,yd9 _ _ _ h2 h3]
    simp [yY]
  rw [hnone]
  exact (ywg s (vJ l) 0 false 0 0 w hmx hz neg s1 yao (by omega) jY hk).mono fun e w' h=>⟨_,h⟩
 ·have hk0:(((vJ l:Nat):Int)==0)=false:=by simp;omega
  by_cases hks:vJ l=l.length
  ·have GV:=(yjL l).1 hks
   have had:yY l=true:=by
    unfold yY;rw [GV]
    cases h:l with
    | nil=>rw [h] at hk;exact absurd rfl hk
    | cons x t=>rfl
   have hoo:o=some (zD l,1):=by rw [← ho];exact yhL l had
   rw [hoo]
   have hN:zD l<B9^2000:=ylr (K:=2000) GV (by omega)
   exact ywh s (vJ l) (yM neg (zD l) 1) _ (zD l) 1 w hmx hz neg s1 yao (by omega) jY hk0 (by rw [hks,hll];simp) (fun W=>yA (by rw [← hl];exact yca s1 W (by omega) (by rw [hl];exact GV))) (fun W=>yA (ybk W)) (yA rfl) (hmk _ _ _ _ hN (ywi (K:=2000) (by omega)) rfl rfl)
  ·have hlt:vJ l<l.length:=by
    have:vJ l≤l.length:=by unfold vJ;exact (List.takeWhile_prefix yJ).length_le
    omega
   obtain ⟨hd,mo,c,e,h1,h2,h3,h4,h5,h6⟩:=yiK l hlt
   have ynR:(((vJ l:Nat):Int)==s1.size)=false:=by rw [← hll];simp;omega
   have hkl:vJ l<s1.size:=by omega
   have hck:((s1[vJ l]'hkl).toNat:Int)=(c.toNat:Int):=by
    have:s1[vJ l]'hkl=c:=by
     subst hl
     rw [List.getElem?_eq_getElem (by simpa using hkl)] at h6
     exact Option.some.inj h6
    rw [this]
   obtain ⟨mb,hmb⟩:∃ mb,s1.extract (vJ l+1) s1.size=mb:=⟨_,rfl⟩
   obtain ⟨hb,hhb⟩:∃ hb,s1.extract 0 (vJ l)=hb:=⟨_,rfl⟩
   have lmb:mb.data.toList=mo:=by rw [← hmb,extract_to_end,hl,h5]
   have lhb:hb.data.toList=hd:=by rw [← hhb,extract_upto,hl,h4]
   have smb:mb.size=mo.length:=by rw [← lmb];simp
   have shb:hb.size=hd.length:=by rw [← lhb];simp
   have hle:l.length=hd.length+1+mo.length:=by rw [e];simp;omega
   have vV:∀ W,Hid (Calls Tryz.prog 123 #[.string mb,.int .i64 0] W (Qp (.int .i64 ((vJ mo:Nat):Int)) W)):=fun W=>yA (by rw [← lmb];exact ygp mb W (by omega))
   have hsp:=yd9 hd mo c h2 h3
   rw [← e,ho] at hsp
   have had:yY hd=true:=by
    unfold yY;rw [h2]
    cases h:hd with
    | nil=>rw [h] at h1;exact absurd h1.symm hk
    | cons x t=>rfl
   by_cases hcm:vJ mo=mo.length
   ·have yh8:=(yjL mo).1 hcm
    by_cases hm0:mo=[]
    ·have hoo:o=none:=by
      rw [hsp,hm0];simp [yY]
     rw [hoo]
     exact (yqL s (vJ l) 0 false 0 0 w hmx hz neg s1 yao (by omega) jY hk0 ynR hkl c.toNat hck mb hb hmb hhb (vJ mo) vV (by rw [hcm,hm0];rfl) (ylx (by rw [lmb,hm0]))).mono fun e w' h=>⟨_,h⟩
    ·have hmd:yY mo=true:=by
      unfold yY;rw [yh8]
      cases h:mo with
      | nil=>exact absurd h hm0
      | cons x t=>rfl
     have yvh:(((vJ mo:Nat):Int) != mb.size)=false:=by rw [hcm,smb];simp
     have ltl:mb.toList=mo:=by rw [Lib.toList_data];exact lmb
     have e1:(mb.toList==[])=false:=by rw [ltl,beq_eq_false_iff_ne];exact hm0
     have e2:¬ mb.toList=[]:=by rw [ltl];exact hm0
     have e3:mb.toList.isEmpty=false:=by rw [ltl];cases h:mo with|nil=>exact absurd h hm0|cons x t=>rfl
     have yrZ:∀ x:Lb,x.all yJ=true→x.length≤1000→zD x<B9^2000:=fun x hx hxl=>ylr (K:=2000) hx (by omega)
     by_cases h47:c=47
     ·have h46:¬ c=46:=by rw [h47];decide
      rw [if_neg h46,if_pos h47,had,hmd] at hsp
      have ynQ:∀ W,Hid (Calls Tryz.prog 124 #[.string mb] W (zC (zD mo) W)):=fun W=>yA (by rw [← lmb];exact yca mb W (by omega) (by rw [lmb];exact yh8))
      have yjz:∀ W,Hid (Calls Tryz.prog 124 #[.string hb] W (zC (zD hd) W)):=fun W=>yA (by rw [← lhb];exact yca hb W (by omega) (by rw [lhb];exact h2))
      have hc47:c.toNat=47:=by rw [h47];rfl
      by_cases hd0:zD mo=0
      ·have hoo:o=none:=by rw [hsp,hd0];rfl
       rw [hoo]
       exact (yqO s (vJ l) _ _ (zD hd) (zD mo) w hmx hz neg s1 yao (by omega) jY hk0 ynR hkl c.toNat hck mb hb hmb hhb (vJ mo) vV yvh e1 e2 e3 hc47 hd0 ynQ yjz (yA rfl) (hmk _ _ _ _ (yrZ hd h2 (by omega)) (yrZ mo yh8 (by omega)) rfl rfl)).mono fun e w' h=>⟨_,h⟩
      ·have hoo:o=some (zD hd,zD mo):=by
        rw [hsp]
        have:(zD mo==0)=false:=by simpa using hd0
        rw [this];rfl
       rw [hoo]
       exact yqN s (vJ l) _ _ (zD hd) (zD mo) w hmx hz neg s1 yao (by omega) jY hk0 ynR hkl c.toNat hck mb hb hmb hhb (vJ mo) vV yvh e1 e2 e3 hc47 hd0 ynQ yjz (yA rfl) (hmk _ _ _ _ (yrZ hd h2 (by omega)) (yrZ mo yh8 (by omega)) rfl rfl)
     ·by_cases h46:c=46
      ·rw [if_pos h46,had,hmd] at hsp
       have hoo:o=some (zD (hd++mo),10^mo.length):=hsp
       rw [hoo]
       have hboth:(hd++mo).all yJ=true:=by rw [List.all_append,h2,yh8];rfl
       have lhm:(hb++mb).data.toList=hd++mo:=by simp [lhb,lmb]
       have shm:(hb++mb).size=hd.length+mo.length:=by simp [shb,smb]
       have hrd:∀ W,Hid (Calls Tryz.prog 124 #[.string (hb++mb)] W (zC (zD (hd++mo)) W)):=fun W=>yA (by rw [← lhm];exact yca (hb++mb) W (by rw [shm];omega) (by rw [lhm];exact hboth))
       exact ytQ s (vJ l) _ _ (zD (hd++mo)) (10^mo.length) w hmx hz neg s1 yao (by omega) jY hk0 ynR hkl c.toNat hck mb hb hmb hhb (vJ mo) vV yvh e1 e2 e3 (by rw [h46];rfl) (yA (by rw [lmb];exact yh8)) (by omega) (by omega) (yA (by rw [smb])) hrd (yA rfl) (hmk _ _ _ _ (yrZ _ hboth (by rw [List.length_append];omega)) (ywj (K:=2000) (by omega)) rfl rfl)
      ·rw [if_neg h46,if_neg h47] at hsp
       rw [hsp]
       have n46:((c.toNat:Int) != 46)=true:=by
        have:c.toNat≠46:=fun h=>h46 (UInt8.toNat_inj.1 h)
        simp;omega
       have n47:((c.toNat:Int) != 47)=true:=by
        have:c.toNat≠47:=fun h=>h47 (UInt8.toNat_inj.1 h)
        simp;omega
       exact (yqM s (vJ l) 0 false 0 0 w hmx hz neg s1 yao (by omega) jY hk0 ynR hkl c.toNat hck mb hb hmb hhb (vJ mo) vV yvh e1 e2 e3 n46 n47).mono fun e w' h=>⟨_,h⟩
   ·have hmd:yY mo=false:=by
     cases h:yY mo with
     | false=>rfl
     | true=>exact absurd ((yjL mo).2 (jI h)) hcm
    have hoo:o=none:=by
     rw [hsp,hmd];simp
    rw [hoo]
    exact (ytP s (vJ l) 0 false 0 0 w hmx hz neg s1 yao (by omega) jY hk0 ynR hkl c.toNat hck mb hb hmb hhb (vJ mo) vV (by rw [smb];simp;omega)).mono fun e w' h=>⟨_,h⟩
theorem yiL (s:ByteArray) (w:World) (hmax:(s.size:Int)≤1000):Calls Tryz.prog 68 #[.string s] w (yft (yaa s.data.toList) w):=by
 by_cases hz:s.size=0
 ·have hl:s.data.toList=[]:=List.eq_nil_of_length_eq_zero (by simpa using hz)
  have:yaa s.data.toList=none:=by rw [hl];rfl
  rw [this]
  have hc:vJ s.data.toList=0:=by rw [hl];rfl
  exact (yhl s 0 0 false 0 0 w (by omega) hz (fun W=>yA (by have h:=ygp s W (by omega);rw [hc] at h;exact h)) rfl).mono fun e w' h=>⟨_,h⟩
 ·have hz0:0<s.size:=by omega
  have hl0:0<s.data.toList.length:=by simpa using hz0
  obtain ⟨x,t,hl⟩:∃ x t,s.data.toList=x::t:=by
   cases h:s.data.toList with
   | nil=>rw [h] at hl0;simp at hl0
   | cons x t=>exact ⟨x,t,rfl⟩
  have hx:s[0]'hz0=x:=by
   have h1:s.data.toList[0]'hl0=s[0]'hz0:=rfl
   rw [← h1];simp only [hl];rfl
  by_cases h45:x=45
  ·have hr:yaa s.data.toList=(uT (s.extract 1 s.size).data.toList).map fun p=>(true,p.1,p.2):=by
    rw [extract_to_end]
    unfold yaa Lib.trimPrefix
    have:Lib.hasPrefix s.data.toList [45]=true:=by rw [hl,h45];simp [Lib.hasPrefix,List.isPrefixOf]
    rw [this];rfl
   rw [hr]
   exact yhm s w hmax hz0 true _ (.inr ⟨rfl,rfl,by rw [hx,h45];rfl⟩) (by
    have:(s.extract 1 s.size).size=s.size-1:=by
     simp
    omega) _ rfl
  ·have hp:Lib.hasPrefix s.data.toList [45]=false:=by
    rw [hl]
    have:((45:UInt8)==x)=false:=by rw [beq_eq_false_iff_ne];exact fun h=>h45 h.symm
    simp [Lib.hasPrefix,List.isPrefixOf,this]
   have hr:yaa s.data.toList=(uT s.data.toList).map fun p=>(false,p.1,p.2):=by
    unfold yaa Lib.trimPrefix
    rw [hp];rfl
   rw [hr]
   exact yhm s w hmax hz0 false s (.inl ⟨rfl,rfl,by
    rw [hx]
    have:x.toNat≠45:=fun h=>h45 (UInt8.toNat_inj.1 h)
    simp;omega⟩) hmax _ rfl
def ybW (q:Rat) (f:Bool) (w:World) (e:Ending) (w':World):Prop:=∃ b p n c p2 n2 c2,e=.returned (.tuple #[.agg #[.bool b,.slice p n c,.slice p2 n2 c2],.bool f])∧Be w w'∧jL w' (.agg #[.bool b,.slice p n c,.slice p2 n2 c2]) q
theorem ybW.flag {q:Rat} {f:Bool} {w w':World} {e:Ending} (h:ybW q f w e w'):zY q f w e w':=by
 obtain ⟨b,p,n,c,p2,n2,c2,he,hb,hq⟩:=h
 exact ⟨b,p,n,c,p2,n2,c2,he,hb,fun _=>hq⟩
theorem yqP (s:ByteArray) (w:World) (h82:(82:Int)<s.size):Calls Tryz.prog 31 #[.string s] w (ybW 0 false w):=by
 have zF:=yA (Resa.start w)
 go_in
 go_wp2
 refine bodyPost_ret (v:=.tuple #[.agg #[.bool false,.slice none 0 0,.slice none 0 0],.bool false]) ?h1 rfl ?h2
 case h1=>simp [results,Tryz.results31,go_sem]
 exact ⟨_,_,_,_,_,_,_,rfl,zF.out.below,jL.zero _⟩
theorem yqQ (s:ByteArray) (w:World) (h82:(s.size:Int)≤82) (hpl:∀ W,Hid (Calls Tryz.prog 68 #[.string s] W (yft none W))):Calls Tryz.prog 31 #[.string s] w (ybW 0 false w):=by
 have zF:=yA (Resa.start w)
 go_in
 go_wp2_with fail
 refine (hpl _).out.mono ?_
 rintro e w1 ⟨q1,b,p,n,c,p2,n2,c2,rfl,hb1,-⟩
 have hr2:=yA ((zF.out.next hb1).next (yC w1 (.cells #[.bool b,.slice p n c,.slice p2 n2 c2] 59)))
 obtain ⟨z0,z1,z2,l0,l1,l2,f0,f1,f2⟩:=hr2.out.slots
 have q3:=yA (hr2.out.put3 nl false none none 0 0 0 0).below
 clear hb1
 go_wp2
 refine bodyPost_ret (v:=.tuple #[.agg #[.bool false,.slice none 0 0,.slice none 0 0],.bool false]) ?h1 rfl ?h2
 case h1=>simp [results,Tryz.results31,go_sem,l0,l1,l2]
 exact ⟨_,_,_,_,_,_,_,rfl,q3.out,jL.zero _⟩
theorem yx9 (s y:ByteArray) (q:Rat) (w:World) (h82:(s.size:Int)≤82) (hpl:∀ W,Hid (Calls Tryz.prog 68 #[.string s] W (zY q true W))) (htx:∀ W x,jL W x q→Hid (Calls Tryz.prog 69 #[x] W (Rp (.tuple #[.string y,.bool true]) W))) (he:(y.toList==s.toList)=true):Calls Tryz.prog 31 #[.string s] w (zY q true w):=by
 have zF:=yA (Resa.start w)
 go_in
 go_wp2_with fail
 refine (hpl _).out.mono ?_
 rintro e w1 ⟨b,p,n,c,p2,n2,c2,rfl,hb1,hq⟩
 have hr1:=zF.out.next hb1
 have hq1:=hq rfl
 have hr2:=yA (hr1.next (yC w1 (.cells #[.bool b,.slice p n c,.slice p2 n2 c2] 59)))
 have hq2:=yA (hq1.below (yC w1 (.cells #[.bool b,.slice p n c,.slice p2 n2 c2] 59)))
 have hbx:Hid ((w1.alloc (.cells #[.bool b,.slice p n c,.slice p2 n2 c2] 59)).heap[w1.heap.size]?=some (.cells #[.bool b,.slice p n c,.slice p2 n2 c2] 59 (0,0))):=yA (zB _ _)
 have ht:=htx _ _ hq2.out
 clear hb1 hq hr1 hq1
 go_wp2_with fail
 refine ht.out.mono ?_
 rintro e w3 ⟨rfl,hb3⟩
 have hr3:=yA (hr2.out.next hb3)
 have hq3:=hq2.out.below hb3
 have ycJ:w3.heap[w1.heap.size]?=some (.cells #[.bool b,.slice p n c,.slice p2 n2 c2] 59 (0,0)):=(hb3.block _ (by simp)).trans hbx.out
 have c0:=zO ycJ 0
 have c1:=zO ycJ 1
 have c2':=zO ycJ 2
 obtain ⟨z0,z1,z2,l0,l1,l2,f0,f1,f2⟩:=hr3.out.slots
 obtain ⟨u,v,he,hu,hv⟩:=hq3
 cases he
 have yD:=yA (hr3.out.fin nl rfl hu hv)
 obtain ⟨sb,hsb⟩:∃ sb,Hid (sb=decide (q.num<0)):=⟨_,yA rfl⟩
 rw [← hsb.out] at yD c0 ycJ
 rw [← hsb.out]
 clear ycJ hb3 hu hv ht
 go_wp2
 refine bodyPost_ret (v:=.tuple #[.agg #[.bool sb,.slice p n c,.slice p2 n2 c2],.bool true]) ?h1 rfl ?h2
 case h1=>simp [results,Tryz.results31,go_sem,l0,l1,l2]
 obtain ⟨x,hx,hq,hb⟩:=yD.out
 cases hx
 exact ⟨_,_,_,_,_,_,_,rfl,hb,fun _=>hq⟩
theorem ywk (s y:ByteArray) (q:Rat) (w:World) (h82:(s.size:Int)≤82) (hpl:∀ W,Hid (Calls Tryz.prog 68 #[.string s] W (zY q true W))) (htx:∀ W x,jL W x q→Hid (Calls Tryz.prog 69 #[x] W (Rp (.tuple #[.string y,.bool true]) W))) (he:(y.toList==s.toList)=false):Calls Tryz.prog 31 #[.string s] w (ybW q false w):=by
 have zF:=yA (Resa.start w)
 go_in
 go_wp2_with fail
 refine (hpl _).out.mono ?_
 rintro e w1 ⟨b,p,n,c,p2,n2,c2,rfl,hb1,hq⟩
 have hr1:=zF.out.next hb1
 have hq1:=hq rfl
 have hr2:=yA (hr1.next (yC w1 (.cells #[.bool b,.slice p n c,.slice p2 n2 c2] 59)))
 have hq2:=yA (hq1.below (yC w1 (.cells #[.bool b,.slice p n c,.slice p2 n2 c2] 59)))
 have hbx:Hid ((w1.alloc (.cells #[.bool b,.slice p n c,.slice p2 n2 c2] 59)).heap[w1.heap.size]?=some (.cells #[.bool b,.slice p n c,.slice p2 n2 c2] 59 (0,0))):=yA (zB _ _)
 have ht:=htx _ _ hq2.out
 clear hb1 hq hr1 hq1
 go_wp2_with fail
 refine ht.out.mono ?_
 rintro e w3 ⟨rfl,hb3⟩
 have hr3:=yA (hr2.out.next hb3)
 have hq3:=hq2.out.below hb3
 have ycJ:w3.heap[w1.heap.size]?=some (.cells #[.bool b,.slice p n c,.slice p2 n2 c2] 59 (0,0)):=(hb3.block _ (by simp)).trans hbx.out
 have c0:=zO ycJ 0
 have c1:=zO ycJ 1
 have c2':=zO ycJ 2
 obtain ⟨z0,z1,z2,l0,l1,l2,f0,f1,f2⟩:=hr3.out.slots
 obtain ⟨u,v,he,hu,hv⟩:=hq3
 cases he
 have yD:=yA (hr3.out.fin nl rfl hu hv)
 obtain ⟨sb,hsb⟩:∃ sb,Hid (sb=decide (q.num<0)):=⟨_,yA rfl⟩
 rw [← hsb.out] at yD c0 ycJ
 rw [← hsb.out]
 clear ycJ hb3 hu hv ht
 go_wp2
 refine bodyPost_ret (v:=.tuple #[.agg #[.bool sb,.slice p n c,.slice p2 n2 c2],.bool false]) ?h1 rfl ?h2
 case h1=>simp [results,Tryz.results31,go_sem,l0,l1,l2]
 obtain ⟨x,hx,hq,hb⟩:=yD.out
 cases hx
 exact ⟨_,_,_,_,_,_,_,rfl,hb,hq⟩
theorem ywl (s y:ByteArray) (q:Rat) (w:World) (h82:(s.size:Int)≤82) (hpl:∀ W,Hid (Calls Tryz.prog 68 #[.string s] W (zY q true W))) (htx:∀ W x,jL W x q→Hid (Calls Tryz.prog 69 #[x] W (Rp (.tuple #[.string y,.bool false]) W))) :Calls Tryz.prog 31 #[.string s] w (ybW q false w):=by
 have zF:=yA (Resa.start w)
 go_in
 go_wp2_with fail
 refine (hpl _).out.mono ?_
 rintro e w1 ⟨b,p,n,c,p2,n2,c2,rfl,hb1,hq⟩
 have hr1:=zF.out.next hb1
 have hq1:=hq rfl
 have hr2:=yA (hr1.next (yC w1 (.cells #[.bool b,.slice p n c,.slice p2 n2 c2] 59)))
 have hq2:=yA (hq1.below (yC w1 (.cells #[.bool b,.slice p n c,.slice p2 n2 c2] 59)))
 have hbx:Hid ((w1.alloc (.cells #[.bool b,.slice p n c,.slice p2 n2 c2] 59)).heap[w1.heap.size]?=some (.cells #[.bool b,.slice p n c,.slice p2 n2 c2] 59 (0,0))):=yA (zB _ _)
 have ht:=htx _ _ hq2.out
 clear hb1 hq hr1 hq1
 go_wp2_with fail
 refine ht.out.mono ?_
 rintro e w3 ⟨rfl,hb3⟩
 have hr3:=yA (hr2.out.next hb3)
 have hq3:=hq2.out.below hb3
 have ycJ:w3.heap[w1.heap.size]?=some (.cells #[.bool b,.slice p n c,.slice p2 n2 c2] 59 (0,0)):=(hb3.block _ (by simp)).trans hbx.out
 have c0:=zO ycJ 0
 have c1:=zO ycJ 1
 have c2':=zO ycJ 2
 obtain ⟨z0,z1,z2,l0,l1,l2,f0,f1,f2⟩:=hr3.out.slots
 obtain ⟨u,v,he,hu,hv⟩:=hq3
 cases he
 have yD:=yA (hr3.out.fin nl rfl hu hv)
 obtain ⟨sb,hsb⟩:∃ sb,Hid (sb=decide (q.num<0)):=⟨_,yA rfl⟩
 rw [← hsb.out] at yD c0 ycJ
 rw [← hsb.out]
 clear ycJ hb3 hu hv ht
 go_wp2
 refine bodyPost_ret (v:=.tuple #[.agg #[.bool sb,.slice p n c,.slice p2 n2 c2],.bool false]) ?h1 rfl ?h2
 case h1=>simp [results,Tryz.results31,go_sem,l0,l1,l2]
 obtain ⟨x,hx,hq,hb⟩:=yD.out
 cases hx
 exact ⟨_,_,_,_,_,_,_,rfl,hb,hq⟩
def ypH (o:Option Rat) (w:World) (e:Ending) (w':World):Prop:=match o with
 | some q=>zY q true w e w'
 | none=>∃ q,zY q false w e w'
theorem ytR {l:Lb} {s:Bool} {n d:Nat} (h:yaa l=some (s,n,d)) (hl:l.length≤82):uA 10 (yM s n d)∧0<d:=by
 unfold yaa at h
 rw [Option.map_eq_some_iff] at h
 obtain ⟨⟨n',d'⟩,h1,h2⟩:=h
 simp only [Prod.mk.injEq] at h2
 rw [h2.2.1,h2.2.2] at h1
 have hd:=yf4 h1
 refine ⟨?_,hd⟩
 have h3:n<B9^10∧d<B9^10:=by
  have e9:B9^10=10^90:=by rw [yaA]
  rw [e9]
  have hle:(Lib.trimPrefix l [45]).length≤82:=Nat.le_trans (yg5 l) hl
  generalize Lib.trimPrefix l [45]=m at h1 hle
  have hdv:∀ x:Lb,yY x=true→x.length≤82→zD x<10^90:=fun x hx hxl =>
   Nat.lt_of_lt_of_le (ycL x (jI hx)) (Nat.pow_le_pow_right (by omega) (by omega))
  obtain ⟨k1,k2,k3⟩:=ydw m 46
  obtain ⟨m1,m2,m3⟩:=ydw m 47
  unfold uT at h1
  split at h1
  ·split at h1
   ·rename_i hdd
    rw [Bool.and_eq_true] at hdd
    simp only [Option.some.injEq,Prod.mk.injEq] at h1
    obtain ⟨rfl,rfl⟩:=h1
    refine ⟨hdv _ ?_ (by rw [List.length_append];omega),Nat.pow_lt_pow_right (by omega) (by omega)⟩
    unfold yY
    rw [List.all_append,jI hdd.1,jI hdd.2]
    have:=hdd.1
    unfold yY at this
    simp at this ⊢
    intro h;exact absurd h this.2
   ·cases h1
  ·split at h1
   ·split at h1
    ·rename_i hdd
     rw [Bool.and_eq_true,Bool.and_eq_true] at hdd
     simp only [Option.some.injEq,Prod.mk.injEq] at h1
     obtain ⟨rfl,rfl⟩:=h1
     exact ⟨hdv _ hdd.1.1 (by omega),hdv _ hdd.1.2 (by omega)⟩
    ·cases h1
   ·split at h1
    ·rename_i hdd
     simp only [Option.some.injEq,Prod.mk.injEq] at h1
     obtain ⟨rfl,rfl⟩:=h1
     exact ⟨hdv _ hdd hle,Nat.one_lt_pow (by omega) (by omega)⟩
    ·cases h1
 have e:yM s n d=yM (s&&!(n==0)) n d:=(jX s n d).symm
 rw [e]
 exact ypI _ h3.1 h3.2 hd (by intro h;simp at h;omega)
theorem ymp {l:Lb} (h:yaa l=none):num l=none:=by
 unfold num yah;rw [h];split<;>rfl
theorem yya {l:Lb} {s:Bool} {n d:Nat} (h:yaa l=some (s,n,d)) (hl:l.length≤82) (hd:0<d):num l=if txt (yM s n d)=l then some (yM s n d) else none:=by
 unfold num yah
 rw [if_neg (by omega),h]
 have e:=ykk (s:=s) (a:=n) (b:=d) hd
 rw [jX] at e
 simp only [e]
 split
 ·simp [jX]
 ·rfl
theorem yjM (s:ByteArray) (w:World):Calls Tryz.prog 31 #[.string s] w (ypH (num s.data.toList) w):=by
 have hls:s.data.toList.length=s.size:=by simp
 by_cases h82:s.size≤82
 ·cases hr:yaa s.data.toList with
  | none =>
   rw [ymp hr]
   exact (yqQ s w (by omega) (fun W=>yA (by have h:=yiL s W (by omega);rw [hr] at h;exact h))).mono fun e w' h=>⟨_,h.flag⟩
  | some t =>
   obtain ⟨sg,n,d⟩:=t
   obtain ⟨hK,hd⟩:=ytR hr (by omega)
   rw [yya hr (by omega) hd]
   obtain ⟨y,hy⟩:∃ y:ByteArray,y=⟨(txt (yM sg n d)).toArray⟩:=⟨_,rfl⟩
   have hyl:y.data.toList=txt (yM sg n d):=by rw [hy]
   have hyl2:y.toList=txt (yM sg n d):=by rw [Lib.toList_data];exact hyl
   have hpl:∀ W,Hid (Calls Tryz.prog 68 #[.string s] W (zY (yM sg n d) true W)):=fun W=>yA (by have h:=yiL s W (by omega);rw [hr] at h;exact h)
   have htx:∀ f,f=(!(txt (yM sg n d)).isEmpty)→∀ W x,jL W x (yM sg n d)→Hid (Calls Tryz.prog 69 #[x] W (Rp (.tuple #[.string y,.bool f]) W)):=by
    rintro f rfl W x hx
    rw [hy];exact yA (ysK x _ 10 W (by omega) hK hx)
   have hne:s.data.toList≠[]:=by intro h;rw [h] at hr;cases hr
   cases hf:(txt (yM sg n d)).isEmpty with
   | true =>
    have h0:txt (yM sg n d)=[]:=List.isEmpty_iff.1 hf
    rw [if_neg (by rw [h0];exact fun h=>hne h.symm)]
    exact (ywl s y (yM sg n d) w (by omega) hpl (htx false (by rw [hf];rfl))).mono fun e w' h=>⟨_,h.flag⟩
   | false =>
    by_cases he:txt (yM sg n d)=s.data.toList
    ·rw [if_pos he]
     exact yx9 s y (yM sg n d) w (by omega) hpl (htx true (by rw [hf];rfl)) (by rw [hyl2,he,Lib.toList_data];simp)
    ·rw [if_neg he]
     exact (ywk s y (yM sg n d) w (by omega) hpl (htx true (by rw [hf];rfl)) (by rw [hyl2,Lib.toList_data,beq_eq_false_iff_ne];exact he)).mono fun e w' h=>⟨_,h.flag⟩
 ·have hn:num s.data.toList=none:=by unfold num yah;rw [if_pos (by omega)];rfl
  rw [hn]
  exact (yqP s w (by omega)).mono fun e w' h=>⟨_,h.flag⟩
def ye3 (q:Rat) (w:World) (e:Ending) (w':World):Prop:=∃ sb p n c p2 n2 c2,e=.returned (.agg #[.bool sb,.slice p n c,.slice p2 n2 c2])∧jL w' (.agg #[.bool sb,.slice p n c,.slice p2 n2 c2]) q∧Be w w'
theorem uF.c {q:Rat} {w w':World} {e:Ending} (h:uF q w e w'):ye3 q w e w':=by
 obtain ⟨x,rfl,hx,hb⟩:=h
 obtain ⟨p,n,c,p2,n2,c2,rfl,h1,h2⟩:=hx.slices
 exact ⟨_,p,n,c,p2,n2,c2,rfl,hx,hb⟩
theorem Keep.put3 {w0 W:World} {L:List Blk} {g:Nat} {z0 z1 z2:Value} {T:TypeId} (h:Keep w0 W ((g,#[z0,z1,z2],T)::L)) (hg:w0.heap.size≤g) (hne:∀ x ∈ L,x.1≠g) (a b c:Value) :
  Keep w0 (((W.setCell ⟨g,0,none⟩ a).setCell ⟨g,1,none⟩ b).setCell ⟨g,2,none⟩ c) ((g,#[a,b,c],T)::L) :=
 ((h.put hg hne 0 a).put hg hne 1 b).put hg hne 2 c
theorem yg6 (s:ByteArray) (o:Option Rat) (h:num s.data.toList=o) (W:World):Calls Tryz.prog 31 #[.string s] W (zY (o.getD 0) o.isSome W):=by
 have g:=yjM s W
 rw [h] at g
 cases o with
 | some q=>exact g
 | none=>exact g.mono fun e w' ⟨q,b,p,n,c,p2,n2,c2,h1,h2,_⟩=>⟨b,p,n,c,p2,n2,c2,h1,h2,fun h=>by cases h⟩
theorem jL.put3 {B:Nat} {w0 W:World} {x:Value} {r:Rat} (hq:jL W x r) (h:Resa B w0 W) (hB:w0.heap.size≤B) (a:Bool) (p q:Oa) (n c m d:Nat):jL (((W.setCell ⟨B,0,none⟩ (.bool a)).setCell ⟨B,1,none⟩ (.slice p n c)).setCell ⟨B,2,none⟩ (.slice q m d)) x r:=by
 obtain ⟨u,v,rfl,hu,hv⟩:=hq
 exact ⟨u,v,rfl,h.nat3 hB hu a p q n c m d,hv.imp (fun h2=>h.nat3 hB h2 a p q n c m d) fun h2=>⟨h.nat3 hB h2.1 a p q n c m d,h2.2⟩⟩
theorem ycM {l:Lb} {q:Rat} (h:num l=some q):uA 5 q:=by
 have hs:=yqX h
 unfold ykH at hs
 have hb:∀ n:Nat,nDigits n≤40→n<B9^5:=by
  intro n hn
  have h1:=ycL (decDigits n) (yaO n).1
  rw [(yaO n).2,decDigits_length] at h1
  rw [yaA]
  exact Nat.lt_of_lt_of_le h1 (Nat.pow_le_pow_right (by omega) (by omega))
 exact ⟨hb _ hs.1,hb _ hs.2⟩
theorem ycT {K:Nat} {q:Rat} {s:Bool} {a b:Nat} (h:yM s a b=q) (ha:a<B9^K) (hb:b<B9^K) (hb0:0<b):uA K q:=by
 rw [← h,← jX]
 exact ypI _ ha hb hb0 (by intro h;simp at h;omega)
theorem ytS (a b:Rat):∃ (s:Bool) (n:Nat),yM s n (a.den*b.den)=a+b∧n≤a.num.natAbs*b.den+b.num.natAbs*a.den:=by
 have e1:yM (decide (a.num<0)) (a.num.natAbs*b.den) (a.den*b.den)=a:=by rw [uS a.den_pos b.den_pos,vS]
 have e2:yM (decide (b.num<0)) (b.num.natAbs*a.den) (a.den*b.den)=b:=by rw [Nat.mul_comm a.den b.den,uS b.den_pos a.den_pos,vS]
 by_cases h:decide (a.num<0)=decide (b.num<0)
 ·rw [← h] at e2
  exact ⟨_,_,by rw [yfu,e1,e2],Nat.le_refl _⟩
 ·by_cases hle:b.num.natAbs*a.den≤a.num.natAbs*b.den
  ·exact ⟨_,_,by rw [ya0 h hle,e1,e2],by omega⟩
  ·exact ⟨_,_,by rw [ya0 (fun e=>h e.symm) (Nat.le_of_lt (Nat.lt_of_not_le hle)),e1,e2,Rat.add_comm],by omega⟩
theorem uA.add {K L:Nat} {a b:Rat} (ha:uA K a) (hb:uA L b):uA (K+L+1) (a+b):=by
 obtain ⟨s,n,h1,h2⟩:=ytS a b
 have h3:=jK ha.1 hb.2
 have h4:=jK hb.1 ha.2
 rw [Nat.add_comm L K] at h4
 have h5:B9^(K+L+1)=B9^(K+L)*1000000000:=by rw [Nat.pow_succ,zA]
 exact ycT h1 (by omega) (uV (jK ha.2 hb.2) (by omega)) (Nat.mul_pos a.den_pos b.den_pos)
theorem yqR (x:Value) (q:Rat) (K:Nat) (w:World) (hK:K≤900000) (hK1:1≤K) (hq:uA K q) (hx:jL w x q):Calls Tryz.prog 97 #[x] w (Rp (.bool (decide (q.den=1))) w):=by
 have yat:=yA (fun W (hW:Be w W)=>yaP x q W (hx.below hW))
 have zX:=yA (fun W=>ybk W)
 have yaH:=yA (fun W (u v:Value) (hu:yE W u q.den) (hv:yE W v 1)=>yav u v q.den 1 K W (by unfold yF;omega) hq.2 (uV (K:=1) (by rw [Nat.pow_one,zA];omega) hK1) hu hv)
 have zF:Hid (((jG q.den 1==0):Bool)=decide (q.den=1)):=yA (by
  unfold jG
  by_cases h:q.den=1
  ·rw [h];rfl
  ·have:=q.den_pos
   rw [if_neg (by omega),if_pos (by omega)]
   simp [h])
 obtain ⟨p,n,c,p2,n2,c2,rfl,-,-⟩:=hx.slices
 obtain ⟨s,hs⟩:∃ s,Hid (s=decide (q.num<0)):=⟨_,yA rfl⟩
 rw [← hs.out] at yat ⊢
 obtain ⟨z,hz⟩:∃ z,Hid (z=jG q.den 1):=⟨_,yA rfl⟩
 obtain ⟨r,hr⟩:∃ r,Hid (r=decide (q.den=1)):=⟨_,yA rfl⟩
 rw [← hz.out,← hr.out] at zF
 rw [← hr.out]
 clear hx hq
 go_in
 go_wp2_with fail
 refine (yat.out _ (yC _ _)).mono ?_
 rintro e w1 ⟨p3,n3,c3,rfl,hv3,hb1⟩
 have Hb1:=yA ((yC w _).trans (hb1.mono (yC w _).size))
 have Hv3:=yA hv3
 clear hb1 hv3
 go_wp2_with fail
 refine (zX.out _).mono ?_
 rintro e w2 ⟨v2,rfl,hv2,hb2,-⟩
 obtain ⟨p4,n4,c4,rfl⟩:=hv2.slice
 have Hb2:=yA (tr Hb1.out hb2)
 have hc2:=yA (yaH.out w2 _ _ (Hv3.out.below hb2) hv2)
 clear hb2 hv2
 go_wp2_with fail
 refine hc2.out.mono ?_
 rintro e w3 ⟨rfl,k,rfl⟩
 rw [← hz.out]
 go_wp2
 go_ret
 exact ⟨by rw [← zF.out];rfl,Hb2.out.trans (yI _ _ _)⟩
theorem yoy (s:ByteArray) (w:World):Calls Tryz.prog 118 #[.string s] w (Rp (.bool (num s.data.toList).isSome) w):=by
 have hg:=fun W=>yA (yg6 s _ rfl W)
 generalize (num s.data.toList).isSome=f at hg ⊢
 go_in
 go_wp2_with fail
 refine (hg _).out.mono ?_
 rintro e w1 ⟨b1,p,n,c,p2,n2,c2,rfl,hb1,-⟩
 have HB:Hid (∀ o1,Be w (w1.alloc o1)):=yA fun o1=>hb1.alloc hb1.size o1
 clear hb1
 go_wp2
 go_ret
 exact ⟨rfl,HB.out _⟩
end Go.Proofs.YtgepehlpjpccaaaGreatDoor
