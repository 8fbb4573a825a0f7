/- Contracts. -/
import Derived.Test.YtgepehlpjpccaaaGreatDoorRf
set_option maxHeartbeats 3200000
set_option maxRecDepth 100000
namespace Go.Proofs.YtgepehlpjpccaaaGreatDoor
open Go.RowKit Big
open Go.Lib
theorem Resa.fin {B:Nat} {w0 W:World} {q:Rat} {sb:Bool} {p p2:Oa} {n c n2 c2:Nat} (h:Resa B w0 W) (hB:w0.heap.size≤B) (hs:sb=decide (q.num<0))
  (h1:yE W (.slice p n c) q.num.natAbs) (h2:yE W (.slice p2 n2 c2) q.den∨(yE W (.slice p2 n2 c2) 0∧q.den=1)) :
  yae q w0 (.returned (.agg #[.bool sb,.slice p n c,.slice p2 n2 c2])) (((W.setCell ⟨B,0,none⟩ (.bool sb)).setCell ⟨B,1,none⟩ (.slice p n c)).setCell ⟨B,2,none⟩ (.slice p2 n2 c2)) :=
 ⟨_,rfl,⟨_,_,by rw [hs],h.nat3 hB h1 sb p p2 n c n2 c2,h2.imp (fun h2=>h.nat3 hB h2 sb p p2 n c n2 c2) fun h2=>⟨h.nat3 hB h2.1 sb p p2 n c n2 c2,h2.2⟩⟩,(h.put3 hB sb p p2 n c n2 c2).below⟩
def zX (q:Rat) (f:Bool) (w:World) (e:Ending) (w':World):Prop:=∃ b p n c p2 n2 c2,e=.returned (.tuple #[.agg #[.bool b,.slice p n c,.slice p2 n2 c2],.bool f])∧Be w w'∧(f=true→uH w' (.agg #[.bool b,.slice p n c,.slice p2 n2 c2]) q)
def GA (W:World) (g:Nat) (s:ByteArray) (pos:Nat):World:={ W with heap:=W.heap.setIfInBounds g (.stringIter s pos) }
theorem ytB (W:World) (g:Nat) (s:ByteArray) (pos:Nat) (ty:TypeId) (hg:W.heap[g]?=some (.stringIter s pos)) (h:pos<s.size) (ha:(s[pos]'h).toNat<128) :
  (Instr.next (.pointer (some ⟨g,0,none⟩)) true ty).run Tryz.prog W=.ok (.tuple #[.bool true,.int .i64 pos,.int .i32 (s[pos]'h).toNat]) (GA W g s (pos+1)):=by
 simp only [Instr.next,getObj,setObj,Sem.run_bind,Sem.run,hg,Result.andThen,h,if_true,decode_ascii s pos h ha]
 simp [goInt,GA]
theorem ykT (W:World) (g:Nat) (s:ByteArray) (pos:Nat) (ty:TypeId) (hg:W.heap[g]?=some (.stringIter s pos)) (h:¬ pos<s.size) :
  (Instr.next (.pointer (some ⟨g,0,none⟩)) true ty).run Tryz.prog W=.ok (.tuple #[.bool false]) W:=by
 simp [Instr.next,getObj,Sem.run,hg,h]
theorem yiH (W:World) (g:Nat) (s:ByteArray) (pos:Nat) {B:Nat} (hB:B≤g):Below B W (GA W g s pos) :=
 ⟨rfl,rfl,rfl,by simp [GA],fun k hk=>by simp only [GA];rw [Array.getElem?_setIfInBounds_ne (by omega)]⟩
theorem ymC (W:World) (g:Nat) (s:ByteArray) (pos:Nat) (h:g<W.heap.size):(GA W g s pos).heap[g]?=some (.stringIter s pos):=by
 simp [GA,h]
structure DotAt (w wr:World) (g:Nat) (mo:ByteArray) (pos:Nat) (dv:Value):Prop where
 nat:yE wr dv (10^pos)
 it:wr.heap[g]?=some (.stringIter mo pos)
 res:Resa w.heap.size w wr
 gt:w.heap.size<g
 le:pos≤mo.size
theorem yE.iter {W:World} {v:Value} {x g pos:Nat} {mo:ByteArray} (h:yE W v x) (hg:W.heap[g]?=some (.stringIter mo pos)) (p2:Nat):yE (GA W g mo p2) v x:=by
 obtain ⟨p,n,c,l,rfl,h2,h3,h4⟩:=h
 refine ⟨p,n,c,l,rfl,h2,⟨h3.len,?_⟩,h4⟩
 by_cases hn:n=0
 ·exact .inl hn
 ·obtain ⟨b,o,hp,hb,hc⟩:=h3.opened (by omega)
  refine .inr ⟨b,o,hp,by simpa [GA] using hb,fun j hj=>?_⟩
  have hne:b≠g:=by
   rintro rfl
   have:=hc 0 (by omega)
   simp [World.cell?,hg] at this
  rw [← hc j hj]
  refine World.cell?_of_block (w:=W) ?_
  simp only [GA];rw [Array.getElem?_setIfInBounds_ne (by omega)]
theorem DotAt.step {w wr w5:World} {g pos:Nat} {mo:ByteArray} {dv d2:Value} (h:DotAt w wr g mo pos dv) (hlt:pos<mo.size) (hb:Below (GA wr g mo (pos+1)).heap.size (GA wr g mo (pos+1)) w5) (h2:yE w5 d2 (10^(pos+1))):DotAt w w5 g mo (pos+1) d2:=by
 have hg:=(Array.getElem?_eq_some_iff.1 h.it).1
 have hs:(GA wr g mo (pos+1)).heap.size=wr.heap.size:=by simp [GA]
 have hr:Resa w.heap.size w (GA wr g mo (pos+1)):=by
  refine ⟨by rw [hs];exact h.res.size,h.res.below.trans (yiH _ _ _ _ (Nat.le_of_lt h.gt)),?_⟩
  obtain ⟨z0,z1,z2,hz,hn⟩:=h.res.z
  refine ⟨z0,z1,z2,?_,hn⟩
  rw [← hz];simp only [GA];rw [Array.getElem?_setIfInBounds_ne (by have:=h.gt;omega)]
 refine ⟨h2,?_,hr.next hb,h.gt,hlt⟩
 rw [hb.block g (by rw [hs];exact hg)]
 exact ymC _ _ _ _ hg
theorem yrE (p:Nat):10^p<B9^(p+1):=by
 rw [GW];exact Nat.pow_lt_pow_right (by omega) (by omega)
theorem ymD (s:ByteArray) (k:Nat) (q:Rat) (_sb:Bool) (_N0 _D0:Nat) (w:World) (_hmax:(s.size:Int)≤100000) (hz:s.size=0) (uT:∀ W,Hid (Calls Tryz.prog 123 #[.string s,.int .i64 0] W (Qp (.int .i64 (k:Int)) W))) (hk:k=0):Calls Tryz.prog 68 #[.string s] w (zX q false w):=by
 subst hk
 have zH:=yA (Resa.start w)
 have hz0:((s.size:Int))=0:=by omega
 go_in
 go_wp2_with fail
 refine (uT _).out.mono ?_
 rintro e w1 ⟨rfl,rfl⟩
 go_wp2
 refine bodyPost_ret (v:=.tuple #[.agg #[.bool false,.slice none 0 0,.slice none 0 0],.bool false]) ?_ rfl ?_
 ·simp [results,Tryz.results68,go_sem]
 exact ⟨_,_,_,_,_,_,_,rfl,zH.out.below,fun h=>by cases h⟩
theorem ytC (s:ByteArray) (k:Nat) (q:Rat) (_sb:Bool) (_N0 _D0:Nat) (w:World) (hmax:(s.size:Int)≤100000) (hz:0<s.size) (neg:Bool) (s1:ByteArray) (GK:(s1=s∧neg=false∧(((s[0]'hz).toNat:Int)==45)=false)∨(s.extract 1 s.size=s1∧neg=true∧(((s[0]'hz).toNat:Int)==45)=true)) (_hmax1:(s1.size:Int)≤100000) (uT:∀ W,Hid (Calls Tryz.prog 123 #[.string s1,.int .i64 0] W (Qp (.int .i64 (k:Int)) W))) (hk:k=0):Calls Tryz.prog 68 #[.string s] w (zX q false w):=by
 rcases GK with ⟨rfl,rfl,hm⟩|⟨hs1,rfl,hm⟩
 all_goals
  subst hk
  have zH:=yA (Resa.start w)
  go_in
  go_wp2_with fail
  refine (uT _).out.mono ?_
  rintro e w1 ⟨rfl,rfl⟩
  go_wp2
  refine bodyPost_ret (v:=.tuple #[.agg #[.bool false,.slice none 0 0,.slice none 0 0],.bool false]) ?_ rfl ?_
  ·simp [results,Tryz.results68,go_sem]
  exact ⟨_,_,_,_,_,_,_,rfl,zH.out.below,fun h=>by cases h⟩
theorem ytD (s:ByteArray) (k:Nat) (q:Rat) (sb:Bool) (N0 D0:Nat) (w:World) (hmax:(s.size:Int)≤100000) (hz:0<s.size) (neg:Bool) (s1:ByteArray) (GK:(s1=s∧neg=false∧(((s[0]'hz).toNat:Int)==45)=false)∨(s.extract 1 s.size=s1∧neg=true∧(((s[0]'hz).toNat:Int)==45)=true)) (_hmax1:(s1.size:Int)≤100000) (uT:∀ W,Hid (Calls Tryz.prog 123 #[.string s1,.int .i64 0] W (Qp (.int .i64 (k:Int)) W))) (hk0:((k:Int)==0)=false) (hks:((k:Int)==s1.size)=true) (hrd:∀ W,Hid (Calls Tryz.prog 124 #[.string s1] W (zJ N0 W))) (jT:∀ W,Hid (Calls Tryz.prog 67 #[] W (zJ D0 W))) (hqs:Hid (sb=decide (q.num<0))) (hmk:∀ W u v,yE W u N0→yE W v D0→Hid (Calls Tryz.prog 65 #[.bool neg,u,v] W (ya0 q sb W))):Calls Tryz.prog 68 #[.string s] w (zX q true w):=by
 rcases GK with ⟨rfl,rfl,hm⟩|⟨hs1,rfl,hm⟩
 all_goals
  have zH:=yA (Resa.start w)
  go_in
  go_wp2_with fail
  refine (uT _).out.mono ?_
  rintro e w1 ⟨rfl,rfl⟩
  go_wp2_with fail
  refine (hrd _).out.mono ?_
  rintro e w2 ⟨v2,rfl,hv2,hb2,-⟩
  obtain ⟨p2,n2,c2,rfl⟩:=hv2.slice
  have hr2:=yA (zH.out.next hb2)
  have Hv2:=yA hv2
  clear hv2 hb2
  go_wp2_with fail
  refine (jT _).out.mono ?_
  rintro e w3 ⟨v3,rfl,hv3,hb3,-⟩
  obtain ⟨p3,n3,c3,rfl⟩:=hv3.slice
  have HR:=yA (hr2.out.next hb3)
  have hm3:=hmk w3 _ _ (Hv2.out.below hb3) hv3
  clear hv3 hb3 hr2
  go_wp2_with fail
  refine hm3.out.mono ?_
  rintro e wM ⟨pr,nr,cr,pq,nq,cq,rfl,hr1,hr2,hbM⟩
  have hrz:=yA (HR.out.next hbM)
  have Hr1:=yA hr1
  have Hr2:=yA hr2
  obtain ⟨z0,z1,z2,l0,l1,l2,f0,f1,f2⟩:=hrz.out.slots
  clear hr1 hr2 hbM
  go_wp2_with fail
  have yF:=yA (hrz.out.fin nl hqs.out Hr1.out Hr2.out)
  refine bodyPost_ret (v:=.tuple #[.agg #[.bool sb,.slice pr nr cr,.slice pq nq cq],.bool true]) ?_ rfl ?_
  ·simp [results,Tryz.results68,go_sem,l0,l1,l2]<;>omega
  obtain ⟨x,hx,hq,hb⟩:=yF.out
  cases hx
  exact ⟨_,_,_,_,_,_,_,rfl,hb,fun _=>hq⟩
theorem yrF (s:ByteArray) (k:Nat) (q:Rat) (_sb:Bool) (_N0 _D0:Nat) (w:World) (hmax:(s.size:Int)≤100000) (hz:0<s.size) (neg:Bool) (s1:ByteArray) (GK:(s1=s∧neg=false∧(((s[0]'hz).toNat:Int)==45)=false)∨(s.extract 1 s.size=s1∧neg=true∧(((s[0]'hz).toNat:Int)==45)=true)) (ygI:(s1.size:Int)≤100000) (uT:∀ W,Hid (Calls Tryz.prog 123 #[.string s1,.int .i64 0] W (Qp (.int .i64 (k:Int)) W))) (hk0:((k:Int)==0)=false) (hks:((k:Int)==s1.size)=false) (hkl:k<s1.size) (ck:Nat) (hck:((s1[k]'hkl).toNat:Int)=(ck:Int)) (mo hd:ByteArray) (hmo:s1.extract (k+1) s1.size=mo) (_hhd:s1.extract 0 k=hd) (cm:Nat) (uI:∀ W,Hid (Calls Tryz.prog 123 #[.string mo,.int .i64 0] W (Qp (.int .i64 (cm:Int)) W))) (hb:((cm:Int) != mo.size)=true):Calls Tryz.prog 68 #[.string s] w (zX q false w):=by
 rcases GK with ⟨rfl,rfl,hm⟩|⟨hs1,rfl,hm⟩
 all_goals
  have zH:=yA (Resa.start w)
  go_in
  go_wp2_with fail
  refine (uT _).out.mono ?_
  rintro e w1 ⟨rfl,rfl⟩
  have ypE:(k:Int)<s1.size:=by omega
  go_wp2_with fail
  go_quiet (fail)
  have hrq:=yA (zH.out.next (yG _ _ nq))
  go_wp2_with fail
  refine (uI _).out.mono ?_
  rintro e w1 ⟨rfl,rfl⟩
  obtain ⟨z0,z1,z2,l0,l1,l2,f0,f1,f2⟩:=hrq.out.slots
  have q3:=yA (hrq.out.put3 nl false none none 0 0 0 0).below
  go_wp2
  refine bodyPost_ret (v:=.tuple #[.agg #[.bool false,.slice none 0 0,.slice none 0 0],.bool false]) ?_ rfl ?_
  ·simp [results,Tryz.results68,go_sem,l0,l1,l2]<;>omega
  exact ⟨_,_,_,_,_,_,_,rfl,q3.out,fun h=>by cases h⟩
theorem yoB (s:ByteArray) (k:Nat) (q:Rat) (_sb:Bool) (_N0 _D0:Nat) (w:World) (hmax:(s.size:Int)≤100000) (hz:0<s.size) (neg:Bool) (s1:ByteArray) (GK:(s1=s∧neg=false∧(((s[0]'hz).toNat:Int)==45)=false)∨(s.extract 1 s.size=s1∧neg=true∧(((s[0]'hz).toNat:Int)==45)=true)) (ygI:(s1.size:Int)≤100000) (uT:∀ W,Hid (Calls Tryz.prog 123 #[.string s1,.int .i64 0] W (Qp (.int .i64 (k:Int)) W))) (hk0:((k:Int)==0)=false) (hks:((k:Int)==s1.size)=false) (hkl:k<s1.size) (ck:Nat) (hck:((s1[k]'hkl).toNat:Int)=(ck:Int)) (mo hd:ByteArray) (hmo:s1.extract (k+1) s1.size=mo) (_hhd:s1.extract 0 k=hd) (cm:Nat) (uI:∀ W,Hid (Calls Tryz.prog 123 #[.string mo,.int .i64 0] W (Qp (.int .i64 (cm:Int)) W))) (hb:((cm:Int) != 0)=false) (he:mo=⟨#[]⟩):Calls Tryz.prog 68 #[.string s] w (zX q false w):=by
 rcases GK with ⟨rfl,rfl,hm⟩|⟨hs1,rfl,hm⟩
 all_goals
  subst he
  have zH:=yA (Resa.start w)
  go_in
  go_wp2_with fail
  refine (uT _).out.mono ?_
  rintro e w1 ⟨rfl,rfl⟩
  have ypE:(k:Int)<s1.size:=by omega
  go_wp2_with fail
  go_quiet (fail)
  have hrq:=yA (zH.out.next (yG _ _ nq))
  go_wp2_with fail
  refine (uI _).out.mono ?_
  rintro e w1 ⟨rfl,rfl⟩
  obtain ⟨z0,z1,z2,l0,l1,l2,f0,f1,f2⟩:=hrq.out.slots
  have q3:=yA (hrq.out.put3 nl false none none 0 0 0 0).below
  go_wp2
  refine bodyPost_ret (v:=.tuple #[.agg #[.bool false,.slice none 0 0,.slice none 0 0],.bool false]) ?_ rfl ?_
  ·simp [results,Tryz.results68,go_sem,l0,l1,l2]<;>omega
  exact ⟨_,_,_,_,_,_,_,rfl,q3.out,fun h=>by cases h⟩
theorem yoC (s:ByteArray) (k:Nat) (q:Rat) (_sb:Bool) (_N0 _D0:Nat) (w:World) (hmax:(s.size:Int)≤100000) (hz:0<s.size) (neg:Bool) (s1:ByteArray) (GK:(s1=s∧neg=false∧(((s[0]'hz).toNat:Int)==45)=false)∨(s.extract 1 s.size=s1∧neg=true∧(((s[0]'hz).toNat:Int)==45)=true)) (ygI:(s1.size:Int)≤100000) (uT:∀ W,Hid (Calls Tryz.prog 123 #[.string s1,.int .i64 0] W (Qp (.int .i64 (k:Int)) W))) (hk0:((k:Int)==0)=false) (hks:((k:Int)==s1.size)=false) (hkl:k<s1.size) (ck:Nat) (hck:((s1[k]'hkl).toNat:Int)=(ck:Int)) (mo hd:ByteArray) (hmo:s1.extract (k+1) s1.size=mo) (_hhd:s1.extract 0 k=hd) (cm:Nat) (uI:∀ W,Hid (Calls Tryz.prog 123 #[.string mo,.int .i64 0] W (Qp (.int .i64 (cm:Int)) W))) (hb:((cm:Int) != mo.size)=false) (he:(mo.toList==[])=false) (_he2:¬ mo.toList=[]) (_he3:mo.toList.isEmpty=false) (h46:((ck:Int) != 46)=true) (h47:((ck:Int) != 47)=true):Calls Tryz.prog 68 #[.string s] w (zX q false w):=by
 rcases GK with ⟨rfl,rfl,hm⟩|⟨hs1,rfl,hm⟩
 all_goals
  have zH:=yA (Resa.start w)
  go_in
  go_wp2_with fail
  refine (uT _).out.mono ?_
  rintro e w1 ⟨rfl,rfl⟩
  have ypE:(k:Int)<s1.size:=by omega
  go_wp2_with fail
  go_quiet (fail)
  have hrq:=yA (zH.out.next (yG _ _ nq))
  go_wp2_with fail
  refine (uI _).out.mono ?_
  rintro e w1 ⟨rfl,rfl⟩
  obtain ⟨z0,z1,z2,l0,l1,l2,f0,f1,f2⟩:=hrq.out.slots
  have q3:=yA (hrq.out.put3 nl false none none 0 0 0 0).below
  go_wp2
  refine bodyPost_ret (v:=.tuple #[.agg #[.bool false,.slice none 0 0,.slice none 0 0],.bool false]) ?_ rfl ?_
  ·simp [results,Tryz.results68,go_sem,l0,l1,l2]<;>omega
  exact ⟨_,_,_,_,_,_,_,rfl,q3.out,fun h=>by cases h⟩
theorem yoD (s:ByteArray) (k:Nat) (q:Rat) (sb:Bool) (N0 D0:Nat) (w:World) (hmax:(s.size:Int)≤100000) (hz:0<s.size) (neg:Bool) (s1:ByteArray) (GK:(s1=s∧neg=false∧(((s[0]'hz).toNat:Int)==45)=false)∨(s.extract 1 s.size=s1∧neg=true∧(((s[0]'hz).toNat:Int)==45)=true)) (ygI:(s1.size:Int)≤100000) (uT:∀ W,Hid (Calls Tryz.prog 123 #[.string s1,.int .i64 0] W (Qp (.int .i64 (k:Int)) W))) (hk0:((k:Int)==0)=false) (hks:((k:Int)==s1.size)=false) (hkl:k<s1.size) (ck:Nat) (hck:((s1[k]'hkl).toNat:Int)=(ck:Int)) (mo hd:ByteArray) (hmo:s1.extract (k+1) s1.size=mo) (hhd:s1.extract 0 k=hd) (cm:Nat) (uI:∀ W,Hid (Calls Tryz.prog 123 #[.string mo,.int .i64 0] W (Qp (.int .i64 (cm:Int)) W))) (hb:((cm:Int) != mo.size)=false) (he:(mo.toList==[])=false) (_he2:¬ mo.toList=[]) (_he3:mo.toList.isEmpty=false) (h47:ck=47) (hD0:D0≠0) (ylO:∀ W,Hid (Calls Tryz.prog 124 #[.string mo] W (zJ D0 W))) (yhS:∀ W,Hid (Calls Tryz.prog 124 #[.string hd] W (zJ N0 W))) (hqs:Hid (sb=decide (q.num<0))) (hmk:∀ W u v,yE W u N0→yE W v D0→Hid (Calls Tryz.prog 65 #[.bool neg,u,v] W (ya0 q sb W))):Calls Tryz.prog 68 #[.string s] w (zX q true w):=by
 rcases GK with ⟨rfl,rfl,hm⟩|⟨hs1,rfl,hm⟩
 all_goals
  subst h47
  have zH:=yA (Resa.start w)
  go_in
  go_wp2_with fail
  refine (uT _).out.mono ?_
  rintro e w1 ⟨rfl,rfl⟩
  have ypE:(k:Int)<s1.size:=by omega
  go_wp2_with fail
  go_quiet (fail)
  have hrq:=yA (zH.out.next (yG _ _ nq))
  go_wp2_with fail
  refine (uI _).out.mono ?_
  rintro e w1 ⟨rfl,rfl⟩
  go_wp2_with fail
  refine (ylO _).out.mono ?_
  rintro e w2 ⟨v2,rfl,hv2,hb2,-⟩
  obtain ⟨p2,n2,c2,rfl⟩:=hv2.slice
  have hr2:=yA (hrq.out.next hb2)
  have Hv2:=yA hv2
  have hn3:0<n2:=by have h:=hv2.zero_iff (n:=n2);omega
  have hn2:(0:Int)<n2:=by omega
  clear hv2 hb2
  go_wp2_with fail
  refine (yhS _).out.mono ?_
  rintro e w3 ⟨v3,rfl,hv3,hb3,-⟩
  obtain ⟨p3,n3,c3,rfl⟩:=hv3.slice
  have HR:=yA (hr2.out.next hb3)
  have hm3:=hmk w3 _ _ hv3 (Hv2.out.below hb3)
  clear hv3 hb3 hr2
  go_wp2_with fail
  refine hm3.out.mono ?_
  rintro e wM ⟨pr,nr,cr,pq,nq,cq,rfl,hr1,hr2,hbM⟩
  have hrz:=yA (HR.out.next hbM)
  have Hr1:=yA hr1
  have Hr2:=yA hr2
  obtain ⟨z0,z1,z2,l0,l1,l2,f0,f1,f2⟩:=hrz.out.slots
  clear hr1 hr2 hbM
  go_wp2_with fail
  have yF:=yA (hrz.out.fin nl hqs.out Hr1.out Hr2.out)
  refine bodyPost_ret (v:=.tuple #[.agg #[.bool sb,.slice pr nr cr,.slice pq nq cq],.bool true]) ?_ rfl ?_
  ·simp [results,Tryz.results68,go_sem,l0,l1,l2]<;>omega
  obtain ⟨x,hx,hq,hb⟩:=yF.out
  cases hx
  exact ⟨_,_,_,_,_,_,_,rfl,hb,fun _=>hq⟩
theorem yoE (s:ByteArray) (k:Nat) (q:Rat) (sb:Bool) (N0 D0:Nat) (w:World) (hmax:(s.size:Int)≤100000) (hz:0<s.size) (neg:Bool) (s1:ByteArray) (GK:(s1=s∧neg=false∧(((s[0]'hz).toNat:Int)==45)=false)∨(s.extract 1 s.size=s1∧neg=true∧(((s[0]'hz).toNat:Int)==45)=true)) (ygI:(s1.size:Int)≤100000) (uT:∀ W,Hid (Calls Tryz.prog 123 #[.string s1,.int .i64 0] W (Qp (.int .i64 (k:Int)) W))) (hk0:((k:Int)==0)=false) (hks:((k:Int)==s1.size)=false) (hkl:k<s1.size) (ck:Nat) (hck:((s1[k]'hkl).toNat:Int)=(ck:Int)) (mo hd:ByteArray) (hmo:s1.extract (k+1) s1.size=mo) (hhd:s1.extract 0 k=hd) (cm:Nat) (uI:∀ W,Hid (Calls Tryz.prog 123 #[.string mo,.int .i64 0] W (Qp (.int .i64 (cm:Int)) W))) (hb:((cm:Int) != mo.size)=false) (he:(mo.toList==[])=false) (_he2:¬ mo.toList=[]) (_he3:mo.toList.isEmpty=false) (h47:ck=47) (hD0:D0=0) (ylO:∀ W,Hid (Calls Tryz.prog 124 #[.string mo] W (zJ D0 W))) (yhS:∀ W,Hid (Calls Tryz.prog 124 #[.string hd] W (zJ N0 W))) (hqs:Hid (sb=decide (q.num<0))) (hmk:∀ W u v,yE W u N0→yE W v D0→Hid (Calls Tryz.prog 65 #[.bool neg,u,v] W (ya0 q sb W))):Calls Tryz.prog 68 #[.string s] w (zX q false w):=by
 rcases GK with ⟨rfl,rfl,hm⟩|⟨hs1,rfl,hm⟩
 all_goals
  subst h47
  have zH:=yA (Resa.start w)
  go_in
  go_wp2_with fail
  refine (uT _).out.mono ?_
  rintro e w1 ⟨rfl,rfl⟩
  have ypE:(k:Int)<s1.size:=by omega
  go_wp2_with fail
  go_quiet (fail)
  have hrq:=yA (zH.out.next (yG _ _ nq))
  go_wp2_with fail
  refine (uI _).out.mono ?_
  rintro e w1 ⟨rfl,rfl⟩
  go_wp2_with fail
  refine (ylO _).out.mono ?_
  rintro e w2 ⟨v2,rfl,hv2,hb2,-⟩
  obtain ⟨p2,n2,c2,rfl⟩:=hv2.slice
  have hr2:=yA (hrq.out.next hb2)
  have Hv2:=yA hv2
  have hn3:n2=0:=by have h:=hv2.zero_iff (n:=n2);omega
  subst hn3
  clear hv2 hb2
  go_wp2_with fail
  refine (yhS _).out.mono ?_
  rintro e w3 ⟨v3,rfl,hv3,hb3,-⟩
  obtain ⟨p3,n3,c3,rfl⟩:=hv3.slice
  have HR:=yA (hr2.out.next hb3)
  have hm3:=hmk w3 _ _ hv3 (Hv2.out.below hb3)
  clear hv3 hb3 hr2
  go_wp2_with fail
  refine hm3.out.mono ?_
  rintro e wM ⟨pr,nr,cr,pq,nq,cq,rfl,hr1,hr2,hbM⟩
  have hrz:=yA (HR.out.next hbM)
  have Hr1:=yA hr1
  have Hr2:=yA hr2
  obtain ⟨z0,z1,z2,l0,l1,l2,f0,f1,f2⟩:=hrz.out.slots
  clear hr1 hr2 hbM
  go_wp2_with fail
  have yF:=yA (hrz.out.fin nl hqs.out Hr1.out Hr2.out)
  refine bodyPost_ret (v:=.tuple #[.agg #[.bool sb,.slice pr nr cr,.slice pq nq cq],.bool false]) ?_ rfl ?_
  ·simp [results,Tryz.results68,go_sem,l0,l1,l2]<;>omega
  obtain ⟨x,hx,hq,hb⟩:=yF.out
  cases hx
  exact ⟨_,_,_,_,_,_,_,rfl,hb,fun _=>hq⟩
theorem yrG (s:ByteArray) (k:Nat) (q:Rat) (sb:Bool) (N0 D0:Nat) (w:World) (hmax:(s.size:Int)≤100000) (hz:0<s.size) (neg:Bool) (s1:ByteArray) (GK:(s1=s∧neg=false∧(((s[0]'hz).toNat:Int)==45)=false)∨(s.extract 1 s.size=s1∧neg=true∧(((s[0]'hz).toNat:Int)==45)=true)) (ygI:(s1.size:Int)≤100000) (uT:∀ W,Hid (Calls Tryz.prog 123 #[.string s1,.int .i64 0] W (Qp (.int .i64 (k:Int)) W))) (hk0:((k:Int)==0)=false) (hks:((k:Int)==s1.size)=false) (hkl:k<s1.size) (ck:Nat) (hck:((s1[k]'hkl).toNat:Int)=(ck:Int)) (mo hd:ByteArray) (hmo:s1.extract (k+1) s1.size=mo) (hhd:s1.extract 0 k=hd) (cm:Nat) (uI:∀ W,Hid (Calls Tryz.prog 123 #[.string mo,.int .i64 0] W (Qp (.int .i64 (cm:Int)) W))) (hb:((cm:Int) != mo.size)=false) (he:(mo.toList==[])=false) (_he2:¬ mo.toList=[]) (_he3:mo.toList.isEmpty=false) (h46:ck=46) (GR:Hid (mo.data.toList.all yL=true)) (hsz:(mo.size:Int)≤100000) (hszh:(hd.size:Int)≤100000) (hD0:Hid (D0=10^mo.size)) (yhS:∀ W,Hid (Calls Tryz.prog 124 #[.string (hd++mo)] W (zJ N0 W))) (hqs:Hid (sb=decide (q.num<0))) (hmk:∀ W u v,yE W u N0→yE W v D0→Hid (Calls Tryz.prog 65 #[.bool neg,u,v] W (ya0 q sb W))):Calls Tryz.prog 68 #[.string s] w (zX q true w):=by
 rcases GK with ⟨rfl,rfl,hm⟩|⟨hs1,rfl,hm⟩
 all_goals
  subst h46
  have jT:∀ W,Hid (Calls Tryz.prog 67 #[] W (zJ 1 W)):=fun W=>yA (ycX W)
  have hten:∀ W,Hid (Calls Tryz.prog 66 #[.int .u64 10] W (zJ 10 W)):=fun W=>yA (yav 10 W (by omega))
  have zH:=yA (Resa.start w)
  go_in
  go_wp2_with fail
  refine (uT _).out.mono ?_
  rintro e w1 ⟨rfl,rfl⟩
  have ypE:(k:Int)<s1.size:=by omega
  go_wp2_with fail
  go_quiet (fail)
  have hrq:=yA (zH.out.next (yG _ _ nq))
  go_wp2_with fail
  refine (uI _).out.mono ?_
  rintro e w1 ⟨rfl,rfl⟩
  go_wp2_with fail
  refine (jT _).out.mono ?_
  rintro e w2 ⟨v2,rfl,hv2,hb2,-⟩
  obtain ⟨p2,n2,c2,rfl⟩:=hv2.slice
  have hr2:=hrq.out.next hb2
  have hst:Hid (DotAt w (w2.iter mo 0) w2.heap.size mo 0 (.slice p2 n2 c2)):=yA ⟨by rw [Nat.pow_zero];exact hv2.below (yD _ _),World.iter_heap _ _ _,hr2.next (yD _ _),by have:=hr2.size;omega,Nat.zero_le _⟩
  clear hv2 hb2 hr2
  go_wp2
  go_loopw [9] (fun dv w3=>∃ (pos:Nat) (pd:Oa) (nd cd:Nat),dv=.slice pd nd cd∧Hid (DotAt w w3 w2.heap.size mo pos dv)) (fun _ w3=>mo.size-w3.iterPos w2.heap.size)
  case atStart=>exact ⟨0,_,_,_,rfl,hst⟩
  case round =>
   obtain ⟨pos,pd,nd,cd,rfl,hat⟩:=hrel
   by_cases hp:pos<mo.size
   ·have hasc:(mo[pos]'hp).toNat<128:=by
     have h1:yL (mo[pos]'hp)=true:=List.all_eq_true.1 GR.out _ (List.getElem_mem (by simpa using hp):mo.data.toList[pos]'(by simpa using hp) ∈ _)
     simp [yL] at h1;omega
    have hnx:∀ ty,(Instr.next (.pointer (some ⟨w2.heap.size,0,none⟩)) true ty).run Tryz.prog wr=_:=fun ty=>ytB wr w2.heap.size mo pos ty hat.out.it hp hasc
    have hd1:=yA (hat.out.nat.iter hat.out.it (pos+1))
    have hps:Hid (pos≤100000):=yA (by omega)
    clear hasc
    go_wp2_with fail
    refine (hten _).out.mono ?_
    rintro e w5 ⟨v5,rfl,hv5,hb5,-⟩
    obtain ⟨p5,n5,c5,rfl⟩:=hv5.slice
    have hm5:Hid (Calls Tryz.prog 70 #[.slice pd nd cd,.slice p5 n5 c5] w5 (zJ (10^pos*10) w5)):=yA (vS _ _ _ _ (pos+1) 1 w5 (by have:=hps.out;unfold yK;omega) (by unfold yK;omega) (yrE pos) (by rw [Nat.pow_one,zE];omega) (hd1.out.below hb5) hv5)
    have Hb5:=yA hb5
    clear hv5 hb5
    go_wp2_with fail
    refine hm5.out.mono ?_
    rintro e w6 ⟨v6,rfl,hv6,hb6,-⟩
    obtain ⟨p6,n6,c6,rfl⟩:=hv6.slice
    have jE:Hid (DotAt w w6 w2.heap.size mo (pos+1) (.slice p6 n6 c6)):=yA (hat.out.step hp (tr Hb5.out hb6) (by rw [Nat.pow_succ];exact hv6))
    have yb1:Hid (mo.size-w6.iterPos w2.heap.size<mo.size-wr.iterPos w2.heap.size):=yA (by
     have h1:=jE.out.it
     have h2:=hat.out.it
     simp only [World.iterPos,h1,h2];omega)
    clear hv6 hb6
    go_wp2
    go_roundw
    case rel=>exact ⟨pos+1,_,_,_,rfl,jE⟩
    case measure=>exact yb1.out
   ·have hpe:pos=mo.size:=by have:=hat.out.le;omega
    have hnx:∀ ty,(Instr.next (.pointer (some ⟨w2.heap.size,0,none⟩)) true ty).run Tryz.prog wr=_:=fun ty=>ykT wr w2.heap.size mo pos ty hat.out.it hp
    have hdn:Hid (yE wr (.slice pd nd cd) D0):=yA (by rw [hD0.out,← hpe];exact hat.out.nat)
    clear hpe
    go_wp2_with fail
    refine (yhS _).out.mono ?_
    rintro e w7 ⟨v7,rfl,hv7,hb7,-⟩
    obtain ⟨p7,n7,c7,rfl⟩:=hv7.slice
    have HR:=yA (hat.out.res.next hb7)
    have hm3:=hmk w7 _ _ hv7 (hdn.out.below hb7)
    clear hv7 hb7
    go_wp2_with fail
    refine hm3.out.mono ?_
    rintro e wM ⟨pr,nr,cr,pq,nq,cq,rfl,hr1,hr2,hbM⟩
    have hrz:=yA (HR.out.next hbM)
    have Hr1:=yA hr1
    have Hr2:=yA hr2
    obtain ⟨z0,z1,z2,l0,l1,l2,f0,f1,f2⟩:=hrz.out.slots
    clear hr1 hr2 hbM
    go_wp2_with fail
    have yF:=yA (hrz.out.fin nl hqs.out Hr1.out Hr2.out)
    refine bodyPost_ret (v:=.tuple #[.agg #[.bool sb,.slice pr nr cr,.slice pq nq cq],.bool true]) ?_ rfl ?_
    ·simp [results,Tryz.results68,go_sem,l0,l1,l2]<;>omega
    obtain ⟨x,hx,hq,hb⟩:=yF.out
    cases hx
    exact ⟨_,_,_,_,_,_,_,rfl,hb,fun _=>hq⟩
theorem yho (l:Lb) (x:UInt8):(x ∉ l∧Lib.cut l [x]=(l,[],false))∨∃ a b,l=a++x::b∧x ∉ a∧Lib.cut l [x]=(a,b,true):=by
 by_cases h:x ∈ l
 ·obtain ⟨a,b,e,ha⟩:=List.eq_append_cons_of_mem h
  exact .inr ⟨a,b,e,ha,by rw [e];exact yk9 ha⟩
 ·exact .inl ⟨h,yfN h⟩
theorem yjZ {a b:Lb} {x:UInt8} (ha:a.all yL=true) (hx:yL x=false):(a++x::b).takeWhile yL=a:=by
 induction a with
 | nil=>simp [hx]
 | cons y l ih =>
  rw [List.all_cons,Bool.and_eq_true] at ha
  simp [ha.1,ih ha.2]
theorem yhp {a b c d:Lb} {x y:UInt8} (ha:a.all yL=true) (hx:yL x=false) (hc:c.all yL=true) (hy:yL y=false) (h:a++x::b=c++y::d):a=c∧x=y∧b=d:=by
 have h1:=yjZ (b:=b) ha hx
 have h2:=yjZ (b:=d) hc hy
 rw [h,h2] at h1
 subst h1
 have:=List.append_cancel_left h
 simp at this
 exact ⟨rfl,this.1,this.2⟩
theorem ycB {l:Lb} {x:UInt8} (hx:x ∈ l) (hn:yL x=false):yZ l=false:=by
 have:l.all yL=false:=by rw [List.all_eq_false];exact ⟨x,hx,by simp [hn]⟩
 simp [yZ,this]
theorem ydw (hd mo:Lb) (c:UInt8) (hh:hd.all yL=true) (hc:yL c=false) :
  uQ (hd++c::mo)=if c=46 then (if yZ hd&&yZ mo then some (zC (hd++mo),10^mo.length) else none) else if c=47 then (if yZ hd&&yZ mo&&!(zC mo==0) then some (zC hd,zC mo) else none) else none:=by
 have k1:yL 46=false:=by decide
 have k2:yL 47=false:=by decide
 unfold uQ
 by_cases h46:c=46
 ·subst h46
  rw [if_pos rfl,yk9 (ycQ hh k1)]
  rfl
 ·rw [if_neg h46]
  rcases yho (hd++c::mo) 46 with ⟨hn,e⟩|⟨a,b,e,hna,e2⟩
  ·rw [e]
   simp only [Bool.false_eq_true,if_false]
   by_cases h47:c=47
   ·subst h47
    rw [if_pos rfl,yk9 (ycQ hh k2)]
    rfl
   ·rw [if_neg h47]
    rcases yho (hd++c::mo) 47 with ⟨hn2,e3⟩|⟨a,b,e3,hna,e4⟩
    ·rw [e3]
     simp only [Bool.false_eq_true,if_false]
     rw [ycB (x:=c) (by simp) hc];rfl
    ·rw [e4]
     have:yZ a=false:=by
      cases h:yZ a with
      | false=>rfl
      | true =>
       have:=yhp hh hc (jI h) k2 e3
       exact absurd this.2.1 h47
     rw [this];rfl
  ·rw [e2]
   have h1:yZ a=false:=by
    cases h:yZ a with
    | false=>rfl
    | true =>
     have:=yhp hh hc (jI h) k1 e
     exact absurd this.2.1 h46
   have h2:yZ mo=false:=by
    have hm:(46:UInt8) ∈ hd++c::mo:=by rw [e];simp
    have:(46:UInt8) ∈ mo:=by
     rcases List.mem_append.1 hm with h|h
     ·exact absurd h (ycQ hh k1)
     ·rcases List.mem_cons.1 h with h|h
      ·exact absurd h.symm h46
      ·exact h
    exact ycB this k1
   rw [h1,h2]
   simp
theorem ygr (l:Lb) (h:yZ l=true):uQ l=some (zC l,1):=by
 have h1:=jI h
 unfold uQ
 rw [yfN (ycQ h1 (by decide)),yfN (ycQ h1 (by decide))]
 simp [h]
theorem yhq (l:Lb) (h:jR l<l.length):∃ (hd mo:Lb) (c:UInt8),l=hd++c::mo∧hd.length=jR l∧hd.all yL=true∧yL c=false∧hd=l.take (jR l)∧mo=l.drop (jR l+1)∧l[jR l]?=some c:=by
 have h1:l.takeWhile yL++l.dropWhile yL=l:=List.takeWhile_append_dropWhile
 cases hdw:l.dropWhile yL with
 | nil=>rw [hdw,List.append_nil] at h1;unfold jR at h;rw [h1] at h;omega
 | cons c mo =>
  rw [hdw] at h1
  have hc:yL c=false:=by
   have:=List.head?_dropWhile_not yL l
   rw [hdw] at this
   simpa using this
  have ha:(l.takeWhile yL).all yL=true:=List.all_takeWhile
  have hcn:jR l=(l.takeWhile yL).length:=rfl
  rw [hcn]
  generalize l.takeWhile yL=hd at h1 ha
  subst h1
  exact ⟨hd,mo,c,rfl,rfl,ha,hc,by simp,by simp,by simp⟩
theorem yh8 (l:Lb):jR l=l.length↔l.all yL=true:=by
 unfold jR
 constructor
 ·intro h
  have h1:l.takeWhile yL=l:=List.IsPrefix.eq_of_length (List.takeWhile_prefix yL) h
  rw [← h1];exact List.all_takeWhile
 ·intro h
  have:l.takeWhile yL=l:=by
   have:=yhF yL l l.length nl (by rw [List.take_length];exact h) (.inl rfl)
   exact List.IsPrefix.eq_of_length (List.takeWhile_prefix yL) this
  rw [this]
theorem yj0 {l:Lb} {K:Nat} (GR:l.all yL=true) (h:l.length≤9*K):zC l<B9^K:=by
 rw [GW]
 exact Nat.lt_of_lt_of_le (ycf l GR) (Nat.pow_le_pow_right (by omega) h)
theorem ytE {K:Nat} (h:1≤K):1<B9^K:=GV (K:=1) (by rw [Nat.pow_one,zE];omega) h
theorem ytF {n K:Nat} (h:n<9*K):10^n<B9^K:=by
 rw [GW];exact Nat.pow_lt_pow_right (by omega) h
def yep (o:Option (Bool × Nat × Nat)) (w:World) (e:Ending) (w':World):Prop:=match o with
 | some (sg,n,d)=>zX (yX sg n d) true w e w'
 | none=>∃ q,zX q false w e w'
theorem yf6 (s:ByteArray) (w:World) (hmax:(s.size:Int)≤1000) (hz:0<s.size) (neg:Bool) (s1:ByteArray) (GK:(s1=s∧neg=false∧(((s[0]'hz).toNat:Int)==45)=false)∨(s.extract 1 s.size=s1∧neg=true∧(((s[0]'hz).toNat:Int)==45)=true)) (ygI:(s1.size:Int)≤1000) (o:Option (Nat × Nat)) (ho:uQ s1.data.toList=o) :
  Calls Tryz.prog 68 #[.string s] w (yep (o.map fun p=>(neg,p.1,p.2)) w):=by
 have hmx:(s.size:Int)≤100000:=by omega
 obtain ⟨l,hl⟩:∃ l,s1.data.toList=l:=⟨_,rfl⟩
 have hll:l.length=s1.size:=by rw [← hl];simp
 rw [hl] at ho
 have uT:∀ W,Hid (Calls Tryz.prog 123 #[.string s1,.int .i64 0] W (Qp (.int .i64 ((jR l:Nat):Int)) W)):=fun W=>yA (by rw [← hl];exact yh7 s1 W (by omega))
 have hmk:∀ (N0 D0:Nat) (q:Rat) (sb:Bool),N0<B9^2000→D0<B9^2000→q=yX neg N0 D0→sb=decide (q.num<0)→∀ W u v,yE W u N0→yE W v D0→Hid (Calls Tryz.prog 65 #[.bool neg,u,v] W (ya0 q sb W)):=by
  intro N0 D0 q sb h1 h2 h3 h4 W u v hu hv
  refine yA ((ybW neg u v N0 D0 2000 W (by omega) h1 h2 hu hv).mono fun e w' h=>?_)
  rw [← h3] at h
  exact h.b h4
 have hlen:l.length≤1000:=by omega
 by_cases hk:jR l=0
 ·have hnone:o=none:=by
   rw [← ho]
   by_cases h0:l=[]
   ·subst h0;rfl
   ·obtain ⟨hd,mo,c,e,h1,h2,h3,-,-,-⟩:=yhq l (by rw [hk];exact List.length_pos_iff.2 h0)
    rw [hk] at h1
    have:hd=[]:=List.eq_nil_of_length_eq_zero h1
    subst this
    rw [e,ydw _ _ _ h2 h3]
    simp [yZ]
  rw [hnone]
  exact (ytC s (jR l) 0 false 0 0 w hmx hz neg s1 GK (by omega) uT hk).mono fun e w' h=>⟨_,h⟩
 ·have hk0:(((jR l:Nat):Int)==0)=false:=by simp;omega
  by_cases hks:jR l=l.length
  ·have GR:=(yh8 l).1 hks
   have had:yZ l=true:=by
    unfold yZ;rw [GR]
    cases h:l with
    | nil=>rw [h] at hk;exact absurd rfl hk
    | cons x t=>rfl
   have hoo:o=some (zC l,1):=by rw [← ho];exact ygr l had
   rw [hoo]
   have hN:zC l<B9^2000:=yj0 (K:=2000) GR (by omega)
   exact ytD s (jR l) (yX neg (zC l) 1) _ (zC l) 1 w hmx hz neg s1 GK (by omega) uT hk0 (by rw [hks,hll];simp) (fun W=>yA (by rw [← hl];exact ybF s1 W (by omega) (by rw [hl];exact GR))) (fun W=>yA (ycX W)) (yA rfl) (hmk _ _ _ _ hN (ytE (K:=2000) (by omega)) rfl rfl)
  ·have hlt:jR l<l.length:=by
    have:jR l≤l.length:=by unfold jR;exact (List.takeWhile_prefix yL).length_le
    omega
   obtain ⟨hd,mo,c,e,h1,h2,h3,h4,h5,h6⟩:=yhq l hlt
   have ylP:(((jR l:Nat):Int)==s1.size)=false:=by rw [← hll];simp;omega
   have hkl:jR l<s1.size:=by omega
   have hck:((s1[jR l]'hkl).toNat:Int)=(c.toNat:Int):=by
    have:s1[jR l]'hkl=c:=by
     subst hl
     rw [List.getElem?_eq_getElem (by simpa using hkl)] at h6
     exact Option.some.inj h6
    rw [this]
   obtain ⟨mb,hmb⟩:∃ mb,s1.extract (jR l+1) s1.size=mb:=⟨_,rfl⟩
   obtain ⟨hb,hhb⟩:∃ hb,s1.extract 0 (jR l)=hb:=⟨_,rfl⟩
   have lmb:mb.data.toList=mo:=by rw [← hmb,extract_to_end,hl,h5]
   have lhb:hb.data.toList=hd:=by rw [← hhb,extract_upto,hl,h4]
   have smb:mb.size=mo.length:=by rw [← lmb];simp
   have shb:hb.size=hd.length:=by rw [← lhb];simp
   have hle:l.length=hd.length+1+mo.length:=by rw [e];simp;omega
   have uI:∀ W,Hid (Calls Tryz.prog 123 #[.string mb,.int .i64 0] W (Qp (.int .i64 ((jR mo:Nat):Int)) W)):=fun W=>yA (by rw [← lmb];exact yh7 mb W (by omega))
   have hsp:=ydw hd mo c h2 h3
   rw [← e,ho] at hsp
   have had:yZ hd=true:=by
    unfold yZ;rw [h2]
    cases h:hd with
    | nil=>rw [h] at h1;exact absurd h1.symm hk
    | cons x t=>rfl
   by_cases hcm:jR mo=mo.length
   ·have ygJ:=(yh8 mo).1 hcm
    by_cases hm0:mo=[]
    ·have hoo:o=none:=by
      rw [hsp,hm0];simp [yZ]
     rw [hoo]
     exact (yoB s (jR l) 0 false 0 0 w hmx hz neg s1 GK (by omega) uT hk0 ylP hkl c.toNat hck mb hb hmb hhb (jR mo) uI (by rw [hcm,hm0];rfl) (yjY (by rw [lmb,hm0]))).mono fun e w' h=>⟨_,h⟩
    ·have hmd:yZ mo=true:=by
      unfold yZ;rw [ygJ]
      cases h:mo with
      | nil=>exact absurd h hm0
      | cons x t=>rfl
     have ysF:(((jR mo:Nat):Int) != mb.size)=false:=by rw [hcm,smb];simp
     have ltl:mb.toList=mo:=by rw [Lib.toList_data];exact lmb
     have e1:(mb.toList==[])=false:=by rw [ltl,beq_eq_false_iff_ne];exact hm0
     have e2:¬ mb.toList=[]:=by rw [ltl];exact hm0
     have e3:mb.toList.isEmpty=false:=by rw [ltl];cases h:mo with|nil=>exact absurd h hm0|cons x t=>rfl
     have ypF:∀ x:Lb,x.all yL=true→x.length≤1000→zC x<B9^2000:=fun x hx hxl=>yj0 (K:=2000) hx (by omega)
     by_cases h47:c=47
     ·have h46:¬ c=46:=by rw [h47];decide
      rw [if_neg h46,if_pos h47,had,hmd] at hsp
      have ylO:∀ W,Hid (Calls Tryz.prog 124 #[.string mb] W (zJ (zC mo) W)):=fun W=>yA (by rw [← lmb];exact ybF mb W (by omega) (by rw [lmb];exact ygJ))
      have yhS:∀ W,Hid (Calls Tryz.prog 124 #[.string hb] W (zJ (zC hd) W)):=fun W=>yA (by rw [← lhb];exact ybF hb W (by omega) (by rw [lhb];exact h2))
      have hc47:c.toNat=47:=by rw [h47];rfl
      by_cases hd0:zC mo=0
      ·have hoo:o=none:=by rw [hsp,hd0];rfl
       rw [hoo]
       exact (yoE s (jR l) _ _ (zC hd) (zC mo) w hmx hz neg s1 GK (by omega) uT hk0 ylP hkl c.toNat hck mb hb hmb hhb (jR mo) uI ysF e1 e2 e3 hc47 hd0 ylO yhS (yA rfl) (hmk _ _ _ _ (ypF hd h2 (by omega)) (ypF mo ygJ (by omega)) rfl rfl)).mono fun e w' h=>⟨_,h⟩
      ·have hoo:o=some (zC hd,zC mo):=by
        rw [hsp]
        have:(zC mo==0)=false:=by simpa using hd0
        rw [this];rfl
       rw [hoo]
       exact yoD s (jR l) _ _ (zC hd) (zC mo) w hmx hz neg s1 GK (by omega) uT hk0 ylP hkl c.toNat hck mb hb hmb hhb (jR mo) uI ysF e1 e2 e3 hc47 hd0 ylO yhS (yA rfl) (hmk _ _ _ _ (ypF hd h2 (by omega)) (ypF mo ygJ (by omega)) rfl rfl)
     ·by_cases h46:c=46
      ·rw [if_pos h46,had,hmd] at hsp
       have hoo:o=some (zC (hd++mo),10^mo.length):=hsp
       rw [hoo]
       have hboth:(hd++mo).all yL=true:=by rw [List.all_append,h2,ygJ];rfl
       have lhm:(hb++mb).data.toList=hd++mo:=by simp [lhb,lmb]
       have shm:(hb++mb).size=hd.length+mo.length:=by simp [shb,smb]
       have hrd:∀ W,Hid (Calls Tryz.prog 124 #[.string (hb++mb)] W (zJ (zC (hd++mo)) W)):=fun W=>yA (by rw [← lhm];exact ybF (hb++mb) W (by rw [shm];omega) (by rw [lhm];exact hboth))
       exact yrG s (jR l) _ _ (zC (hd++mo)) (10^mo.length) w hmx hz neg s1 GK (by omega) uT hk0 ylP hkl c.toNat hck mb hb hmb hhb (jR mo) uI ysF e1 e2 e3 (by rw [h46];rfl) (yA (by rw [lmb];exact ygJ)) (by omega) (by omega) (yA (by rw [smb])) hrd (yA rfl) (hmk _ _ _ _ (ypF _ hboth (by rw [List.length_append];omega)) (ytF (K:=2000) (by omega)) rfl rfl)
      ·rw [if_neg h46,if_neg h47] at hsp
       rw [hsp]
       have n46:((c.toNat:Int) != 46)=true:=by
        have:c.toNat≠46:=fun h=>h46 (UInt8.toNat_inj.1 h)
        simp;omega
       have n47:((c.toNat:Int) != 47)=true:=by
        have:c.toNat≠47:=fun h=>h47 (UInt8.toNat_inj.1 h)
        simp;omega
       exact (yoC s (jR l) 0 false 0 0 w hmx hz neg s1 GK (by omega) uT hk0 ylP hkl c.toNat hck mb hb hmb hhb (jR mo) uI ysF e1 e2 e3 n46 n47).mono fun e w' h=>⟨_,h⟩
   ·have hmd:yZ mo=false:=by
     cases h:yZ mo with
     | false=>rfl
     | true=>exact absurd ((yh8 mo).2 (jI h)) hcm
    have hoo:o=none:=by
     rw [hsp,hmd];simp
    rw [hoo]
    exact (yrF s (jR l) 0 false 0 0 w hmx hz neg s1 GK (by omega) uT hk0 ylP hkl c.toNat hck mb hb hmb hhb (jR mo) uI (by rw [smb];simp;omega)).mono fun e w' h=>⟨_,h⟩
theorem yhr (s:ByteArray) (w:World) (hmax:(s.size:Int)≤1000):Calls Tryz.prog 68 #[.string s] w (yep (GP s.data.toList) w):=by
 by_cases hz:s.size=0
 ·have hl:s.data.toList=[]:=List.eq_nil_of_length_eq_zero (by simpa using hz)
  have:GP s.data.toList=none:=by rw [hl];rfl
  rw [this]
  have hc:jR s.data.toList=0:=by rw [hl];rfl
  exact (ymD s 0 0 false 0 0 w (by omega) hz (fun W=>yA (by have h:=yh7 s W (by omega);rw [hc] at h;exact h)) rfl).mono fun e w' h=>⟨_,h⟩
 ·have hz0:0<s.size:=by omega
  have hl0:0<s.data.toList.length:=by simpa using hz0
  obtain ⟨x,t,hl⟩:∃ x t,s.data.toList=x::t:=by
   cases h:s.data.toList with
   | nil=>rw [h] at hl0;simp at hl0
   | cons x t=>exact ⟨x,t,rfl⟩
  have hx:s[0]'hz0=x:=by
   have h1:s.data.toList[0]'hl0=s[0]'hz0:=rfl
   rw [← h1];simp only [hl];rfl
  by_cases h45:x=45
  ·have hr:GP s.data.toList=(uQ (s.extract 1 s.size).data.toList).map fun p=>(true,p.1,p.2):=by
    rw [extract_to_end]
    unfold GP Lib.trimPrefix
    have:Lib.hasPrefix s.data.toList [45]=true:=by rw [hl,h45];simp [Lib.hasPrefix,List.isPrefixOf]
    rw [this];rfl
   rw [hr]
   exact yf6 s w hmax hz0 true _ (.inr ⟨rfl,rfl,by rw [hx,h45];rfl⟩) (by
    have:(s.extract 1 s.size).size=s.size-1:=by
     simp
    omega) _ rfl
  ·have hp:Lib.hasPrefix s.data.toList [45]=false:=by
    rw [hl]
    have:((45:UInt8)==x)=false:=by rw [beq_eq_false_iff_ne];exact fun h=>h45 h.symm
    simp [Lib.hasPrefix,List.isPrefixOf,this]
   have hr:GP s.data.toList=(uQ s.data.toList).map fun p=>(false,p.1,p.2):=by
    unfold GP Lib.trimPrefix
    rw [hp];rfl
   rw [hr]
   exact yf6 s w hmax hz0 false s (.inl ⟨rfl,rfl,by
    rw [hx]
    have:x.toNat≠45:=fun h=>h45 (UInt8.toNat_inj.1 h)
    simp;omega⟩) hmax _ rfl
end Go.Proofs.YtgepehlpjpccaaaGreatDoor
