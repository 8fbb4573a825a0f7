/- Contracts. -/
import Derived.Test.YtgepehlpjpccaaaGreatDoorWDU
namespace Go.Proofs.YtgepehlpjpccaaaGreatDoor
open Go.RowKit Go.Shelf
open Go.Lib
set_option maxHeartbeats 4000000
set_option maxRecDepth 100000
section
attribute [local go_sem] Oper.semAt_some
def ygC (l:List UInt8) (k:Nat) (w:World) (e:Ending) (w':World):Prop:=w=w'∧∃ q d,e=.returned (.slice q k d)∧Bs w q l
theorem ysS (p:Option Addr) (c n:Nat) (w:World) (h1:1≤n) (h2:n≤8) (hpc:p=none→c=0) :
  Calls Tryz.prog 151 #[.slice p 0 c,.int .i64 (n:Int)] w (ygC [] 0 w):=by
 have hn1:1≤(n:Int):=by omega
 have hn8:(n:Int)≤8:=by omega
 have hmod:(0:Int)%(n:Int)=0:=Int.zero_emod _
 cases p with
 | none =>
  obtain rfl:c=0:=hpc rfl
  go_enter Tryz.func151,Tryz.ntmps151
  go_wp2_with fail
  go_ret
  exact ⟨rfl,_,_,rfl,Bs.nil _ _⟩
 | some ad =>
  obtain ⟨b0,off,sp⟩:=ad
  go_enter Tryz.func151,Tryz.ntmps151
  go_wp2_with fail
  go_ret
  exact ⟨rfl,_,_,rfl,Bs.nil _ _⟩
theorem yp1 (b0 off c n t len:Nat) (l:List UInt8) (w:World) (h1:1≤n) (h2:n≤8) (HL:Hid (len=l.length)) (hl:len≤1048576) (hc:len≤c) (HT:Hid (t=len/n*n)) (hb:Bs w (some ⟨b0,off,none⟩) l) :
  Calls Tryz.prog 151 #[.slice (some ⟨b0,off,none⟩) len c,.int .i64 (n:Int)] w (ygC (l.drop t) (len-t) w):=by
 have hn1:1≤(n:Int):=by omega
 have hn8:(n:Int)≤8:=by omega
 have hlen:(len:Int)≤1048576:=by omega
 have htl:t≤len:=by rw [HT.out];exact Nat.div_mul_le_self _ _
 have yai:wrap64 ((len:Int)-(len:Int)%(n:Int))=(t:Int):=by
  have h3:=Nat.div_add_mod len n
  rw [Nat.mul_comm,← HT.out] at h3
  have h4:(len:Int)-(len:Int)%(n:Int)=(t:Int):=by omega
  rw [h4]
  unfold wrap64;omega
 have HB:=Lib.hid hb
 clear hb
 by_cases hct:c=t
 ·subst hct
  obtain rfl:len=c:=by omega
  go_enter Tryz.func151,Tryz.ntmps151
  go_wp2_with fail
  rw [yai]
  go_wp2_with fail
  go_ret
  exact ⟨rfl,some ⟨b0,off,none⟩,0,by simp,.inl (by rw [HL.out,List.drop_length];rfl)⟩
 ·have hct':t<c:=by omega
  go_enter Tryz.func151,Tryz.ntmps151
  go_wp2_with fail
  rw [yai]
  go_wp2_with fail
  go_ret
  exact ⟨rfl,_,_,rfl,yaA HB.out t (by rw [← HL.out];exact htl) rfl⟩
theorem yeo (p:Option Addr) (c n t len:Nat) (l:List UInt8) (w:World) (h1:1≤n) (h2:n≤8) (HL:Hid (len=l.length)) (hl:len≤1048576) (hc:len≤c) (hpc:p=none→c=0) (HT:Hid (t=len/n*n)) (hb:Bs w p l) :
  Calls Tryz.prog 151 #[.slice p len c,.int .i64 (n:Int)] w (ygC (l.drop t) (len-t) w):=by
 rcases hb with h0|⟨b,off,rfl,h3,h4⟩
 ·obtain rfl:=List.eq_nil_of_length_eq_zero h0
  obtain rfl:len=0:=HL.out
  obtain rfl:t=0:=by rw [HT.out,Nat.zero_div,Nat.zero_mul]
  exact ysS p c n w h1 h2 hpc
 ·exact yp1 b off c n t len l w h1 h2 HL hl hc HT (.inr ⟨b,off,rfl,h3,h4⟩)
theorem ybC {F:Fence} {n:Nat} (w:World) {ops:Array Oper} {rest:List Oper} {o:Oper} {a:Act} {Q:Exit→Act→World→Prop} (hg:o.guard=none) (l c:Operand) (hop:o.op=Op.makeSlice 39 l c)
  (kl kc:IntKind) (k:Nat) (hl:a.eval l=.int kl 0) (hc:a.eval c=.int kc (k:Int)) (hk:k≤20000)
  (hK:∀ w',w'.ownsRow w.heap.size 5 1 (.slice (some ⟨w.heap.size,0,none⟩) 0 k) ([]:List UInt8).length (zS [])→w.grownBy w' none→wpListIn F n Tryz.prog ops Q rest (a.put o.dst (.slice (some ⟨w.heap.size,0,none⟩) 0 k)) w') :
  wpListIn F n Tryz.prog ops Q (o::rest) a w:=by
 obtain ⟨i0,hi,hz0,hz1,hz2⟩:=info_parts ya6
 refine wpListIn_plain hg fun K hK'=>?_
 have hr:=run_make (P:=Tryz.prog) w 39 5 i0 (.int .u8 0) Tryz.underlying39 hi hz0 kl kc 0 k (by omega) (by omega) (by rw [hz2];omega) (by omega)
 simp only [Int.toNat_natCast] at hr
 rw [hz1,Nat.mul_one] at hr
 unfold Oper.wpIn
 refine ⟨?_,?_⟩
 ·simp [Oper.about,hop]
 ·rw [Oper.semAt_plain F _ _ (by rw [hop];intro c hc';cases hc')]
  simp [execOp,hop,hl,hc,hr,Result.andThen]
  refine hK' _ _ (hK _ ⟨rfl,.inr ⟨w.heap.size,k,_,rfl,Nat.le_refl _,World.alloc_heap_new w _,Nat.zero_le _,by unfold maxLen;omega,?_,rfl⟩⟩ (World.grownBy_alloc w _ none))
  rw [show (Value.int .u8 0).cells=#[Value.int .u8 0] from rfl,ygT];simp [zS]
theorem uQ {w:World} {o:Oper} {a:Act} {K:Act→World→Prop} {Q:Exit→Act→World→Prop} (s x:Operand)
  (ho:o.op=.call { callee:=.builtin .append,args:=#[s,x],argTypes:=#[39,39] })
  (B:Nat) (v:Value) (n:Nat) (X:List UInt8) (hs:a.eval s=v) (hn:n=X.length) (yW:w.ownsRow B 5 1 v n (zS X))
  (p:Option Addr) (m c:Nat) (L:List UInt8) (hx:a.eval x=.slice p m c) (hm:L.length=m) (hb:Bs w p L) (hlen:n+m≤140737488355328) (hB:B≤w.heap.size)
  (h:∀ v' w',Grew B w v (X++L) w' v'→K (a.put o.dst v') w'):o.wp Tryz.prog a w K Q:=by
 subst hn
 subst hm
 obtain ⟨i0,hi,hz0,hz1,hz2⟩:=info_parts ya6
 cases p with
 | none =>
  have h0:L=[]:=by
   rcases hb with h0|⟨b,off,h1,-⟩
   ·exact List.eq_nil_of_length_eq_zero h0
   ·cases h1
  subst h0
  have hr:=ydg w B v X.length c (zS X) o.type yW
  unfold Oper.wp execOp
  simp only [ho,resolve,invoke,builtin,Sem.run_bind,Sem.run_pure,Result.andThen_ok,List.map_toArray,List.map_cons,List.map_nil,hs,hx,List.length_nil,hr]
  exact h v w (by rw [List.append_nil];exact Grew.refl yW)
 | some ad =>
  obtain ⟨v',w',hr,h2,h3,h4,h5⟩:=run_append_own_at (P:=Tryz.prog) w B 39 o.type 5 i0 (.int .u8 0) 1 1 Tryz.underlying39 hi hz0 hz1 hz2 rfl (by decide) v X.length (zS X) yW ad L.length c (zS L) (by rw [ycu,Nat.mul_one]) (hb.news (Below.refl _ _) _ rfl) (yi6 L) (by unfold maxLen;omega) (by omega) hB
  unfold Oper.wp execOp
  simp only [ho,resolve,invoke,builtin,Sem.run_bind,Sem.run_pure,Result.andThen_ok,List.map_toArray,List.map_cons,List.map_nil,hs,hx,hr]
  refine h v' w' ⟨?_,h3,h5.imp id fun h=>⟨_,h,Nat.le_refl _⟩⟩
  rw [List.length_append,zS,List.map_append];exact h2
def yrE (Bl:Nat) (L:List UInt8) (w:World) (e:Ending) (w':World):Prop:=Below Bl w w'∧∃ v,e=.returned (.tuple #[v,.int .i64 0])∧w'.ownsRow Bl 5 1 v L.length (zS L)
theorem yoe (p:Option Addr) (c n Bl:Nat) (l:List UInt8) (w:World) (h1:1≤n) (h2:n≤8) (hl:l.length≤20000) (hc:l.length≤c) (hpc:p=none→c=0) (hbs:BsN Bl w p l) (hBl:w.heap[Bl]?=some (.cells #[.int .u64 0] 86 (0,0))) :
  Calls Tryz.prog 145 #[.slice p l.length c,.int .i64 (n:Int),.func (.func 146) #[] #[.pointer (some ⟨Bl,0,none⟩)]] w (yrE Bl (chR GY n (l.length/n) 0 l) w):=by
 have HA:∀ W,Calls Tryz.prog 147 #[.slice p l.length c,.int .i64 (n:Int)] W fun e w'=>e=.returned (.int .i64 0)∧W=w':=fun W=>ybr p l.length c n W h1 h2 (Nat.le_trans hl (by decide))
 have yhe:Bl<w.heap.size:=(Array.getElem?_eq_some_iff.1 hBl).1
 obtain ⟨len,HL⟩:∃ len,Hid (len=l.length):=⟨_,rfl⟩
 rw [← HL.out] at hl hc HA ⊢
 obtain ⟨k,HK⟩:∃ k,Hid (k=len/n):=⟨_,rfl⟩
 have HKN:Hid (k*n≤len):=Lib.hid (by rw [HK.out];exact Nat.div_mul_le_self _ _)
 rw [← HK.out]
 obtain ⟨R,HR⟩:∃ R,Hid (R=chR GY n k 0 l):=⟨_,rfl⟩
 rw [← HR.out]
 have HAh:=Lib.hid HA
 have HBS:=Lib.hid hbs
 have HBL:=Lib.hid hBl
 have HPC:=Lib.hid hpc
 clear HA hbs hBl hpc
 refine (callsIn_wide (n:=9)).1 ?_
 refine callsIn_of_wp_marks Tryz.func145 rfl trivial ?_ rfl
 simp only [Tryz.ntmps145,List.size_toArray,List.length_cons,List.length_nil,Nat.reduceAdd,Nat.reduceSub,Array.replicate_succ,Array.replicate_zero,List.push_toArray,List.append_toArray,List.nil_append,List.cons_append]
 gi_wp2_with (first|(refine ⟨trivial,?_⟩;gi_at_call 147;refine (callsIn_wide.2 (HAh.out _)).mono ?_;rintro e w' ⟨rfl,rfl⟩)|(gi_at_make;refine ybC _ rfl _ _ rfl _ _ len rfl rfl hl ?_))
 intro w2 yW hgr
 have hB2:Below (w.heap.size+2) ((w.alloc (.cells #[.int .i64 (n:Int)] 3)).alloc (.cells #[.func (.func 146) #[] #[.pointer (some ⟨Bl,0,none⟩)]] 141)) w2:=(Below.refl _ _).grown hgr (by simp) (fun k e=>by cases e)
 have hb4:w2.heap[w.heap.size]?=some (.cells #[.int .i64 (n:Int)] 3 (0,0)):=by
  refine (hB2.block w.heap.size (by omega)).trans ((Below.heap_alloc _ _ _ (by simp)).trans (World.alloc_heap_new w _))
 have hb5:w2.heap[w.heap.size+1]?=some (.cells #[.func (.func 146) #[] #[.pointer (some ⟨Bl,0,none⟩)]] 141 (0,0)):=by
  refine (hB2.block (w.heap.size+1) (by omega)).trans ?_
  have:=World.alloc_heap_new (w.alloc (.cells #[.int .i64 (n:Int)] 3)) (.cells #[.func (.func 146) #[] #[.pointer (some ⟨Bl,0,none⟩)]] 141);rwa [World.size_alloc] at this
 have hN:w.heap.size+2≤w2.heap.size:=by have:=hB2.size;simpa using this
 have hBW:Below w.heap.size w w2:=(((Below.refl _ w).alloc (Nat.le_refl _) _).alloc (by simp) _).trans (hB2.mono (by omega))
 have gb4:w2.cell? ⟨w.heap.size,0,none⟩=some (.int .i64 (n:Int)):=by simp [World.cell?,hb4]
 have gb3:(w2.alloc (.cells #[.slice (some ⟨w.heap.size+1+1,0,none⟩) 0 len] 39)).cell? ⟨w.heap.size,0,none⟩=some (.int .i64 (n:Int)):=by
  rw [World.cell?_of_block (w:=w2) (Below.heap_alloc _ _ _ (by show w.heap.size<w2.heap.size;omega))];exact gb4
 have yqz:=Lib.hid yW
 have HB4:=Lib.hid hb4
 have HB5:=Lib.hid hb5
 have HBW:=Lib.hid hBW
 clear yW hgr hb4 hb5 hB2 hBW
 gi_wp2_with (refine ⟨trivial,?_⟩;gi_at_call 188;refine (ycz _ _ _ _ _ _).mono ?_;rintro e w' ⟨rfl,rfl⟩)
 obtain ⟨W0,hW0⟩:∃ W0,((w2.alloc (.cells #[.slice (some ⟨w.heap.size+1+1,0,none⟩) 0 len] 39)).alloc (.cells #[.slice p len c] 39)).alloc (.cells #[.int .i64 (n:Int)] 3)=W0:=⟨_,rfl⟩
 have hs0:W0.heap.size=w2.heap.size+3:=by rw [← hW0];simp
 have hO:W0.heap[w2.heap.size]?=some (.cells #[.slice (some ⟨w.heap.size+1+1,0,none⟩) 0 len] 39 (0,0)):=by
  rw [← hW0];exact ((Below.heap_alloc _ _ _ (by simp;omega)).trans (Below.heap_alloc _ _ _ (by simp))).trans (World.alloc_heap_new w2 _)
 have hI1:W0.heap[w2.heap.size+1]?=some (.cells #[.slice p len c] 39 (0,0)):=by
  rw [← hW0];refine (Below.heap_alloc _ _ _ (by simp)).trans ?_
  have:=World.alloc_heap_new (w2.alloc (.cells #[.slice (some ⟨w.heap.size+1+1,0,none⟩) 0 len] 39)) (.cells #[.slice p len c] 39);rwa [World.size_alloc] at this
 have hI2:W0.heap[w2.heap.size+1+1]?=some (.cells #[.int .i64 (n:Int)] 3 (0,0)):=by
  rw [← hW0];have:=World.alloc_heap_new ((w2.alloc (.cells #[.slice (some ⟨w.heap.size+1+1,0,none⟩) 0 len] 39)).alloc (.cells #[.slice p len c] 39)) (.cells #[.int .i64 (n:Int)] 3);rwa [World.size_alloc,World.size_alloc] at this
 have ydI:Below w2.heap.size w2 W0:=by rw [← hW0];exact (((Below.refl _ w2).alloc (Nat.le_refl _) _).alloc (by simp) _).alloc (by simp;omega) _
 have ykv:Below w.heap.size w W0:=HBW.out.trans (ydI.mono (by omega))
 have hk:∀ {j:Nat} {o:Obj},w2.heap[j]?=some o→W0.heap[j]?=some o:=fun h=>(ydI.block _ (Array.getElem?_eq_some_iff.1 h).1).trans h
 have HI0:ChI 146 w.heap.size w2.heap.size Bl n p len c w (.slice (some ⟨w.heap.size+1+1,0,none⟩) 0 len) [] 0 W0:=by
  refine ⟨vV ⟨yqz.out.1,?_⟩ (fun j cs h=>hk h),hO,(ykv.block _ yhe).trans HBL.out,hk HB4.out,hk HB5.out,hI1,hI2,ykv.mono (Nat.le_of_lt yhe)⟩
  rcases yqz.out.2 with h|⟨g,cap,cur,hv,hg,h⟩
  ·exact .inl h
  ·exact .inr ⟨g,cap,cur,hv,by omega,h⟩
 rw [hW0]
 clear gb4 gb3
 refine wpIn_rangeFunc_ownF rfl (by omega) (gf:=222) (lb:=#[.pointer (some ⟨w2.heap.size+1+1,0,none⟩),.pointer (some ⟨w2.heap.size+1,0,none⟩)]) rfl trivial (enters_of Tryz.func222 (by kernel_rfl) rfl)
  (yaU _ (by omega) (w2.heap.size+1+1) (w2.heap.size+1) Bl n len k c l p HL HK h1 h2 (Nat.le_trans hl (by decide)) hc W0 (by omega) (by omega) (by omega) (by simp [World.cell?,hI2]) (by simp [World.cell?,hI1]) (HBS.out.keep (ykv.mono (Nat.le_of_lt yhe)))) jO.trans
  (fun W lo o o' hlo ho hc hw=>⟨(Below.refl _ W).grown (grownBy_putObj' W lo o') (by have:=(Array.getElem?_eq_some_iff.1 ho).1;omega) (fun k e=>by cases e;omega),World.putObj_heap_other (by omega),World.putObj_heap_other (by omega)⟩) (Below.refl _ _) (fun _=>rfl)
  (fun pre W=>∃ v,ChI 146 w.heap.size w2.heap.size Bl n p len c w v (jl n (stL GY 0 (gP l n pre))) (stE GY 0 (gP l n pre)) W)
  (fun _ _ _=>False)
  (fun s W W' row h hg hr=>by obtain ⟨v,h⟩:=h;exact ⟨v,h.keep hg (fun r e=>⟨by have:=(hr r e).1;omega,(hr r e).2⟩) h.lt⟩)
  (fun _ _ _ _ _ h _ _=>h)
  ⟨_,HI0⟩ ?a1 ?assign ?body ?done ?stop
 case assign =>
  intro lo x W K hK
  gi_wp2
  exact hK
 case body =>
  rintro lo pre x W ⟨v,hI⟩ hlen
  obtain ⟨a,HA⟩:∃ a,Hid (a=stE GY 0 (gP l n pre)):=⟨_,rfl⟩
  obtain ⟨L,HLL⟩:∃ L,Hid (L=jl n (stL GY 0 (gP l n pre))):=⟨_,rfl⟩
  rw [← HA.out,← HLL.out] at hI
  obtain ⟨g,HG⟩:∃ g,Hid (g=gN l n x.1):=⟨_,rfl⟩
  have ha:a<jM:=by rw [HA.out];exact ymu (fun a g _ h=>h) (gP l n pre) 0 (by decide) (yvt l h2 pre)
  have hg:g<jM:=by rw [HG.out];exact ymV l h2 _
  obtain ⟨y,HY⟩:∃ y,Hid (y=(GY a g).1):=⟨_,rfl⟩
  obtain ⟨a2,HA2⟩:∃ a2,Hid (a2=(GY a g).2):=⟨_,rfl⟩
  have hy:y<jM:=by rw [HY.out];exact Nat.mod_lt _ (by decide)
  have hLl:L.length≤100000000:=by
   have h5:pre.length*n≤k*n:=Nat.mul_le_mul_right _ (Nat.le_of_lt hlen)
   have h6:=HKN.out
   rw [HLL.out,yac,ybw,ycb];omega
  have hM:Bl<w2.heap.size:=by omega
  have hD:=hI.drew
  obtain ⟨W1,hW1⟩:∃ W1,W.drew.setCell ⟨Bl,0,none⟩ (.int .u64 (a2:Int))=W1:=⟨_,rfl⟩
  have HC:Hid (Calls Tryz.prog 146 #[.int .u64 (g:Int),.pointer (some ⟨Bl,0,none⟩)] W.drew fun e W'=>e=.returned (.int .u64 (y:Int))∧W1=W'):=Lib.hid (by
   rw [← hW1,HY.out,HA2.out]
   exact (yhK Bl W.drew a g ha hg (by simp [World.cell?,hD.st]) (by simp [World.frozen?,hD.st])).mono fun e W' h=>⟨h.1,h.2.symm⟩)
  have HC1:Hid (ChI 146 w.heap.size w2.heap.size Bl n p len c w v L a2 W1):=Lib.hid (by rw [← hW1];exact hD.call yhe hM a2)
  have HBB:Hid (Below Bl W W1∧KeepsOthers W W1):=Lib.hid (by
   rw [← hW1];exact ⟨(Below.refl Bl W).drew.setCell (p:=⟨Bl,0,none⟩) (Nat.le_refl _) _,(KeepsOthers.drew W).trans (KeepsOthers.setCell _ _ _)⟩)
  have HN:=Lib.hid (jN Bl v L y n W1 h2 hLl HC1.out.lt HC1.out.own hy)
  have HF:Hid (∀ v5 W3,ChI 146 w.heap.size w2.heap.size Bl n p len c w v5 (L++be n y) a2 W3→KeepsOthers W1 W3→Below Bl W1 W3→KeepsOthers W W3∧jO Bl (w2.heap.size+1+1) (w2.heap.size+1) W W3 ∧
    ∃ v,ChI 146 w.heap.size w2.heap.size Bl n p len c w v (jl n (stL GY 0 (gP l n (pre++[x])))) (stE GY 0 (gP l n (pre++[x]))) W3):=Lib.hid (fun v5 W3 k1 k2 k3=>by
   refine ⟨HBB.out.2.trans k2,⟨HBB.out.1.trans k3,k1.i2.trans hI.i2.symm,k1.i1.trans hI.i1.symm⟩,v5,?_⟩
   rw [yfX,ygA,ygz,ydl,← HA.out,← HLL.out,← HG.out,← HY.out,← HA2.out,jl,jl,List.append_nil]
   exact k1)
  have hc4:W.drew.cell? ⟨w.heap.size,0,none⟩=some (.int .i64 (n:Int)):=by simp [World.cell?,hD.b4]
  have hc5:W.drew.cell? ⟨w.heap.size+1,0,none⟩=some (.func (.func 146) #[] #[.pointer (some ⟨Bl,0,none⟩)]):=by simp [World.cell?,hD.b5]
  have hcO:W.drew.cell? ⟨w2.heap.size,0,none⟩=some v:=by simp [World.cell?,hD.out]
  have hc4':W1.cell? ⟨w.heap.size,0,none⟩=some (.int .i64 (n:Int)):=by simp [World.cell?,HC1.out.b4]
  have hc5':W1.cell? ⟨w.heap.size+1,0,none⟩=some (.func (.func 146) #[] #[.pointer (some ⟨Bl,0,none⟩)]):=by simp [World.cell?,HC1.out.b5]
  have hcO':W1.cell? ⟨w2.heap.size,0,none⟩=some v:=by simp [World.cell?,HC1.out.out]
  have e10:(nb ((l.drop (x.1*n)).take n))=g:=HG.out.symm
  simp only [e10]
  clear hI hD hW1 e10 ha hg hy hLl
  gi_wp2
  refine yaw (S:=fun W'=>W'.cell? ⟨w.heap.size+1,0,none⟩=some (.func (.func 146) #[] #[.pointer (some ⟨Bl,0,none⟩)])∧W'.cell? ⟨w.heap.size,0,none⟩=some (.int .i64 (n:Int))) (by kernel_rfl) (by kernel_rfl) (fun ⟨_,_,h⟩=>h) ⟨hc5,hc4⟩ (fun hHeld=>?_)
  refine wpAnyH_take (i:=1) (v:=.func (.func 146) #[] #[.pointer (some ⟨Bl,0,none⟩)]) rfl (by kernel_rfl) (by kernel_rfl) (by kernel_rfl) (fun _ _ _ h=>h) (Or.inl ⟨by rfl,by intro W' hSw;obtain ⟨e5,e4⟩:=hSw;go_simp⟩) (by assumption) ?_
  simp only [List.getElem_toArray,List.getElem_cons_zero,List.getElem_cons_succ,Act.put,List.setIfInBounds_toArray,List.set_cons_zero,List.set_cons_succ]
  refine wpAnyH_take (i:=2) (v:=.int .u64 (g:Int)) rfl (by kernel_rfl) (by kernel_rfl) (by kernel_rfl) (fun _ _ _ h=>h) (Or.inl ⟨by rfl,by intro W' hSw;obtain ⟨e5,e4⟩:=hSw;go_simp⟩) (by assumption) ?_
  simp only [List.getElem_toArray,List.getElem_cons_zero,List.getElem_cons_succ,Act.put,List.setIfInBounds_toArray,List.set_cons_zero,List.set_cons_succ]
  refine wpAnyH_take (i:=4) (v:=.int .i64 (n:Int)) rfl (by kernel_rfl) (by kernel_rfl) (by kernel_rfl) (fun _ _ _ h=>h) (Or.inl ⟨by rfl,by intro W' hSw;obtain ⟨e5,e4⟩:=hSw;go_simp⟩) (by assumption) ?_
  simp only [List.getElem_toArray,List.getElem_cons_zero,List.getElem_cons_succ,Act.put,List.setIfInBounds_toArray,List.set_cons_zero,List.set_cons_succ]
  refine wpAnyH_ready (rs:=[0,3]) (by kernel_rfl) (by simp) ?_
  refine AllReadyH.cons (i:=0) rfl (fun K hK=>?_) (AllReadyH.cons (i:=3) rfl (fun K hK=>?_) AllReadyH.nil)
  ·go_simp
   refine hK.out _ _ (⟨hc5,hc4⟩) (fun hHeld=>?_)
   clear hK K
   refine wpAnyH_ready (rs:=[3]) (by kernel_rfl) (by simp) ?_
   refine AllReadyH.cons (i:=3) rfl (fun K hK=>?_) AllReadyH.nil
   go_simp
   refine (HC.out).mono ?_
   rintro e W1' ⟨rfl,rfl⟩
   refine hK.out _ _ (⟨hc5',hc4'⟩) (fun hHeld=>?_)
   clear hK K
   refine wpAnyH_ready (rs:=[5]) (by kernel_rfl) (by simp) ?_
   refine AllReadyH.cons (i:=5) rfl (fun K hK=>?_) AllReadyH.nil
   go_simp
   refine (HN.out).mono ?_
   rintro e W2 ⟨v5,rfl,hg5⟩
   obtain ⟨yQ,yaF,ya3,hh4,hh5,hhM,yay⟩:=HC1.out.app hM hg5
   obtain ⟨p5,c5,rfl,-,-⟩:=zE yQ
   obtain ⟨m5,HM5⟩:∃ m5,Hid (m5=(L++be n y).length):=⟨_,rfl⟩
   rw [← HM5.out] at yQ yaF ya3 yay ⊢
   have f4:W2.cell? ⟨w.heap.size,0,none⟩=some (.int .i64 (n:Int)):=by simp [World.cell?,hh4]
   have f5:W2.cell? ⟨w.heap.size+1,0,none⟩=some (.func (.func 146) #[] #[.pointer (some ⟨Bl,0,none⟩)]):=by simp [World.cell?,hh5]
   have fM:W2.cell? ⟨w2.heap.size,0,none⟩=some v:=by simp [World.cell?,hhM]
   have fMz:W2.frozen? ⟨w2.heap.size,0,none⟩=false:=by simp [World.frozen?,hhM]
   refine hK.out _ _ (⟨f5,f4⟩) (fun hHeld=>?_)
   clear hK K
   refine wpAnyH_ready (rs:=[6]) (by kernel_rfl) (by simp) ?_
   refine AllReadyH.cons (i:=6) rfl (fun K hK=>?_) AllReadyH.nil
   go_simp
   refine hK.out _ _ (⟨(World.cell?_of_block (Below.heap_setCell W2 ⟨w2.heap.size,0,none⟩ _ _ (by show w.heap.size+1≠w2.heap.size;omega))).trans f5,(World.cell?_of_block (Below.heap_setCell W2 ⟨w2.heap.size,0,none⟩ _ _ (by show w.heap.size≠w2.heap.size;omega))).trans f4⟩) (fun hHeld=>?_)
   clear hK K
   refine wpAnyH_done (by kernel_rfl) ?_ _
   exact HF.out _ _ yaF ya3 yay
  ·go_simp
   refine (HC.out).mono ?_
   rintro e W1' ⟨rfl,rfl⟩
   refine hK.out _ _ (⟨hc5',hc4'⟩) (fun hHeld=>?_)
   clear hK K
   refine wpAnyH_ready (rs:=[0]) (by kernel_rfl) (by simp) ?_
   refine AllReadyH.cons (i:=0) rfl (fun K hK=>?_) AllReadyH.nil
   go_simp
   refine hK.out _ _ (⟨hc5',hc4'⟩) (fun hHeld=>?_)
   clear hK K
   refine wpAnyH_ready (rs:=[5]) (by kernel_rfl) (by simp) ?_
   refine AllReadyH.cons (i:=5) rfl (fun K hK=>?_) AllReadyH.nil
   go_simp
   refine (HN.out).mono ?_
   rintro e W2 ⟨v5,rfl,hg5⟩
   obtain ⟨yQ,yaF,ya3,hh4,hh5,hhM,yay⟩:=HC1.out.app hM hg5
   obtain ⟨p5,c5,rfl,-,-⟩:=zE yQ
   obtain ⟨m5,HM5⟩:∃ m5,Hid (m5=(L++be n y).length):=⟨_,rfl⟩
   rw [← HM5.out] at yQ yaF ya3 yay ⊢
   have f4:W2.cell? ⟨w.heap.size,0,none⟩=some (.int .i64 (n:Int)):=by simp [World.cell?,hh4]
   have f5:W2.cell? ⟨w.heap.size+1,0,none⟩=some (.func (.func 146) #[] #[.pointer (some ⟨Bl,0,none⟩)]):=by simp [World.cell?,hh5]
   have fM:W2.cell? ⟨w2.heap.size,0,none⟩=some v:=by simp [World.cell?,hhM]
   have fMz:W2.frozen? ⟨w2.heap.size,0,none⟩=false:=by simp [World.frozen?,hhM]
   refine hK.out _ _ (⟨f5,f4⟩) (fun hHeld=>?_)
   clear hK K
   refine wpAnyH_ready (rs:=[6]) (by kernel_rfl) (by simp) ?_
   refine AllReadyH.cons (i:=6) rfl (fun K hK=>?_) AllReadyH.nil
   go_simp
   refine hK.out _ _ (⟨(World.cell?_of_block (Below.heap_setCell W2 ⟨w2.heap.size,0,none⟩ _ _ (by show w.heap.size+1≠w2.heap.size;omega))).trans f5,(World.cell?_of_block (Below.heap_setCell W2 ⟨w2.heap.size,0,none⟩ _ _ (by show w.heap.size≠w2.heap.size;omega))).trans f4⟩) (fun hHeld=>?_)
   clear hK K
   refine wpAnyH_done (by kernel_rfl) ?_ _
   exact HF.out _ _ yaF ya3 yay
 case done =>
  rintro D xs W hD hxs ⟨v,hI⟩ hK
  rw [yiE l n xs hxs] at hI
  obtain ⟨G,HG⟩:∃ G,Hid (G=jl n (stL GY 0 (gl n k l))):=⟨_,rfl⟩
  obtain ⟨a,HA⟩:∃ a,Hid (a=stE GY 0 (gl n k l)):=⟨_,rfl⟩
  rw [← HG.out,← HA.out] at hI
  obtain ⟨t,HT⟩:∃ t,Hid (t=k*n):=⟨_,rfl⟩
  have htl:t≤len:=by rw [HT.out];exact HKN.out
  obtain ⟨rs,HRS⟩:∃ rs,Hid (rs=l.drop t):=⟨_,rfl⟩
  have hGR:Hid (G++rs=R):=Lib.hid (by rw [HG.out,HRS.out,HR.out,HT.out,ymt])
  have hGl:G.length=t:=by rw [HG.out,HT.out,yac,ybw,yaD]
  have hrl:rs.length=len-t:=by rw [HRS.out,List.length_drop,← HL.out]
  have yki:=Lib.hid (yeo p c n t len l W.drew h1 h2 HL (Nat.le_trans hl (by decide)) hc HPC.out (by rw [HT.out,HK.out];rfl) ((HBS.out.keep hI.bel).bs hI.lt))
  rw [← HRS.out] at yki
  have hDI:=hI.drew
  have c4:W.drew.cell? ⟨w.heap.size,0,none⟩=some (.int .i64 (n:Int)):=by simp [World.cell?,hDI.b4]
  have cO:W.drew.cell? ⟨w2.heap.size,0,none⟩=some v:=by simp [World.cell?,hDI.out]
  have yrc:Hid (W.drew.ownsRow Bl 5 1 v G.length (zS G)):=Lib.hid hDI.own
  have HBEL:Hid (Below Bl w W.drew):=Lib.hid hDI.bel
  have hlt:Bl≤W.drew.heap.size:=hDI.lt
  have ydv:Hid (∀ v5 W5,Grew Bl W.drew v (G++rs) W5 v5→W5.cell? ⟨w.heap.size,0,none⟩=some (.int .i64 (n:Int))∧W5.cell? ⟨w2.heap.size,0,none⟩=some v∧W5.heap[D]?=some (.deferred (some []))∧(Below Bl w (W5.putObj D (.deferred none))∧(W5.putObj D (.deferred none)).ownsRow Bl 5 1 v5 R.length (zS R))):=Lib.hid (fun v5 W5 hg=>by
   obtain ⟨-,-,-,q4,-,qO,-⟩:=hDI.app (by omega) hg
   have hD5:W5.heap[D]?=some (.deferred (some [])):=(hg.grown.block D (Array.getElem?_eq_some_iff.1 hK).1 (fun e=>by
    have:=ycc hDI.own D _ e.symm hK
    cases this)).trans hK
   have hb5:Below Bl w W5:=hDI.bel.grown hg.grown hlt (fun k e=>GR hDI.own e)
   have hsz:=hg.grown.size
   rw [hGR.out] at hg
   refine ⟨by simp [World.cell?,q4],by simp [World.cell?,qO],hD5,hb5.trans ((Below.refl Bl W5).grown (grownBy_putObj' W5 D _) (Nat.le_trans hlt hsz) (fun k e=>by cases e;omega)),vV hg.own (fun k cs h=>(World.putObj_heap_other (fun e=>by subst e;rw [hD5] at h;cases h)).trans h)⟩)
  clear hI hDI
  gi_wp2
  refine wpIn_wide.2 ?_
  refine wp_region_noPanic ?_
  refine wp_region_held_drew (S:=fun W'=>W'.cell? ⟨w.heap.size,0,none⟩=some (.int .i64 (n:Int))∧W'.cell? ⟨w2.heap.size,0,none⟩=some v) (by kernel_rfl) ⟨c4,cO⟩ (fun hHeld=>?_)
  refine wpAnyH_take (i:=0) (v:=v) rfl (by kernel_rfl) (by kernel_rfl) (by kernel_rfl) (fun _ _ _ h=>h) (Or.inl ⟨by rfl,by intro W' hSw;obtain ⟨e4,eO⟩:=hSw;go_simp⟩) (by assumption) ?_
  simp only [List.getElem_toArray,List.getElem_cons_zero,Act.put,List.setIfInBounds_toArray,List.set_cons_zero,List.set_cons_succ]
  refine wpAnyH_take (i:=1) (v:=.slice p len c) rfl (by kernel_rfl) (by kernel_rfl) (by kernel_rfl) (fun _ _ _ h=>h) (Or.inl ⟨by rfl,by intro W' hSw;obtain ⟨e4,eO⟩:=hSw;go_simp⟩) (by assumption) ?_
  simp only [List.getElem_toArray,List.getElem_cons_zero,List.getElem_cons_succ,Act.put,List.setIfInBounds_toArray,List.set_cons_zero,List.set_cons_succ]
  refine wpAnyH_take (i:=2) (v:=.int .i64 (n:Int)) rfl (by kernel_rfl) (by kernel_rfl) (by kernel_rfl) (fun _ _ _ h=>h) (Or.inl ⟨by rfl,by intro W' hSw;obtain ⟨e4,eO⟩:=hSw;go_simp⟩) (by assumption) ?_
  simp only [List.getElem_toArray,List.getElem_cons_zero,List.getElem_cons_succ,Act.put,List.setIfInBounds_toArray,List.set_cons_zero,List.set_cons_succ]
  refine wpAnyH_ready (rs:=[3]) (by kernel_rfl) (by simp) ?_
  refine AllReadyH.cons (i:=3) rfl (fun K hK=>?_) AllReadyH.nil
  go_simp
  refine (yki.out).mono ?_
  rintro e W' ⟨rfl,q,d,rfl,hq⟩
  have HQ:=Lib.hid hq
  clear hq
  refine hK.out _ _ (⟨c4,cO⟩) (fun hHeld=>?_)
  clear hK K
  refine wpAnyH_ready (rs:=[4]) (by kernel_rfl) (by simp) ?_
  refine AllReadyH.cons (i:=4) rfl (fun K hK9=>?_) AllReadyH.nil
  rw [if_pos (by rfl)]
  refine uQ (.tmp 30) (.tmp 33) rfl Bl v G.length G rfl rfl yrc.out q (len-t) d rs rfl hrl HQ.out (by omega) hlt ?_
  intro v5 W5 hg5
  obtain ⟨f4,fO,fD,yD⟩:=ydv.out _ _ hg5
  refine hK9.out _ _ (⟨f4,fO⟩) (fun hHeld=>?_)
  clear hK9 K
  simp only [List.getElem_toArray,List.getElem_cons_zero,List.getElem_cons_succ,Act.put,List.setIfInBounds_toArray,List.set_cons_zero,List.set_cons_succ]
  refine wpAnyH_ready (rs:=[5]) (by kernel_rfl) (by simp) ?_
  refine AllReadyH.cons (i:=5) rfl (fun K hK=>?_) AllReadyH.nil
  go_simp
  refine hK.out _ _ (⟨f4,fO⟩) (fun hHeld=>?_)
  clear hK K
  refine wpAnyH_ready (rs:=[6]) (by kernel_rfl) (by simp) ?_
  refine AllReadyH.cons (i:=6) rfl (fun K hK=>?_) AllReadyH.nil
  go_simp
  refine hK.out _ _ (⟨f4,fO⟩) (fun hHeld=>?_)
  clear hK K
  refine wpAnyH_done (by kernel_rfl) ?_ _
  refine NoPanic.normal ?_
  gi_wp2
  refine ⟨by simp,.inl ⟨_,_,rfl,run_takeDeferred fD,?_⟩⟩
  refine ⟨_,?_,yD.1,v5,rfl,yD.2⟩
  simp [results,Tryz.f145,go_sem]
 case stop =>
  rintro D c pre W hD _ h
  exact h.elim
end
end Go.Proofs.YtgepehlpjpccaaaGreatDoor
