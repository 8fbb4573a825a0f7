/- Contracts. -/
import Derived.Test.YtfjnipkpfbkegaaGreatDoorGH
set_option maxHeartbeats 4000000
set_option maxRecDepth 100000
namespace Go.Proofs.YtfjnipkpfbkegaaGreatDoor
open Go.RowKit Big
open Go.Lib
def yby (q:Rat) (f:Bool) (w:World) (e:Ending) (w':World):Prop:=∃ b p n c p2 n2 c2,e=.returned (.tuple #[.agg #[.bool b,.slice p n c,.slice p2 n2 c2],.bool f])∧Below w.heap.size w w'∧zH w' (.agg #[.bool b,.slice p n c,.slice p2 n2 c2]) q
theorem ymz (s:ByteArray) (k:Nat) (q:Rat) (sb:Bool) (N0 D0:Nat) (w:World) (hmax:(s.size:Int)≤100000) (hz:0<s.size) (hm:(((s[0]'hz).toNat:Int)==45)=false) (jJ:∀ W,Hid (Calls Tryz.prog 65 #[.string s,.int .i64 0] W fun e w'=>e=.returned (.int .i64 (k:Int))∧W=w')) (hk0:((k:Int)==0)=false) (hks:((k:Int)==s.size)=false) (hkl:k<s.size) (ck:Nat) (hck:((s[k]'hkl).toNat:Int)=(ck:Int)) (mo hd:ByteArray) (hmo:s.extract (k+1) s.size=mo) (hhd:s.extract 0 k=hd) (cm:Nat) (jC:∀ W,Hid (Calls Tryz.prog 65 #[.string mo,.int .i64 0] W fun e w'=>e=.returned (.int .i64 (cm:Int))∧W=w')) (hb:((cm:Int) != mo.size)=false) (he:(mo.toList==[])=false) (_he2:¬ mo.toList=[]) (_he3:mo.toList.isEmpty=false) (h47:ck=47) (hD0:D0=0) (yci:∀ W,Hid (Calls Tryz.prog 90 #[.string mo] W (zU D0 W))) (ybg:∀ W,Hid (Calls Tryz.prog 90 #[.string hd] W (zU N0 W))) (hqs:Hid (sb=decide (q.num<0))) (hmk:∀ W u v,yL W u N0→yL W v D0→Hid (Calls Tryz.prog 69 #[.bool false,u,v] W (yam q sb W))):Calls Tryz.prog 62 #[.string s] w (yby q false w):=by
 subst h47
 have yP:=yA (Resa.start w)
 go_enter Tryz.func62,Tryz.ntmps62
 go_wp2_with fail
 refine (jJ _).out.mono ?_
 rintro e w1 ⟨rfl,rfl⟩
 have ydx:(k:Int)<s.size:=by omega
 go_wp2_with fail
 go_quiet (fail)
 have hrq:=yA (yP.out.next (yJ _ _ nq))
 go_wp2_with fail
 refine (jC _).out.mono ?_
 rintro e w1 ⟨rfl,rfl⟩
 go_wp2_with fail
 refine (yci _).out.mono ?_
 rintro e w2 ⟨v2,rfl,hv2,hb2,-⟩
 obtain ⟨p2,n2,c2,rfl⟩:=hv2.slice
 have hr2:=yA (hrq.out.next hb2)
 have Hv2:=yA hv2
 have hn3:n2=0:=by have h:=hv2.zero_iff (n:=n2);omega
 subst hn3
 clear hv2 hb2
 go_wp2_with fail
 refine (ybg _).out.mono ?_
 rintro e w3 ⟨v3,rfl,hv3,hb3,-⟩
 obtain ⟨p3,n3,c3,rfl⟩:=hv3.slice
 have HR:=yA (hr2.out.next hb3)
 have hm3:=hmk w3 _ _ hv3 (Hv2.out.below hb3)
 clear hv3 hb3 hr2
 go_wp2_with fail
 refine hm3.out.mono ?_
 rintro e wM ⟨pr,nr,cr,pq,nq,cq,rfl,hr1,hr2,hbM⟩
 have hrz:=yA (HR.out.next hbM)
 have Hr1:=yA hr1
 have Hr2:=yA hr2
 obtain ⟨z0,z1,z2,l0,l1,l2,f0,f1,f2⟩:=hrz.out.slots
 clear hr1 hr2 hbM
 go_wp2_with fail
 have yE:=yA (hrz.out.fin (Nat.le_refl _) hqs.out Hr1.out Hr2.out)
 refine bodyPost_ret (v:=.tuple #[.agg #[.bool sb,.slice pr nr cr,.slice pq nq cq],.bool false]) ?h1 rfl ?h2
 case h1=>simp [results,Tryz.results62,go_sem,l0,l1,l2]<;>omega
 obtain ⟨x,hx,hq,hb⟩:=yE.out
 cases hx
 exact ⟨_,_,_,_,_,_,_,rfl,hb,hq⟩
theorem ykN (l:List UInt8):l.take (yF l)=l.takeWhile yG:=by
 unfold yF
 conv=>lhs;arg 2;rw [← List.takeWhile_append_dropWhile (p:=yG) (l:=l)]
 rw [List.take_left]
theorem yaU (l:List UInt8):(l.take (yF l)).all yG=true:=by
 rw [ykN]
 induction l with
 | nil=>rfl
 | cons x l ih =>
  rw [List.takeWhile_cons]
  split
  ·rename_i h;rw [List.all_cons,h,ih];rfl
  ·rfl
theorem yo2 {l:List UInt8} (h:0<yF l):(l.take (vH l)).all yG=true∨∃ c mo,(c=46∨c=47)∧l.take (vH l)=l.take (yF l)++c::mo∧mo.all yG=true∧mo≠[]:=by
 have hd:(l.take (yF l)).all yG=true:=by
  exact yaU l
 unfold vH
 split
 ·rename_i c t e
  split
  ·rename_i hc
   simp only [Bool.and_eq_true,Bool.or_eq_true,beq_iff_eq,decide_eq_true_eq] at hc
   refine .inr ⟨c,t.take (yF t),hc.1,?_,yaU t,?_⟩
   ·have h1:l=l.take (yF l)++c::t:=by rw [← e,List.take_append_drop]
    have h2:(l.take (yF l)).length=yF l:=by rw [List.length_take];have:=vN l;omega
    generalize yF l=K at h1 h2 e ⊢
    generalize l.take K=P at h1 h2 ⊢
    subst h1
    rw [List.take_append,h2,List.take_of_length_le (by omega),show K+1+yF t-K=yF t+1 by omega,List.take_succ_cons]
   ·intro e0
    have:=congrArg List.length e0
    rw [List.length_take] at this
    have h3:=vN t
    have h4:=hc.2
    simp only [List.length_nil] at this
    omega
  ·exact .inl hd
 ·exact .inl hd
theorem you (l:List UInt8):vH l≤l.length:=by
 unfold vH
 split
 ·rename_i c t e
  have:=congrArg List.length e
  rw [List.length_drop,List.length_cons] at this
  split
  ·have:=vN t;omega
  ·exact vN l
 ·exact vN l
theorem yov (l:List UInt8):yF l≤vH l:=by
 unfold vH
 split
 ·split<;>omega
 ·omega
def ycj (t:List UInt8):Prop:=(t.all yG=true∧t≠[])∨∃ hd c mo,(c=46∨c=47)∧t=hd++c::mo∧hd.all yG=true∧hd≠[]∧mo.all yG=true∧mo≠[]
theorem yiM {l:List UInt8} (h:0<yF l):ycj (l.take (vH l)):=by
 have hne:l.take (yF l)≠[]:=by
  intro e
  have:=congrArg List.length e
  rw [List.length_take] at this
  have h2:=vN l
  simp only [List.length_nil] at this
  omega
 rcases yo2 h with h1|⟨c,mo,hc,e,h1,h2⟩
 ·refine .inl ⟨h1,?_⟩
  intro e
  have:=congrArg List.length e
  rw [List.length_take] at this
  have h2:=yov l
  have h3:=you l
  simp only [List.length_nil] at this
  omega
 ·exact .inr ⟨_,c,mo,hc,e,yaU l,hne,h1,h2⟩
theorem ydP {l:List UInt8} (h:l.all yG=true) (hn:l≠[]):yR l=true:=by
 unfold yR;rw [h]
 cases l with
 | nil=>exact absurd rfl hn
 | cons x t=>rfl
theorem yiN {t:List UInt8} (h:ycj t):∃ x r,t=x::r∧yG x=true:=by
 rcases h with ⟨h1,h2⟩|⟨hd,c,mo,-,rfl,h1,h2,-,-⟩
 ·cases t with
  | nil=>exact absurd rfl h2
  | cons x r=>rw [List.all_cons,Bool.and_eq_true] at h1;exact ⟨x,r,rfl,h1.1⟩
 ·cases hd with
  | nil=>exact absurd rfl h2
  | cons x r=>rw [List.all_cons,Bool.and_eq_true] at h1;exact ⟨x,r++c::mo,rfl,h1.1⟩
theorem ygI {t:List UInt8} (h:ycj t):jL t=(vY t).map fun p=>(false,p.1,p.2):=by
 obtain ⟨x,r,rfl,hx⟩:=yiN h
 have hp:Lib.hasPrefix (x::r) [45]=false:=by
  have:((45:UInt8)==x)=false:=by
   rw [beq_eq_false_iff_ne];rintro rfl;exact absurd hx (by decide)
  simp [Lib.hasPrefix,List.isPrefixOf,this]
 unfold jL Lib.trimPrefix
 rw [hp];rfl
theorem yo3 {t:List UInt8} (h:ycj t) (hn:jL t=none):∃ hd mo,t=hd++47::mo∧hd.all yG=true∧hd≠[]∧mo.all yG=true∧mo≠[]∧yX mo=0:=by
 rw [ygI h,Option.map_eq_none_iff] at hn
 rcases h with ⟨h1,h2⟩|⟨hd,c,mo,hc,rfl,h1,h2,h3,h4⟩
 ·rw [ybf t (ydP h1 h2)] at hn;cases hn
 ·rw [yah hd mo c h1 (by rcases hc with rfl|rfl<;>rfl),ydP h1 h2,ydP h3 h4] at hn
  rcases hc with rfl|rfl
  ·rw [if_pos rfl] at hn;simp at hn
  ·rw [if_neg (by decide),if_pos rfl] at hn
   refine ⟨hd,mo,rfl,h1,h2,h3,h4,?_⟩
   by_cases hd0:yX mo=0
   ·exact hd0
   ·rw [show (yX mo==0)=false by simpa using hd0] at hn;simp at hn
theorem yqr {a b m n:Nat} (h:a*m≤b*n):(2^a)^m≤(2^b)^n:=by
 rw [← Nat.pow_mul,← Nat.pow_mul]
 exact Nat.pow_le_pow_right (by omega) h
theorem yow:yC^60≤B9^133:=by
 have h1:yC=2^64:=by rw [yQ]
 have h2:2^29≤B9:=by rw [zN];decide
 rw [h1]
 exact Nat.le_trans (yqr (m:=60) (n:=133) (by omega)) (Nat.pow_le_pow_left h2 133)
theorem yo4 {t:List UInt8} (h:t.length≤1000):uK 133 (yO t):=by
 unfold yO
 cases hr:jL t with
 | none=>exact ⟨Nat.pow_pos jP,Nat.one_lt_pow (by omega) (by rw [zN];omega)⟩
 | some p =>
  obtain ⟨s,n,d⟩:=p
  simp only
  obtain ⟨h1,h2⟩:=ydE hr h (by omega)
  have h3:0<d:=by
   unfold jL at hr
   rw [Option.map_eq_some_iff] at hr
   obtain ⟨⟨a,b⟩,h4,h5⟩:=hr
   cases h5
   exact ycD h4
  exact yaC rfl (Nat.lt_of_lt_of_le h1 yow) (Nat.lt_of_lt_of_le h2 yow) h3
theorem ykO (s:ByteArray) (w:World) (hmax:(s.size:Int)≤1000) (hf:ycj s.data.toList):Calls Tryz.prog 62 #[.string s] w (yby (yO s.data.toList) (jL s.data.toList).isSome w):=by
 have hpl:=ynt s w hmax
 cases hr:jL s.data.toList with
 | some p =>
  obtain ⟨sg,n,d⟩:=p
  rw [hr] at hpl
  refine hpl.mono ?_
  rintro e w' ⟨b,p,n1,c,p2,n2,c2,rfl,hb,hq⟩
  refine ⟨b,p,n1,c,p2,n2,c2,rfl,hb,?_⟩
  have e1:yO s.data.toList=zD sg n d:=by unfold yO;rw [hr]
  rw [e1];exact hq rfl
 | none =>
  obtain ⟨hd,mo,e,h1,h2,h3,h4,h5⟩:=yo3 hf hr
  have e0:yO s.data.toList=zD false (yX hd) (yX mo):=by
   unfold yO;rw [hr,h5]
   unfold zD;simp<;>grind
  rw [e0]
  clear hpl e0
  obtain ⟨l,hl⟩:∃ l,s.data.toList=l:=⟨_,rfl⟩
  have hll:l.length=s.size:=by rw [← hl];simp
  rw [hl] at e
  have hcd:yF l=hd.length:=by
   rw [e];unfold yF
   have:(hd++47::mo).takeWhile yG=hd:=by
    clear e hr hf h2
    induction hd with
    | nil=>rfl
    | cons x hd ih=>rw [List.all_cons,Bool.and_eq_true] at h1;rw [List.cons_append,List.takeWhile_cons,if_pos h1.1,ih h1.2]
   rw [this]
  have jJ:∀ W,Hid (Calls Tryz.prog 65 #[.string s,.int .i64 0] W fun e w'=>e=.returned (.int .i64 ((yF l:Nat):Int))∧W=w'):=fun W=>yA (by rw [← hl];exact ybj s W (by omega))
  have hle:l.length=hd.length+1+mo.length:=by rw [e];simp;omega
  have hp1:=List.length_pos_iff.2 h2
  have hz:0<s.size:=by omega
  have hkl:yF l<s.size:=by omega
  have hm:(((s[0]'hz).toNat:Int)==45)=false:=by
   obtain ⟨x,r,hx,hd1⟩:=yiN hf
   have:s[0]'hz=x:=by
    have h1:s.data.toList[0]'(by simpa using hz)=s[0]'hz:=rfl
    rw [← h1];simp only [hx];rfl
   rw [this,beq_eq_false_iff_ne]
   intro he
   unfold yG at hd1
   simp only [Bool.and_eq_true,decide_eq_true_eq] at hd1
   omega
  have hck:((s[yF l]'hkl).toNat:Int)=((47:Nat):Int):=by
   have h6:l[yF l]?=some 47:=by rw [hcd,e];simp
   have:s[yF l]'hkl=47:=by
    subst hl
    rw [List.getElem?_eq_getElem (by simpa using hkl)] at h6
    exact Option.some.inj h6
   rw [this];rfl
  obtain ⟨mb,hmb⟩:∃ mb,s.extract (yF l+1) s.size=mb:=⟨_,rfl⟩
  obtain ⟨hb,hhb⟩:∃ hb,s.extract 0 (yF l)=hb:=⟨_,rfl⟩
  have lmb:mb.data.toList=mo:=by
   rw [← hmb,extract_to_end,hl,hcd,e];simp
  have lhb:hb.data.toList=hd:=by
   rw [← hhb,extract_upto,hl,hcd,e];simp
  have smb:mb.size=mo.length:=by rw [← lmb];simp
  have shb:hb.size=hd.length:=by rw [← lhb];simp
  have ltl:mb.toList=mo:=by rw [Lib.toList_data];exact lmb
  have jC:∀ W,Hid (Calls Tryz.prog 65 #[.string mb,.int .i64 0] W fun e w'=>e=.returned (.int .i64 ((mo.length:Nat):Int))∧W=w'):=fun W=>yA (by
   have h:=ybj mb W (by omega)
   rwa [lmb,(ybV mo).2 h3] at h)
  have hB:∀ x:List UInt8,x.all yG=true→x.length≤1000→yX x<B9^2000:=fun x hx hxl=>ycr (K:=2000) hx (by omega)
  exact ymz s (yF l) _ _ (yX hd) (yX mo) w (by omega) hz hm jJ (by simp;omega) (by rw [hcd];simp;omega) hkl 47 hck mb hb hmb hhb mo.length jC (by rw [smb];simp) (by rw [ltl,beq_eq_false_iff_ne];exact h4) (by rw [ltl];exact h4) (by rw [ltl];cases h:mo with|nil=>exact absurd h h4|cons x t=>rfl) rfl h5 (fun W=>yA (by rw [← lmb];exact uC mb W (by omega) (by rw [lmb];exact h3))) (fun W=>yA (by rw [← lhb];exact uC hb W (by omega) (by rw [lhb];exact h1))) (yA rfl) (fun W u v hu hv=>by
   have h:=(ybE false u v (yX hd) (yX mo) 2000 W (by omega) (hB hd h1 (by omega)) (hB mo h3 (by omega)) hu hv).mono fun e w' h=>vD.b (sb:=decide ((zD false (yX hd) (yX mo)).num<0)) h rfl
   exact yA h)
def ykA (c:Array Value):Nat→List Value→Array Value
 | _,[]=>c
 | k,v::r=>ykA (c.setIfInBounds k v) (k+1) r
theorem yeh {T g:Nat} (vs:List Value):∀ (k:Nat) (W:World) (c:Array Value),W.heap[g]?=some (.cells c T (0,0))→(ya0 W g k vs).heap[g]?=some (.cells (ykA c k vs) T (0,0)):=by
 induction vs with
 | nil=>intro k W c h;exact h
 | cons v r ih=>intro k W c h;exact ih (k+1) _ _ (yK g k c T v h)
theorem yo5 (vs:List Value):∀ (k:Nat) (c:Array Value) (j:Nat),k+vs.length≤c.size→(ykA c k vs)[j]?=if k≤j∧j<k+vs.length then vs[j-k]? else c[j]?:=by
 induction vs with
 | nil=>intro k c j _;rw [if_neg (by simp)];rfl
 | cons v r ih =>
  intro k c j h
  rw [List.length_cons] at h
  show (ykA (c.setIfInBounds k v) (k+1) r)[j]?=_
  rw [ih (k+1) _ j (by rw [Array.size_setIfInBounds];omega)]
  by_cases h1:k+1≤j∧j<k+1+r.length
  ·rw [if_pos h1,if_pos (by rw [List.length_cons];omega),show j-k=(j-(k+1))+1 by omega,List.getElem?_cons_succ]
  ·rw [if_neg h1]
   by_cases h2:j=k
   ·subst h2
    rw [if_pos (by rw [List.length_cons];omega),Array.getElem?_setIfInBounds_self,if_pos (by omega)]
    simp
   ·rw [if_neg (by rw [List.length_cons];omega),Array.getElem?_setIfInBounds_ne (fun h=>h2 h.symm)]
theorem yhz {T n g:Nat} {W:World} (h:BX T n W g) (vs:List Value) (hl:vs.length=n):(ya0 W g 0 vs).heap[g]?=some (.cells vs.toArray T (0,0)):=by
 obtain ⟨c,h1,h2,-⟩:=h
 rw [yeh vs 0 W c h1]
 have:ykA c 0 vs=vs.toArray:=by
  apply Array.ext_getElem?
  intro j
  rw [yo5 vs 0 c j (by omega)]
  by_cases hj:j<vs.length
  ·rw [if_pos (by omega)];simp
  ·rw [if_neg (by omega),Array.getElem?_eq_none (by omega)]
   simp;omega
 rw [this]
theorem yhA (vs:List Value):∀ (W:World) (g k:Nat),W.setCells g k vs=ya0 W g k vs:=by
 induction vs with
 | nil=>intro W g k;rfl
 | cons v r ih=>intro W g k;exact ih _ g (k+1)
theorem ydQ {c:Prop} [Decidable c] {A B:Prop} (hc:c) (h:A):if c then A else B:=by rw [if_pos hc];exact h
theorem BX.there {T n:Nat} {W:World} {g:Nat} (h:BX T n W g):W.there g 0 n:=fun j hj=>by
 obtain ⟨z,h1,h2⟩:=h.slot j hj
 rw [Nat.zero_add,h1]
 exact ⟨rfl,h2⟩
theorem yha {op:Oper} {a:Act} {w:World} {K:Act→World→Prop} {Q:Exit→Act→World→Prop} (T n:Nat) (x y:Operand) (ho:op.op=.store T x y) (B:Nat) (vs:List Value)
  (hx:a.eval x=.pointer (some ⟨B,0,none⟩)) (hy:a.eval y=.agg vs.toArray) (hb:BX T n w B) (hl:vs.length=n) (hi:(Tryz.prog.info? T).map (·.size)=some n) (hv:∀ v ∈ vs,vP v) (h1:vs.toArray.all (·.oneCell')=true)
  (h:∀ w',w'.heap[B]?=some (.cells vs.toArray T (0,0))→St T n B w w'→K (a.put op.dst undef) w'):op.wp Tryz.prog a w K Q:=by
 refine wp_store_mid T x y ho B 0 vs.toArray hx hy (by rw [List.size_toArray,hl];exact hb.there) (by rw [hi,List.size_toArray,hl]) h1 ?_
 rw [List.toList_toArray,yhA]
 exact h _ (yhz hb vs hl) (St.all hb vs hv)
theorem zO {ops:Array Oper} {rest:List Oper} {op:Oper} {a:Act} {w:World} {Q:Exit→Act→World→Prop} (hgd:op.guard=none) (T n:Nat) (x y:Operand) (ho:op.op=.store T x y) (B:Nat) (vs:List Value)
  (hx:a.eval x=.pointer (some ⟨B,0,none⟩)) (hy:a.eval y=.agg vs.toArray) (hb:BX T n w B) (hl:vs.length=n) (hi:(Tryz.prog.info? T).map (·.size)=some n) (hv:∀ v ∈ vs,vP v) (h1:vs.toArray.all (·.oneCell')=true)
  (h:∀ w',w'.heap[B]?=some (.cells vs.toArray T (0,0))→St T n B w w'→wpList Tryz.prog ops Q rest (a.put op.dst undef) w'):wpList Tryz.prog ops Q (op::rest) a w :=
 wpList_plain hgd fun _ hK=>yha T n x y ho B vs hx hy hb hl hi hv h1 (fun w' h2 h3=>hK _ _ (h w' h2 h3))
theorem vL {T g:Nat} {W:World} {cs:List Value} {d:TypeDesc} (h:W.heap[g]?=some (.cells cs.toArray T (0,0))) (hu:Tryz.prog.underlying T=some d) (hd:d.isRow=true) (hi:(Tryz.prog.info? T).map (·.size)=some cs.length):(loadVar T ⟨g,0,none⟩).run Tryz.prog W=.ok (.agg cs.toArray) W :=
 run_loadVar_mid W g 0 T cs d (fun j v hj=>by rw [Nat.zero_add,yB h];simpa using hj) hu hd hi
theorem vI {fn:Func} {tmps:Array Value} {W:World} {B T a b c:Nat} {cs:Array Value} (hr:fn.results=#[.cell a T,.tmp b,.tmp c]) (ha:tmps.getD a undef=.pointer (some ⟨B,0,none⟩)) (hl:(loadVar T ⟨B,0,none⟩).run Tryz.prog W=.ok (.agg cs) W):(results fn tmps).run Tryz.prog W=.ok (.tuple #[.agg cs,tmps.getD b undef,tmps.getD c undef]) W:=by
 unfold results
 rw [hr]
 have ha2:tmps[a]?.getD undef=.pointer (some ⟨B,0,none⟩):=by simpa using ha
 simp [Array.mapM_eq_mapM_toList,ha2,asAddr,Result.andThen,hl]
def ydI:SymR:=⟨[],0,0,false,[0,0,0,0,0,0,0],false,0,0⟩
structure FacR where
 q:Rat
 s:SymR
 isW:Bool
 e:Int
 ra:Bool
def yc1 (t:List UInt8):Option (Int × Nat):=match t with
 | 45::u=>if yF u=0 then none else some (-whT (u.take (yF u)),1+yF u)
 | _=>if yF t=0 then none else some (whT (t.take (yF t)),yF t)
def yb8 (l:List UInt8):Option (FacR × Nat) :=
 if (jL (l.take (vH l))).isSome&&!(uB (yO (l.take (vH l)))).isEmpty&&decide (0<yO (l.take (vH l))) then some (⟨yO (l.take (vH l)),ydI,false,1,false⟩,vH l) else none
def yoh (q:Rat) (s:SymR) (n:Nat) (x:List UInt8):Option (FacR × Nat):=match x with
 | 94::t=>(yc1 t).map fun p=>(⟨q,s,true,p.1,true⟩,n+1+p.2)
 | _=>some (⟨q,s,true,1,false⟩,n)
def uW (l:List UInt8):Option (FacR × Nat):=match jU (l.take (zG l)) with
 | none=>none
 | some (s,q)=>yoh q s (zG l) (l.drop (zG l))
def uL (l:List UInt8):Option (FacR × Nat):=if 0<yF l then yb8 l else uW l
def yaZ (o:Option (FacR × Nat)) (w:World) (e:Ending) (w':World):Prop :=
 ∃ (qb:Bool) (qx:Option Addr) (qn qc:Nat) (qy:Option Addr) (qm qd:Nat) (SW:ByteArray) (so sb:Int) (pre:Bool) (a0 a1 a2 a3 a4 a5 a6:Int) (off:Bool) (z p:Int) (isw:Bool) (ex:Int) (ra:Bool) (m:Nat),e=.returned (.tuple #[.agg #[.int .i64 0,.bool qb,.slice qx qn qc,.slice qy qm qd,.string SW,.int .i64 so,.int .i64 sb,.bool pre,.int .i64 a0,.int .i64 a1,.int .i64 a2,.int .i64 a3,.int .i64 a4,.int .i64 a5,.int .i64 a6,.bool off,.int .i64 z,.int .i64 p,.bool isw,.int .i64 ex,.bool ra],.int .i64 (m:Int),.bool o.isSome])∧Below w.heap.size w w' ∧
  ∀ f n,o=some (f,n)→m=n∧f=⟨f.q,⟨SW.data.toList,so,sb,pre,[a0,a1,a2,a3,a4,a5,a6],off,z,p⟩,isw,ex,ra⟩∧zH w' (.agg #[.bool qb,.slice qx qn qc,.slice qy qm qd]) f.q
theorem GC (sg:Int) (qb:Bool) (qx:Option Addr) (qn qc:Nat) (qy:Option Addr) (qm qd:Nat) (SW:ByteArray) (so sb:Int) (pre:Bool) (a0 a1 a2 a3 a4 a5 a6:Int) (off:Bool) (z p:Int) (isw:Bool) (ex:Int) (ra:Bool):∀ v ∈ ([.int .i64 sg,.bool qb,.slice qx qn qc,.slice qy qm qd,.string SW,.int .i64 so,.int .i64 sb,.bool pre,.int .i64 a0,.int .i64 a1,.int .i64 a2,.int .i64 a3,.int .i64 a4,.int .i64 a5,.int .i64 a6,.bool off,.int .i64 z,.int .i64 p,.bool isw,.int .i64 ex,.bool ra]:List Value),vP v:=by
 intro v hv
 simp only [List.mem_cons,List.not_mem_nil,or_false] at hv
 rcases hv with rfl|rfl|rfl|rfl|rfl|rfl|rfl|rfl|rfl|rfl|rfl|rfl|rfl|rfl|rfl|rfl|rfl|rfl|rfl|rfl|rfl
 ·exact yD _
 ·exact jI _
 ·exact zA _ _ _
 ·exact zA _ _ _
 ·exact ynF _
 ·exact yD _
 ·exact yD _
 ·exact jI _
 ·exact yD _
 ·exact yD _
 ·exact yD _
 ·exact yD _
 ·exact yD _
 ·exact yD _
 ·exact yD _
 ·exact jI _
 ·exact yD _
 ·exact yD _
 ·exact jI _
 ·exact yD _
 ·exact jI _
theorem uT {W:World} {g:Nat} (h:W.heap[g]?=some (.cells #[.int .i64 0,.bool false,.slice none 0 0,.slice none 0 0,.string ⟨#[]⟩,.int .i64 0,.int .i64 0,.bool false,.int .i64 0,.int .i64 0,.int .i64 0,.int .i64 0,.int .i64 0,.int .i64 0,.int .i64 0,.bool false,.int .i64 0,.int .i64 0,.bool false,.int .i64 0,.bool false] 48 (0,0))):BX 48 21 W g:=by
 refine ⟨_,h,rfl,?_⟩
 intro j v hj
 exact GC 0 false none 0 0 none 0 0 ⟨#[]⟩ 0 0 false 0 0 0 0 0 0 0 false 0 0 false 0 false v (List.mem_of_getElem? (i:=j) (by simpa using hj))
theorem ykP (s:ByteArray) (w:World) (m:Nat) (T:ByteArray) (R:Rat) (Y:ByteArray) (bz:Bool) (hm0:(0:Int)<(m:Int)) (hms:(m:Int)≤s.size) (hs1:s.extract 0 m=T) (HNU:Hid (∀ W,Calls Tryz.prog 61 #[.string s] W fun e w'=>e=.returned (.int .i64 (m:Int))∧W=w')) (sh:Bool) (HPL:Hid (∀ W,Calls Tryz.prog 62 #[.string T] W (yby R false W))) (HTX:Hid (∀ W v,zH W v R→Calls Tryz.prog 36 #[v] W fun e w'=>e=.returned (.tuple #[.string Y,.bool sh])∧Below W.heap.size W w')) (o:Option (FacR × Nat)) (HOT:Hid (o=if false&&sh&&bz then some (⟨R,ydI,false,1,false⟩,m) else none)):Calls Tryz.prog 35 #[.string s] w (yaZ o w):=by
 obtain ⟨B,HBE⟩:∃ B,Hid (w.heap.size=B):=⟨_,yA rfl⟩
 have HBL:Hid (w.heap.size≤B):=yA (Nat.le_of_eq HBE.out)
 have HK0:Hid (Keep w (w.alloc (.cells #[.int .i64 0,.bool false,.slice none 0 0,.slice none 0 0,.string ⟨#[]⟩,.int .i64 0,.int .i64 0,.bool false,.int .i64 0,.int .i64 0,.int .i64 0,.int .i64 0,.int .i64 0,.int .i64 0,.int .i64 0,.bool false,.int .i64 0,.int .i64 0,.bool false,.int .i64 0,.bool false] 48)) [(B,#[.int .i64 0,.bool false,.slice none 0 0,.slice none 0 0,.string ⟨#[]⟩,.int .i64 0,.int .i64 0,.bool false,.int .i64 0,.int .i64 0,.int .i64 0,.int .i64 0,.int .i64 0,.int .i64 0,.int .i64 0,.bool false,.int .i64 0,.int .i64 0,.bool false,.int .i64 0,.bool false],48)]):=yA (by rw [← HBE.out];exact (Keep.nil w).more _ _)
 go_enter Tryz.func35,Tryz.ntmps35
 go_wp2_with fail
 refine (HNU.out _).mono ?_
 rintro e w' ⟨rfl,rfl⟩
 go_wp2_with fail
 refine (HPL.out _).mono ?_
 rintro e w1 ⟨qb,qx,qn,qc,qy,qm,qd,rfl,hb1,hq1⟩
 obtain ⟨gq,HGQ⟩:∃ g,Hid (w1.heap.size=g):=⟨_,yA rfl⟩
 have HK1:Hid (Keep w (w1.alloc (.cells #[.bool qb,.slice qx qn qc,.slice qy qm qd] 44)) [(gq,#[.bool qb,.slice qx qn qc,.slice qy qm qd],44),(B,#[.int .i64 0,.bool false,.slice none 0 0,.slice none 0 0,.string ⟨#[]⟩,.int .i64 0,.int .i64 0,.bool false,.int .i64 0,.int .i64 0,.int .i64 0,.int .i64 0,.int .i64 0,.int .i64 0,.int .i64 0,.bool false,.int .i64 0,.int .i64 0,.bool false,.int .i64 0,.bool false],48)]):=yA (by
  rw [← HGQ.out];exact (HK0.out.next hb1).more _ _)
 have HQ1:Hid (zH (w1.alloc (.cells #[.bool qb,.slice qx qn qc,.slice qy qm qd] 44)) (.agg #[.bool qb,.slice qx qn qc,.slice qy qm qd]) R):=yA (hq1.below (zK _ _))
 have HLB:Hid (B<gq):=yA (by rw [← HGQ.out];exact (HK0.out.next hb1).lt (List.mem_cons_self ..))
 clear hb1 hq1 HK0
 go_wp2_with fail
 refine (HTX.out _ _ HQ1.out).mono ?_
 rintro e w3 ⟨rfl,hb3⟩
 have HK3:=yA (HK1.out.next hb3)
 have HQ3:=yA (HQ1.out.below hb3)
 have HNE:Hid (∀ x ∈ ([(gq,#[.bool qb,.slice qx qn qc,.slice qy qm qd],44)]:List Blk),x.1≠B):=yA (by
  have h1:=HLB.out
  intro x hx
  rw [List.mem_singleton.1 hx]
  dsimp only;omega)
 have HS0:Hid (Keep w w3 [(gq,#[.bool qb,.slice qx qn qc,.slice qy qm qd],44)]∧BX 48 21 w3 B∧zH w3 (.agg #[.bool qb,.slice qx qn qc,.slice qy qm qd]) R):=yA ⟨HK3.out.sub (fun x hx=>by rw [List.mem_singleton.1 hx];simp),uT (HK3.out.one (B,#[.int .i64 0,.bool false,.slice none 0 0,.slice none 0 0,.string ⟨#[]⟩,.int .i64 0,.int .i64 0,.bool false,.int .i64 0,.int .i64 0,.int .i64 0,.int .i64 0,.int .i64 0,.int .i64 0,.int .i64 0,.bool false,.int .i64 0,.int .i64 0,.bool false,.int .i64 0,.bool false],48) (by simp)),HQ3.out⟩
 have HST:Hid (Keep w w3.drew [(gq,#[.bool qb,.slice qx qn qc,.slice qy qm qd],44)]∧BX 48 21 w3.drew B∧zH w3.drew (.agg #[.bool qb,.slice qx qn qc,.slice qy qm qd]) R):=yA ⟨(HK3.out.sub (fun x hx=>by rw [List.mem_singleton.1 hx];simp)).drew,(uT (HK3.out.one (B,#[.int .i64 0,.bool false,.slice none 0 0,.slice none 0 0,.string ⟨#[]⟩,.int .i64 0,.int .i64 0,.bool false,.int .i64 0,.int .i64 0,.int .i64 0,.int .i64 0,.int .i64 0,.int .i64 0,.int .i64 0,.bool false,.int .i64 0,.int .i64 0,.bool false,.int .i64 0,.bool false],48) (by simp))).drew,HQ3.out.below (Below.refl _ _).drew⟩
 rw [HBE.out,HGQ.out]
 clear hb3 HK1 HQ1
 go_upto_region 5 with fail
 have KB:Hid (∀ W,(Keep w W [(gq,#[.bool qb,.slice qx qn qc,.slice qy qm qd],44)]∧BX 48 21 W B∧zH W (.agg #[.bool qb,.slice qx qn qc,.slice qy qm qd]) R)→((fun w'=>(Keep w w' [(gq,#[.bool qb,.slice qx qn qc,.slice qy qm qd],44)]∧BX 48 21 w' B∧zH w' (.agg #[.bool qb,.slice qx qn qc,.slice qy qm qd]) R)∧w'.cell? ⟨gq,0,none⟩=some (.bool qb)∧w'.cell? ⟨gq,1,none⟩=some (.slice qx qn qc)∧w'.cell? ⟨gq,2,none⟩=some (.slice qy qm qd)) W)):=yA (fun W h=>⟨h,yB (h.1.one _ (List.mem_cons_self ..)) 0,yB (h.1.one _ (List.mem_cons_self ..)) 1,yB (h.1.one _ (List.mem_cons_self ..)) 2⟩)
 refine wp_region_held_drew (S:=fun w'=>(Keep w w' [(gq,#[.bool qb,.slice qx qn qc,.slice qy qm qd],44)]∧BX 48 21 w' B∧zH w' (.agg #[.bool qb,.slice qx qn qc,.slice qy qm qd]) R)∧w'.cell? ⟨gq,0,none⟩=some (.bool qb)∧w'.cell? ⟨gq,1,none⟩=some (.slice qx qn qc)∧w'.cell? ⟨gq,2,none⟩=some (.slice qy qm qd)) (by kernel_rfl) (KB.out _ HST.out) (fun hHeld=>?_)
 refine wpAnyH_take (i:=0) (v:=.agg #[.bool qb,.slice qx qn qc,.slice qy qm qd]) rfl (by kernel_rfl) (by kernel_rfl) (by kernel_rfl) (fun _ _ _ h=>h) (Or.inl ⟨by rfl,by intro W hSw;clear hHeld;go_split_ands;go_simp⟩) (by assumption) ?_
 simp only [List.getElem_toArray,List.getElem_cons_zero,Act.put,List.setIfInBounds_toArray,List.set_cons_zero,List.set_cons_succ]
 refine wpAnyH_take (i:=1) (v:=.agg #[.int .i64 0,.bool qb,.slice qx qn qc,.slice qy qm qd,.string ⟨#[]⟩,.int .i64 0,.int .i64 0,.bool false,.int .i64 0,.int .i64 0,.int .i64 0,.int .i64 0,.int .i64 0,.int .i64 0,.int .i64 0,.bool false,.int .i64 0,.int .i64 0,.bool false,.int .i64 1,.bool false]) rfl (by kernel_rfl) (by kernel_rfl) (by kernel_rfl) (fun _ _ _ h=>h) (Or.inl ⟨by rfl,by intro W hSw;clear hHeld;go_split_ands;go_simp⟩) (by assumption) ?_
 simp only [List.getElem_toArray,List.getElem_cons_zero,List.getElem_cons_succ,Act.put,List.setIfInBounds_toArray,List.set_cons_zero,List.set_cons_succ]
 refine wpAnyH_take (i:=2) (v:=.int .i64 (m:Int)) rfl (by kernel_rfl) (by kernel_rfl) (by kernel_rfl) (fun _ _ _ h=>h) (Or.inl ⟨by rfl,by intro W hSw;clear hHeld;go_split_ands;go_simp⟩) (by assumption) ?_
 simp only [List.getElem_toArray,List.getElem_cons_zero,List.getElem_cons_succ,Act.put,List.setIfInBounds_toArray,List.set_cons_zero,List.set_cons_succ]
 refine wpAnyH_take (i:=3) (v:=.bool false) rfl (by kernel_rfl) (by kernel_rfl) (by kernel_rfl) (fun _ _ _ h=>h) (Or.inl ⟨by rfl,by intro W hSw;clear hHeld;go_split_ands;go_simp⟩) (by assumption) ?_
 simp only [List.getElem_toArray,List.getElem_cons_zero,List.getElem_cons_succ,Act.put,List.setIfInBounds_toArray,List.set_cons_zero,List.set_cons_succ]
 refine wpAnyH_take (i:=4) (v:=.bool false) rfl (by kernel_rfl) (by kernel_rfl) (by kernel_rfl) (fun _ _ _ h=>h) (Or.inl ⟨by rfl,by intro W hSw;clear hHeld;go_split_ands;go_simp⟩) (by assumption) ?_
 simp only [List.getElem_toArray,List.getElem_cons_zero,List.getElem_cons_succ,Act.put,List.setIfInBounds_toArray,List.set_cons_zero,List.set_cons_succ]
 refine wpAnyH_take (i:=5) (v:=undef) rfl (by kernel_rfl) (by kernel_rfl) (by kernel_rfl) (fun _ _ _ h=>h) (Or.inr ⟨by rfl,rfl⟩) (by assumption) ?_
 simp only [List.getElem_toArray,List.getElem_cons_zero,List.getElem_cons_succ,Act.put,List.setIfInBounds_toArray,List.set_cons_zero,List.set_cons_succ]
 refine wpAnyH_take (i:=6) (v:=.bool false) rfl (by kernel_rfl) (by kernel_rfl) (by kernel_rfl) (fun _ _ _ h=>h) (Or.inl ⟨by rfl,by intro W hSw;clear hHeld;go_split_ands;go_simp⟩) (by assumption) ?_
 simp only [List.getElem_toArray,List.getElem_cons_zero,List.getElem_cons_succ,Act.put,List.setIfInBounds_toArray,List.set_cons_zero,List.set_cons_succ]
 refine wpAnyH_take (i:=7) (v:=.bool false) rfl (by kernel_rfl) (by kernel_rfl) (by kernel_rfl) (fun _ _ _ h=>h) (Or.inl ⟨by rfl,by intro W hSw;clear hHeld;go_split_ands;go_simp⟩) (by assumption) ?_
 simp only [List.getElem_toArray,List.getElem_cons_zero,List.getElem_cons_succ,Act.put,List.setIfInBounds_toArray,List.set_cons_zero,List.set_cons_succ]
 refine wpAnyH_take (i:=8) (v:=undef) rfl (by kernel_rfl) (by kernel_rfl) (by kernel_rfl) (fun _ _ _ h=>h) (Or.inr ⟨by rfl,rfl⟩) (by assumption) ?_
 simp only [List.getElem_toArray,List.getElem_cons_zero,List.getElem_cons_succ,Act.put,List.setIfInBounds_toArray,List.set_cons_zero,List.set_cons_succ]
 refine wpAnyH_take (i:=9) (v:=undef) rfl (by kernel_rfl) (by kernel_rfl) (by kernel_rfl) (fun _ _ _ h=>h) (Or.inr ⟨by rfl,rfl⟩) (by assumption) ?_
 simp only [List.getElem_toArray,List.getElem_cons_zero,List.getElem_cons_succ,Act.put,List.setIfInBounds_toArray,List.set_cons_zero,List.set_cons_succ]
 refine wpAnyH_take (i:=10) (v:=undef) rfl (by kernel_rfl) (by kernel_rfl) (by kernel_rfl) (fun _ _ _ h=>h) (Or.inr ⟨by rfl,rfl⟩) (by assumption) ?_
 simp only [List.getElem_toArray,List.getElem_cons_zero,List.getElem_cons_succ,Act.put,List.setIfInBounds_toArray,List.set_cons_zero,List.set_cons_succ]
 refine wpAnyH_take (i:=11) (v:=.bool false) rfl (by kernel_rfl) (by kernel_rfl) (by kernel_rfl) (fun _ _ _ h=>h) (Or.inl ⟨by rfl,by intro W hSw;clear hHeld;go_split_ands;go_simp⟩) (by assumption) ?_
 simp only [List.getElem_toArray,List.getElem_cons_zero,List.getElem_cons_succ,Act.put,List.setIfInBounds_toArray,List.set_cons_zero,List.set_cons_succ]
 refine wpAnyH_ready (rs:=[12]) (by kernel_rfl) (by simp) ?_
 refine AllReadyH.cons (i:=12) rfl (fun K hK=>?_) AllReadyH.nil
 refine ydQ (by rfl) ?_
 refine yha 48 21 (.tmp 2) (.tmp 34) rfl B [.int .i64 0,.bool qb,.slice qx qn qc,.slice qy qm qd,.string ⟨#[]⟩,.int .i64 0,.int .i64 0,.bool false,.int .i64 0,.int .i64 0,.int .i64 0,.int .i64 0,.int .i64 0,.int .i64 0,.int .i64 0,.bool false,.int .i64 0,.int .i64 0,.bool false,.int .i64 1,.bool false] rfl rfl hHeld.1.2.1 rfl (by kernel_rfl) (GC _ _ _ _ _ _ _ _ _ _ _ _ _ _ _ _ _ _ _ _ _ _ _ _ _) (by simp [Value.oneCell']) ?_
 intro W9 h9 st9
 refine hK.out _ _ (KB.out _ ⟨st9.keep w _ HBL.out HNE.out hHeld.1.1,st9.box,st9.nums _ _ hHeld.1.2.2⟩) (fun hHeld=>?_)
 have hC9:=yA h9
 clear hK K h9 st9
 simp only [Act.put]
 refine wpAnyH_take (i:=13) (v:=.int .i64 (m:Int)) rfl (by kernel_rfl) (by kernel_rfl) (by kernel_rfl) (fun _ _ _ h=>h) (Or.inl ⟨by rfl,by intro W hSw;clear hHeld;go_split_ands;go_simp⟩) (by assumption) ?_
 simp only [List.getElem_toArray,List.getElem_cons_zero,List.getElem_cons_succ,Act.put,List.setIfInBounds_toArray,List.set_cons_zero,List.set_cons_succ]
 refine wpAnyH_take (i:=14) (v:=.bool false) rfl (by kernel_rfl) (by kernel_rfl) (by kernel_rfl) (fun _ _ _ h=>h) (Or.inl ⟨by rfl,by intro W hSw;clear hHeld;go_split_ands;go_simp⟩) (by assumption) ?_
 simp only [List.getElem_toArray,List.getElem_cons_zero,List.getElem_cons_succ,Act.put,List.setIfInBounds_toArray,List.set_cons_zero,List.set_cons_succ]
 refine wpAnyH_done (by kernel_rfl) ?_ _
 have HBF:=yA hHeld.1.1.below
 have hQF:=yA hHeld.1.2.2
 clear hHeld
 go_wp2_with fail
 refine bodyPost_ret (v:=.tuple #[.agg #[.int .i64 0,.bool qb,.slice qx qn qc,.slice qy qm qd,.string ⟨#[]⟩,.int .i64 0,.int .i64 0,.bool false,.int .i64 0,.int .i64 0,.int .i64 0,.int .i64 0,.int .i64 0,.int .i64 0,.int .i64 0,.bool false,.int .i64 0,.int .i64 0,.bool false,.int .i64 1,.bool false],.int .i64 (m:Int),.bool false]) (vI Tryz.results35 rfl (vL (cs:=[.int .i64 0,.bool qb,.slice qx qn qc,.slice qy qm qd,.string ⟨#[]⟩,.int .i64 0,.int .i64 0,.bool false,.int .i64 0,.int .i64 0,.int .i64 0,.int .i64 0,.int .i64 0,.int .i64 0,.int .i64 0,.bool false,.int .i64 0,.int .i64 0,.bool false,.int .i64 1,.bool false]) hC9.out Tryz.underlying48 rfl (by kernel_rfl))) rfl ?_
 exact ⟨qb,qx,qn,qc,qy,qm,qd,⟨#[]⟩,0,0,false,0,0,0,0,0,0,0,false,0,0,false,1,false,m,by rw [HOT.out];rfl,HBF.out,fun f n h=>by rw [HOT.out] at h;cases h⟩
theorem ykQ (s:ByteArray) (w:World) (m:Nat) (T:ByteArray) (R:Rat) (Y:ByteArray) (bz:Bool) (hm0:(0:Int)<(m:Int)) (hms:(m:Int)≤s.size) (hs1:s.extract 0 m=T) (HNU:Hid (∀ W,Calls Tryz.prog 61 #[.string s] W fun e w'=>e=.returned (.int .i64 (m:Int))∧W=w')) (HPL:Hid (∀ W,Calls Tryz.prog 62 #[.string T] W (yby R true W))) (HTX:Hid (∀ W v,zH W v R→Calls Tryz.prog 36 #[v] W fun e w'=>e=.returned (.tuple #[.string Y,.bool false])∧Below W.heap.size W w')) (o:Option (FacR × Nat)) (HOT:Hid (o=if true&&false&&bz then some (⟨R,ydI,false,1,false⟩,m) else none)):Calls Tryz.prog 35 #[.string s] w (yaZ o w):=by
 obtain ⟨B,HBE⟩:∃ B,Hid (w.heap.size=B):=⟨_,yA rfl⟩
 have HBL:Hid (w.heap.size≤B):=yA (Nat.le_of_eq HBE.out)
 have HK0:Hid (Keep w (w.alloc (.cells #[.int .i64 0,.bool false,.slice none 0 0,.slice none 0 0,.string ⟨#[]⟩,.int .i64 0,.int .i64 0,.bool false,.int .i64 0,.int .i64 0,.int .i64 0,.int .i64 0,.int .i64 0,.int .i64 0,.int .i64 0,.bool false,.int .i64 0,.int .i64 0,.bool false,.int .i64 0,.bool false] 48)) [(B,#[.int .i64 0,.bool false,.slice none 0 0,.slice none 0 0,.string ⟨#[]⟩,.int .i64 0,.int .i64 0,.bool false,.int .i64 0,.int .i64 0,.int .i64 0,.int .i64 0,.int .i64 0,.int .i64 0,.int .i64 0,.bool false,.int .i64 0,.int .i64 0,.bool false,.int .i64 0,.bool false],48)]):=yA (by rw [← HBE.out];exact (Keep.nil w).more _ _)
 go_enter Tryz.func35,Tryz.ntmps35
 go_wp2_with fail
 refine (HNU.out _).mono ?_
 rintro e w' ⟨rfl,rfl⟩
 go_wp2_with fail
 refine (HPL.out _).mono ?_
 rintro e w1 ⟨qb,qx,qn,qc,qy,qm,qd,rfl,hb1,hq1⟩
 obtain ⟨gq,HGQ⟩:∃ g,Hid (w1.heap.size=g):=⟨_,yA rfl⟩
 have HK1:Hid (Keep w (w1.alloc (.cells #[.bool qb,.slice qx qn qc,.slice qy qm qd] 44)) [(gq,#[.bool qb,.slice qx qn qc,.slice qy qm qd],44),(B,#[.int .i64 0,.bool false,.slice none 0 0,.slice none 0 0,.string ⟨#[]⟩,.int .i64 0,.int .i64 0,.bool false,.int .i64 0,.int .i64 0,.int .i64 0,.int .i64 0,.int .i64 0,.int .i64 0,.int .i64 0,.bool false,.int .i64 0,.int .i64 0,.bool false,.int .i64 0,.bool false],48)]):=yA (by
  rw [← HGQ.out];exact (HK0.out.next hb1).more _ _)
 have HQ1:Hid (zH (w1.alloc (.cells #[.bool qb,.slice qx qn qc,.slice qy qm qd] 44)) (.agg #[.bool qb,.slice qx qn qc,.slice qy qm qd]) R):=yA (hq1.below (zK _ _))
 have HLB:Hid (B<gq):=yA (by rw [← HGQ.out];exact (HK0.out.next hb1).lt (List.mem_cons_self ..))
 clear hb1 hq1 HK0
 go_wp2_with fail
 refine (HTX.out _ _ HQ1.out).mono ?_
 rintro e w3 ⟨rfl,hb3⟩
 have HK3:=yA (HK1.out.next hb3)
 have HQ3:=yA (HQ1.out.below hb3)
 have HNE:Hid (∀ x ∈ ([(gq,#[.bool qb,.slice qx qn qc,.slice qy qm qd],44)]:List Blk),x.1≠B):=yA (by
  have h1:=HLB.out
  intro x hx
  rw [List.mem_singleton.1 hx]
  dsimp only;omega)
 have HS0:Hid (Keep w w3 [(gq,#[.bool qb,.slice qx qn qc,.slice qy qm qd],44)]∧BX 48 21 w3 B∧zH w3 (.agg #[.bool qb,.slice qx qn qc,.slice qy qm qd]) R):=yA ⟨HK3.out.sub (fun x hx=>by rw [List.mem_singleton.1 hx];simp),uT (HK3.out.one (B,#[.int .i64 0,.bool false,.slice none 0 0,.slice none 0 0,.string ⟨#[]⟩,.int .i64 0,.int .i64 0,.bool false,.int .i64 0,.int .i64 0,.int .i64 0,.int .i64 0,.int .i64 0,.int .i64 0,.int .i64 0,.bool false,.int .i64 0,.int .i64 0,.bool false,.int .i64 0,.bool false],48) (by simp)),HQ3.out⟩
 have HST:Hid (Keep w w3.drew [(gq,#[.bool qb,.slice qx qn qc,.slice qy qm qd],44)]∧BX 48 21 w3.drew B∧zH w3.drew (.agg #[.bool qb,.slice qx qn qc,.slice qy qm qd]) R):=yA ⟨(HK3.out.sub (fun x hx=>by rw [List.mem_singleton.1 hx];simp)).drew,(uT (HK3.out.one (B,#[.int .i64 0,.bool false,.slice none 0 0,.slice none 0 0,.string ⟨#[]⟩,.int .i64 0,.int .i64 0,.bool false,.int .i64 0,.int .i64 0,.int .i64 0,.int .i64 0,.int .i64 0,.int .i64 0,.int .i64 0,.bool false,.int .i64 0,.int .i64 0,.bool false,.int .i64 0,.bool false],48) (by simp))).drew,HQ3.out.below (Below.refl _ _).drew⟩
 rw [HBE.out,HGQ.out]
 clear hb3 HK1 HQ1
 go_upto_region 5 with fail
 have KB:Hid (∀ W,(Keep w W [(gq,#[.bool qb,.slice qx qn qc,.slice qy qm qd],44)]∧BX 48 21 W B∧zH W (.agg #[.bool qb,.slice qx qn qc,.slice qy qm qd]) R)→((fun w'=>(Keep w w' [(gq,#[.bool qb,.slice qx qn qc,.slice qy qm qd],44)]∧BX 48 21 w' B∧zH w' (.agg #[.bool qb,.slice qx qn qc,.slice qy qm qd]) R)∧w'.cell? ⟨gq,0,none⟩=some (.bool qb)∧w'.cell? ⟨gq,1,none⟩=some (.slice qx qn qc)∧w'.cell? ⟨gq,2,none⟩=some (.slice qy qm qd)) W)):=yA (fun W h=>⟨h,yB (h.1.one _ (List.mem_cons_self ..)) 0,yB (h.1.one _ (List.mem_cons_self ..)) 1,yB (h.1.one _ (List.mem_cons_self ..)) 2⟩)
 refine wp_region_held_drew (S:=fun w'=>(Keep w w' [(gq,#[.bool qb,.slice qx qn qc,.slice qy qm qd],44)]∧BX 48 21 w' B∧zH w' (.agg #[.bool qb,.slice qx qn qc,.slice qy qm qd]) R)∧w'.cell? ⟨gq,0,none⟩=some (.bool qb)∧w'.cell? ⟨gq,1,none⟩=some (.slice qx qn qc)∧w'.cell? ⟨gq,2,none⟩=some (.slice qy qm qd)) (by kernel_rfl) (KB.out _ HST.out) (fun hHeld=>?_)
 refine wpAnyH_take (i:=0) (v:=.agg #[.bool qb,.slice qx qn qc,.slice qy qm qd]) rfl (by kernel_rfl) (by kernel_rfl) (by kernel_rfl) (fun _ _ _ h=>h) (Or.inl ⟨by rfl,by intro W hSw;clear hHeld;go_split_ands;go_simp⟩) (by assumption) ?_
 simp only [List.getElem_toArray,List.getElem_cons_zero,Act.put,List.setIfInBounds_toArray,List.set_cons_zero,List.set_cons_succ]
 refine wpAnyH_take (i:=1) (v:=.agg #[.int .i64 0,.bool qb,.slice qx qn qc,.slice qy qm qd,.string ⟨#[]⟩,.int .i64 0,.int .i64 0,.bool false,.int .i64 0,.int .i64 0,.int .i64 0,.int .i64 0,.int .i64 0,.int .i64 0,.int .i64 0,.bool false,.int .i64 0,.int .i64 0,.bool false,.int .i64 1,.bool false]) rfl (by kernel_rfl) (by kernel_rfl) (by kernel_rfl) (fun _ _ _ h=>h) (Or.inl ⟨by rfl,by intro W hSw;clear hHeld;go_split_ands;go_simp⟩) (by assumption) ?_
 simp only [List.getElem_toArray,List.getElem_cons_zero,List.getElem_cons_succ,Act.put,List.setIfInBounds_toArray,List.set_cons_zero,List.set_cons_succ]
 refine wpAnyH_take (i:=2) (v:=.int .i64 (m:Int)) rfl (by kernel_rfl) (by kernel_rfl) (by kernel_rfl) (fun _ _ _ h=>h) (Or.inl ⟨by rfl,by intro W hSw;clear hHeld;go_split_ands;go_simp⟩) (by assumption) ?_
 simp only [List.getElem_toArray,List.getElem_cons_zero,List.getElem_cons_succ,Act.put,List.setIfInBounds_toArray,List.set_cons_zero,List.set_cons_succ]
 refine wpAnyH_take (i:=3) (v:=.bool true) rfl (by kernel_rfl) (by kernel_rfl) (by kernel_rfl) (fun _ _ _ h=>h) (Or.inl ⟨by rfl,by intro W hSw;clear hHeld;go_split_ands;go_simp⟩) (by assumption) ?_
 simp only [List.getElem_toArray,List.getElem_cons_zero,List.getElem_cons_succ,Act.put,List.setIfInBounds_toArray,List.set_cons_zero,List.set_cons_succ]
 refine wpAnyH_take (i:=4) (v:=.bool true) rfl (by kernel_rfl) (by kernel_rfl) (by kernel_rfl) (fun _ _ _ h=>h) (Or.inl ⟨by rfl,by intro W hSw;clear hHeld;go_split_ands;go_simp⟩) (by assumption) ?_
 simp only [List.getElem_toArray,List.getElem_cons_zero,List.getElem_cons_succ,Act.put,List.setIfInBounds_toArray,List.set_cons_zero,List.set_cons_succ]
 refine wpAnyH_take (i:=5) (v:=.bool false) rfl (by kernel_rfl) (by kernel_rfl) (by kernel_rfl) (fun _ _ _ h=>h) (Or.inl ⟨by rfl,by intro W hSw;clear hHeld;go_split_ands;go_simp⟩) (by assumption) ?_
 simp only [List.getElem_toArray,List.getElem_cons_zero,List.getElem_cons_succ,Act.put,List.setIfInBounds_toArray,List.set_cons_zero,List.set_cons_succ]
 refine wpAnyH_take (i:=6) (v:=.bool false) rfl (by kernel_rfl) (by kernel_rfl) (by kernel_rfl) (fun _ _ _ h=>h) (Or.inl ⟨by rfl,by intro W hSw;clear hHeld;go_split_ands;go_simp⟩) (by assumption) ?_
 simp only [List.getElem_toArray,List.getElem_cons_zero,List.getElem_cons_succ,Act.put,List.setIfInBounds_toArray,List.set_cons_zero,List.set_cons_succ]
 refine wpAnyH_take (i:=7) (v:=.bool false) rfl (by kernel_rfl) (by kernel_rfl) (by kernel_rfl) (fun _ _ _ h=>h) (Or.inl ⟨by rfl,by intro W hSw;clear hHeld;go_split_ands;go_simp⟩) (by assumption) ?_
 simp only [List.getElem_toArray,List.getElem_cons_zero,List.getElem_cons_succ,Act.put,List.setIfInBounds_toArray,List.set_cons_zero,List.set_cons_succ]
 refine wpAnyH_take (i:=8) (v:=undef) rfl (by kernel_rfl) (by kernel_rfl) (by kernel_rfl) (fun _ _ _ h=>h) (Or.inr ⟨by rfl,rfl⟩) (by assumption) ?_
 simp only [List.getElem_toArray,List.getElem_cons_zero,List.getElem_cons_succ,Act.put,List.setIfInBounds_toArray,List.set_cons_zero,List.set_cons_succ]
 refine wpAnyH_take (i:=9) (v:=undef) rfl (by kernel_rfl) (by kernel_rfl) (by kernel_rfl) (fun _ _ _ h=>h) (Or.inr ⟨by rfl,rfl⟩) (by assumption) ?_
 simp only [List.getElem_toArray,List.getElem_cons_zero,List.getElem_cons_succ,Act.put,List.setIfInBounds_toArray,List.set_cons_zero,List.set_cons_succ]
 refine wpAnyH_take (i:=10) (v:=undef) rfl (by kernel_rfl) (by kernel_rfl) (by kernel_rfl) (fun _ _ _ h=>h) (Or.inr ⟨by rfl,rfl⟩) (by assumption) ?_
 simp only [List.getElem_toArray,List.getElem_cons_zero,List.getElem_cons_succ,Act.put,List.setIfInBounds_toArray,List.set_cons_zero,List.set_cons_succ]
 refine wpAnyH_take (i:=11) (v:=.bool false) rfl (by kernel_rfl) (by kernel_rfl) (by kernel_rfl) (fun _ _ _ h=>h) (Or.inl ⟨by rfl,by intro W hSw;clear hHeld;go_split_ands;go_simp⟩) (by assumption) ?_
 simp only [List.getElem_toArray,List.getElem_cons_zero,List.getElem_cons_succ,Act.put,List.setIfInBounds_toArray,List.set_cons_zero,List.set_cons_succ]
 refine wpAnyH_ready (rs:=[12]) (by kernel_rfl) (by simp) ?_
 refine AllReadyH.cons (i:=12) rfl (fun K hK=>?_) AllReadyH.nil
 refine ydQ (by rfl) ?_
 refine yha 48 21 (.tmp 2) (.tmp 34) rfl B [.int .i64 0,.bool qb,.slice qx qn qc,.slice qy qm qd,.string ⟨#[]⟩,.int .i64 0,.int .i64 0,.bool false,.int .i64 0,.int .i64 0,.int .i64 0,.int .i64 0,.int .i64 0,.int .i64 0,.int .i64 0,.bool false,.int .i64 0,.int .i64 0,.bool false,.int .i64 1,.bool false] rfl rfl hHeld.1.2.1 rfl (by kernel_rfl) (GC _ _ _ _ _ _ _ _ _ _ _ _ _ _ _ _ _ _ _ _ _ _ _ _ _) (by simp [Value.oneCell']) ?_
 intro W9 h9 st9
 refine hK.out _ _ (KB.out _ ⟨st9.keep w _ HBL.out HNE.out hHeld.1.1,st9.box,st9.nums _ _ hHeld.1.2.2⟩) (fun hHeld=>?_)
 have hC9:=yA h9
 clear hK K h9 st9
 simp only [Act.put]
 refine wpAnyH_take (i:=13) (v:=.int .i64 (m:Int)) rfl (by kernel_rfl) (by kernel_rfl) (by kernel_rfl) (fun _ _ _ h=>h) (Or.inl ⟨by rfl,by intro W hSw;clear hHeld;go_split_ands;go_simp⟩) (by assumption) ?_
 simp only [List.getElem_toArray,List.getElem_cons_zero,List.getElem_cons_succ,Act.put,List.setIfInBounds_toArray,List.set_cons_zero,List.set_cons_succ]
 refine wpAnyH_take (i:=14) (v:=.bool false) rfl (by kernel_rfl) (by kernel_rfl) (by kernel_rfl) (fun _ _ _ h=>h) (Or.inl ⟨by rfl,by intro W hSw;clear hHeld;go_split_ands;go_simp⟩) (by assumption) ?_
 simp only [List.getElem_toArray,List.getElem_cons_zero,List.getElem_cons_succ,Act.put,List.setIfInBounds_toArray,List.set_cons_zero,List.set_cons_succ]
 refine wpAnyH_done (by kernel_rfl) ?_ _
 have HBF:=yA hHeld.1.1.below
 have hQF:=yA hHeld.1.2.2
 clear hHeld
 go_wp2_with fail
 refine bodyPost_ret (v:=.tuple #[.agg #[.int .i64 0,.bool qb,.slice qx qn qc,.slice qy qm qd,.string ⟨#[]⟩,.int .i64 0,.int .i64 0,.bool false,.int .i64 0,.int .i64 0,.int .i64 0,.int .i64 0,.int .i64 0,.int .i64 0,.int .i64 0,.bool false,.int .i64 0,.int .i64 0,.bool false,.int .i64 1,.bool false],.int .i64 (m:Int),.bool false]) (vI Tryz.results35 rfl (vL (cs:=[.int .i64 0,.bool qb,.slice qx qn qc,.slice qy qm qd,.string ⟨#[]⟩,.int .i64 0,.int .i64 0,.bool false,.int .i64 0,.int .i64 0,.int .i64 0,.int .i64 0,.int .i64 0,.int .i64 0,.int .i64 0,.bool false,.int .i64 0,.int .i64 0,.bool false,.int .i64 1,.bool false]) hC9.out Tryz.underlying48 rfl (by kernel_rfl))) rfl ?_
 exact ⟨qb,qx,qn,qc,qy,qm,qd,⟨#[]⟩,0,0,false,0,0,0,0,0,0,0,false,0,0,false,1,false,m,by rw [HOT.out];rfl,HBF.out,fun f n h=>by rw [HOT.out] at h;cases h⟩
theorem ykR (s:ByteArray) (w:World) (m:Nat) (T:ByteArray) (R:Rat) (Y:ByteArray) (bz:Bool) (hm0:(0:Int)<(m:Int)) (hms:(m:Int)≤s.size) (hs1:s.extract 0 m=T) (HNU:Hid (∀ W,Calls Tryz.prog 61 #[.string s] W fun e w'=>e=.returned (.int .i64 (m:Int))∧W=w')) (zz:Int) (hzz:decide (0<zz)=bz) (HSG:Hid (∀ W v,zH W v R→Calls Tryz.prog 51 #[v] W fun e w'=>e=.returned (.int .i64 zz)∧Below W.heap.size W w')) (HPL:Hid (∀ W,Calls Tryz.prog 62 #[.string T] W (yby R true W))) (HTX:Hid (∀ W v,zH W v R→Calls Tryz.prog 36 #[v] W fun e w'=>e=.returned (.tuple #[.string Y,.bool true])∧Below W.heap.size W w')) (o:Option (FacR × Nat)) (HOT:Hid (o=if true&&true&&bz then some (⟨R,ydI,false,1,false⟩,m) else none)):Calls Tryz.prog 35 #[.string s] w (yaZ o w):=by
 obtain ⟨B,HBE⟩:∃ B,Hid (w.heap.size=B):=⟨_,yA rfl⟩
 have HBL:Hid (w.heap.size≤B):=yA (Nat.le_of_eq HBE.out)
 have HK0:Hid (Keep w (w.alloc (.cells #[.int .i64 0,.bool false,.slice none 0 0,.slice none 0 0,.string ⟨#[]⟩,.int .i64 0,.int .i64 0,.bool false,.int .i64 0,.int .i64 0,.int .i64 0,.int .i64 0,.int .i64 0,.int .i64 0,.int .i64 0,.bool false,.int .i64 0,.int .i64 0,.bool false,.int .i64 0,.bool false] 48)) [(B,#[.int .i64 0,.bool false,.slice none 0 0,.slice none 0 0,.string ⟨#[]⟩,.int .i64 0,.int .i64 0,.bool false,.int .i64 0,.int .i64 0,.int .i64 0,.int .i64 0,.int .i64 0,.int .i64 0,.int .i64 0,.bool false,.int .i64 0,.int .i64 0,.bool false,.int .i64 0,.bool false],48)]):=yA (by rw [← HBE.out];exact (Keep.nil w).more _ _)
 go_enter Tryz.func35,Tryz.ntmps35
 go_wp2_with fail
 refine (HNU.out _).mono ?_
 rintro e w' ⟨rfl,rfl⟩
 go_wp2_with fail
 refine (HPL.out _).mono ?_
 rintro e w1 ⟨qb,qx,qn,qc,qy,qm,qd,rfl,hb1,hq1⟩
 obtain ⟨gq,HGQ⟩:∃ g,Hid (w1.heap.size=g):=⟨_,yA rfl⟩
 have HK1:Hid (Keep w (w1.alloc (.cells #[.bool qb,.slice qx qn qc,.slice qy qm qd] 44)) [(gq,#[.bool qb,.slice qx qn qc,.slice qy qm qd],44),(B,#[.int .i64 0,.bool false,.slice none 0 0,.slice none 0 0,.string ⟨#[]⟩,.int .i64 0,.int .i64 0,.bool false,.int .i64 0,.int .i64 0,.int .i64 0,.int .i64 0,.int .i64 0,.int .i64 0,.int .i64 0,.bool false,.int .i64 0,.int .i64 0,.bool false,.int .i64 0,.bool false],48)]):=yA (by
  rw [← HGQ.out];exact (HK0.out.next hb1).more _ _)
 have HQ1:Hid (zH (w1.alloc (.cells #[.bool qb,.slice qx qn qc,.slice qy qm qd] 44)) (.agg #[.bool qb,.slice qx qn qc,.slice qy qm qd]) R):=yA (hq1.below (zK _ _))
 have HLB:Hid (B<gq):=yA (by rw [← HGQ.out];exact (HK0.out.next hb1).lt (List.mem_cons_self ..))
 clear hb1 hq1 HK0
 go_wp2_with fail
 refine (HTX.out _ _ HQ1.out).mono ?_
 rintro e w3 ⟨rfl,hb3⟩
 have HK3:=yA (HK1.out.next hb3)
 have HQ3:=yA (HQ1.out.below hb3)
 have HNE:Hid (∀ x ∈ ([(gq,#[.bool qb,.slice qx qn qc,.slice qy qm qd],44)]:List Blk),x.1≠B):=yA (by
  have h1:=HLB.out
  intro x hx
  rw [List.mem_singleton.1 hx]
  dsimp only;omega)
 have HS0:Hid (Keep w w3 [(gq,#[.bool qb,.slice qx qn qc,.slice qy qm qd],44)]∧BX 48 21 w3 B∧zH w3 (.agg #[.bool qb,.slice qx qn qc,.slice qy qm qd]) R):=yA ⟨HK3.out.sub (fun x hx=>by rw [List.mem_singleton.1 hx];simp),uT (HK3.out.one (B,#[.int .i64 0,.bool false,.slice none 0 0,.slice none 0 0,.string ⟨#[]⟩,.int .i64 0,.int .i64 0,.bool false,.int .i64 0,.int .i64 0,.int .i64 0,.int .i64 0,.int .i64 0,.int .i64 0,.int .i64 0,.bool false,.int .i64 0,.int .i64 0,.bool false,.int .i64 0,.bool false],48) (by simp)),HQ3.out⟩
 have HST:Hid (Keep w w3.drew [(gq,#[.bool qb,.slice qx qn qc,.slice qy qm qd],44)]∧BX 48 21 w3.drew B∧zH w3.drew (.agg #[.bool qb,.slice qx qn qc,.slice qy qm qd]) R):=yA ⟨(HK3.out.sub (fun x hx=>by rw [List.mem_singleton.1 hx];simp)).drew,(uT (HK3.out.one (B,#[.int .i64 0,.bool false,.slice none 0 0,.slice none 0 0,.string ⟨#[]⟩,.int .i64 0,.int .i64 0,.bool false,.int .i64 0,.int .i64 0,.int .i64 0,.int .i64 0,.int .i64 0,.int .i64 0,.int .i64 0,.bool false,.int .i64 0,.int .i64 0,.bool false,.int .i64 0,.bool false],48) (by simp))).drew,HQ3.out.below (Below.refl _ _).drew⟩
 rw [HBE.out,HGQ.out]
 clear hb3 HK1 HQ1
 go_upto_region 5 with fail
 have KB:Hid (∀ W,(Keep w W [(gq,#[.bool qb,.slice qx qn qc,.slice qy qm qd],44)]∧BX 48 21 W B∧zH W (.agg #[.bool qb,.slice qx qn qc,.slice qy qm qd]) R)→((fun w'=>(Keep w w' [(gq,#[.bool qb,.slice qx qn qc,.slice qy qm qd],44)]∧BX 48 21 w' B∧zH w' (.agg #[.bool qb,.slice qx qn qc,.slice qy qm qd]) R)∧w'.cell? ⟨gq,0,none⟩=some (.bool qb)∧w'.cell? ⟨gq,1,none⟩=some (.slice qx qn qc)∧w'.cell? ⟨gq,2,none⟩=some (.slice qy qm qd)) W)):=yA (fun W h=>⟨h,yB (h.1.one _ (List.mem_cons_self ..)) 0,yB (h.1.one _ (List.mem_cons_self ..)) 1,yB (h.1.one _ (List.mem_cons_self ..)) 2⟩)
 refine wp_region_held_drew (S:=fun w'=>(Keep w w' [(gq,#[.bool qb,.slice qx qn qc,.slice qy qm qd],44)]∧BX 48 21 w' B∧zH w' (.agg #[.bool qb,.slice qx qn qc,.slice qy qm qd]) R)∧w'.cell? ⟨gq,0,none⟩=some (.bool qb)∧w'.cell? ⟨gq,1,none⟩=some (.slice qx qn qc)∧w'.cell? ⟨gq,2,none⟩=some (.slice qy qm qd)) (by kernel_rfl) (KB.out _ HST.out) (fun hHeld=>?_)
 refine wpAnyH_take (i:=0) (v:=.agg #[.bool qb,.slice qx qn qc,.slice qy qm qd]) rfl (by kernel_rfl) (by kernel_rfl) (by kernel_rfl) (fun _ _ _ h=>h) (Or.inl ⟨by rfl,by intro W hSw;clear hHeld;go_split_ands;go_simp⟩) (by assumption) ?_
 simp only [List.getElem_toArray,List.getElem_cons_zero,Act.put,List.setIfInBounds_toArray,List.set_cons_zero,List.set_cons_succ]
 refine wpAnyH_take (i:=1) (v:=.agg #[.int .i64 0,.bool qb,.slice qx qn qc,.slice qy qm qd,.string ⟨#[]⟩,.int .i64 0,.int .i64 0,.bool false,.int .i64 0,.int .i64 0,.int .i64 0,.int .i64 0,.int .i64 0,.int .i64 0,.int .i64 0,.bool false,.int .i64 0,.int .i64 0,.bool false,.int .i64 1,.bool false]) rfl (by kernel_rfl) (by kernel_rfl) (by kernel_rfl) (fun _ _ _ h=>h) (Or.inl ⟨by rfl,by intro W hSw;clear hHeld;go_split_ands;go_simp⟩) (by assumption) ?_
 simp only [List.getElem_toArray,List.getElem_cons_zero,List.getElem_cons_succ,Act.put,List.setIfInBounds_toArray,List.set_cons_zero,List.set_cons_succ]
 refine wpAnyH_take (i:=2) (v:=.int .i64 (m:Int)) rfl (by kernel_rfl) (by kernel_rfl) (by kernel_rfl) (fun _ _ _ h=>h) (Or.inl ⟨by rfl,by intro W hSw;clear hHeld;go_split_ands;go_simp⟩) (by assumption) ?_
 simp only [List.getElem_toArray,List.getElem_cons_zero,List.getElem_cons_succ,Act.put,List.setIfInBounds_toArray,List.set_cons_zero,List.set_cons_succ]
 refine wpAnyH_take (i:=3) (v:=.bool true) rfl (by kernel_rfl) (by kernel_rfl) (by kernel_rfl) (fun _ _ _ h=>h) (Or.inl ⟨by rfl,by intro W hSw;clear hHeld;go_split_ands;go_simp⟩) (by assumption) ?_
 simp only [List.getElem_toArray,List.getElem_cons_zero,List.getElem_cons_succ,Act.put,List.setIfInBounds_toArray,List.set_cons_zero,List.set_cons_succ]
 refine wpAnyH_take (i:=4) (v:=.bool true) rfl (by kernel_rfl) (by kernel_rfl) (by kernel_rfl) (fun _ _ _ h=>h) (Or.inl ⟨by rfl,by intro W hSw;clear hHeld;go_split_ands;go_simp⟩) (by assumption) ?_
 simp only [List.getElem_toArray,List.getElem_cons_zero,List.getElem_cons_succ,Act.put,List.setIfInBounds_toArray,List.set_cons_zero,List.set_cons_succ]
 refine wpAnyH_take (i:=5) (v:=.bool true) rfl (by kernel_rfl) (by kernel_rfl) (by kernel_rfl) (fun _ _ _ h=>h) (Or.inl ⟨by rfl,by intro W hSw;clear hHeld;go_split_ands;go_simp⟩) (by assumption) ?_
 simp only [List.getElem_toArray,List.getElem_cons_zero,List.getElem_cons_succ,Act.put,List.setIfInBounds_toArray,List.set_cons_zero,List.set_cons_succ]
 refine wpAnyH_take (i:=6) (v:=.bool true) rfl (by kernel_rfl) (by kernel_rfl) (by kernel_rfl) (fun _ _ _ h=>h) (Or.inl ⟨by rfl,by intro W hSw;clear hHeld;go_split_ands;go_simp⟩) (by assumption) ?_
 simp only [List.getElem_toArray,List.getElem_cons_zero,List.getElem_cons_succ,Act.put,List.setIfInBounds_toArray,List.set_cons_zero,List.set_cons_succ]
 refine wpAnyH_take (i:=7) (v:=.bool true) rfl (by kernel_rfl) (by kernel_rfl) (by kernel_rfl) (fun _ _ _ h=>h) (Or.inl ⟨by rfl,by intro W hSw;clear hHeld;go_split_ands;go_simp⟩) (by assumption) ?_
 simp only [List.getElem_toArray,List.getElem_cons_zero,List.getElem_cons_succ,Act.put,List.setIfInBounds_toArray,List.set_cons_zero,List.set_cons_succ]
 refine wpAnyH_take (i:=8) (v:=.agg #[.bool qb,.slice qx qn qc,.slice qy qm qd]) rfl (by kernel_rfl) (by kernel_rfl) (by kernel_rfl) (fun _ _ _ h=>h) (Or.inl ⟨by rfl,by intro W hSw;clear hHeld;go_split_ands;go_simp⟩) (by assumption) ?_
 simp only [List.getElem_toArray,List.getElem_cons_zero,List.getElem_cons_succ,Act.put,List.setIfInBounds_toArray,List.set_cons_zero,List.set_cons_succ]
 refine wpAnyH_ready (rs:=[9]) (by kernel_rfl) (by simp) ?_
 refine AllReadyH.cons (i:=9) rfl (fun K hK=>?_) AllReadyH.nil
 go_simp
 refine (HSG.out _ _ hHeld.1.2.2).mono ?_
 rintro e v1 ⟨rfl,hb1⟩
 go_simp
 refine hK.out _ _ (KB.out _ ⟨hHeld.1.1.next hb1,hHeld.1.2.1.below hb1,hHeld.1.2.2.below hb1⟩) (fun hHeld=>?_)
 clear hK K
 refine wpAnyH_take (i:=10) (v:=.bool bz) rfl (by kernel_rfl) (by kernel_rfl) (by kernel_rfl) (fun _ _ _ h=>h) (Or.inl ⟨by rfl,by intro W hSw;clear hHeld;go_split_ands;go_simp⟩) (by assumption) ?_
 simp only [List.getElem_toArray,List.getElem_cons_zero,List.getElem_cons_succ,Act.put,List.setIfInBounds_toArray,List.set_cons_zero,List.set_cons_succ]
 refine wpAnyH_take (i:=11) (v:=.bool bz) rfl (by kernel_rfl) (by kernel_rfl) (by kernel_rfl) (fun _ _ _ h=>h) (Or.inl ⟨by rfl,by intro W hSw;clear hHeld;go_split_ands;go_simp⟩) (by assumption) ?_
 simp only [List.getElem_toArray,List.getElem_cons_zero,List.getElem_cons_succ,Act.put,List.setIfInBounds_toArray,List.set_cons_zero,List.set_cons_succ]
 refine wpAnyH_ready (rs:=[12]) (by kernel_rfl) (by simp) ?_
 refine AllReadyH.cons (i:=12) rfl (fun K hK=>?_) AllReadyH.nil
 refine ydQ (by rfl) ?_
 refine yha 48 21 (.tmp 2) (.tmp 34) rfl B [.int .i64 0,.bool qb,.slice qx qn qc,.slice qy qm qd,.string ⟨#[]⟩,.int .i64 0,.int .i64 0,.bool false,.int .i64 0,.int .i64 0,.int .i64 0,.int .i64 0,.int .i64 0,.int .i64 0,.int .i64 0,.bool false,.int .i64 0,.int .i64 0,.bool false,.int .i64 1,.bool false] rfl rfl hHeld.1.2.1 rfl (by kernel_rfl) (GC _ _ _ _ _ _ _ _ _ _ _ _ _ _ _ _ _ _ _ _ _ _ _ _ _) (by simp [Value.oneCell']) ?_
 intro W9 h9 st9
 refine hK.out _ _ (KB.out _ ⟨st9.keep w _ HBL.out HNE.out hHeld.1.1,st9.box,st9.nums _ _ hHeld.1.2.2⟩) (fun hHeld=>?_)
 have hC9:=yA h9
 clear hK K h9 st9
 simp only [Act.put]
 refine wpAnyH_take (i:=13) (v:=.int .i64 (m:Int)) rfl (by kernel_rfl) (by kernel_rfl) (by kernel_rfl) (fun _ _ _ h=>h) (Or.inl ⟨by rfl,by intro W hSw;clear hHeld;go_split_ands;go_simp⟩) (by assumption) ?_
 simp only [List.getElem_toArray,List.getElem_cons_zero,List.getElem_cons_succ,Act.put,List.setIfInBounds_toArray,List.set_cons_zero,List.set_cons_succ]
 refine wpAnyH_take (i:=14) (v:=.bool bz) rfl (by kernel_rfl) (by kernel_rfl) (by kernel_rfl) (fun _ _ _ h=>h) (Or.inl ⟨by rfl,by intro W hSw;clear hHeld;go_split_ands;go_simp⟩) (by assumption) ?_
 simp only [List.getElem_toArray,List.getElem_cons_zero,List.getElem_cons_succ,Act.put,List.setIfInBounds_toArray,List.set_cons_zero,List.set_cons_succ]
 refine wpAnyH_done (by kernel_rfl) ?_ _
 have HBF:=yA hHeld.1.1.below
 have hQF:=yA hHeld.1.2.2
 clear hHeld
 go_wp2_with fail
 refine bodyPost_ret (v:=.tuple #[.agg #[.int .i64 0,.bool qb,.slice qx qn qc,.slice qy qm qd,.string ⟨#[]⟩,.int .i64 0,.int .i64 0,.bool false,.int .i64 0,.int .i64 0,.int .i64 0,.int .i64 0,.int .i64 0,.int .i64 0,.int .i64 0,.bool false,.int .i64 0,.int .i64 0,.bool false,.int .i64 1,.bool false],.int .i64 (m:Int),.bool bz]) (vI Tryz.results35 rfl (vL (cs:=[.int .i64 0,.bool qb,.slice qx qn qc,.slice qy qm qd,.string ⟨#[]⟩,.int .i64 0,.int .i64 0,.bool false,.int .i64 0,.int .i64 0,.int .i64 0,.int .i64 0,.int .i64 0,.int .i64 0,.int .i64 0,.bool false,.int .i64 0,.int .i64 0,.bool false,.int .i64 1,.bool false]) hC9.out Tryz.underlying48 rfl (by kernel_rfl))) rfl ?_
 exact ⟨qb,qx,qn,qc,qy,qm,qd,⟨#[]⟩,0,0,false,0,0,0,0,0,0,0,false,0,0,false,1,false,m,by rw [HOT.out];cases bz<;>rfl,HBF.out,fun f n h=>by
  rw [HOT.out] at h
  cases bz with
  | false=>rw [if_neg (by decide)] at h;cases h
  | true =>
   have h2:some ((⟨R,ydI,false,1,false⟩:FacR),m)=some (f,n):=h
   cases h2
   exact ⟨rfl,rfl,hQF.out⟩⟩
theorem yo6 (s:ByteArray) (w:World) (hs:(s.size:Int)≤1000) (hc:0<yF s.data.toList):Calls Tryz.prog 35 #[.string s] w (yaZ (yb8 s.data.toList) w):=by
 obtain ⟨m,HM⟩:∃ m,Hid (vH s.data.toList=m):=⟨_,yA rfl⟩
 have HNU:Hid (∀ W,Calls Tryz.prog 61 #[.string s] W fun e w'=>e=.returned (.int .i64 (m:Int))∧W=w'):=yA (fun W=>by
  have h:=yaQ s W (by omega)
  have e:ycg s.data.toList=m:=by rw [← HM.out];unfold ycg;rw [if_neg (by omega)]
  rwa [e] at h)
 have hm0:(0:Int)<(m:Int):=by have:=yov s.data.toList;rw [HM.out] at this;omega
 have hms:(m:Int)≤s.size:=by have:=you s.data.toList;rw [HM.out] at this;simp at this;omega
 obtain ⟨T,hs1⟩:∃ T,s.extract 0 m=T:=⟨_,rfl⟩
 have HTD:Hid (T.data.toList=s.data.toList.take m):=yA (by rw [← hs1,extract_upto])
 have HTS:Hid ((T.size:Int)≤1000):=yA (by
  have:T.data.toList.length=T.size:=by simp
  rw [HTD.out,List.length_take] at this
  have h2:s.data.toList.length=s.size:=by simp
  omega)
 obtain ⟨R,HR⟩:∃ R,Hid (yO T.data.toList=R):=⟨_,yA rfl⟩
 obtain ⟨b,HB⟩:∃ b,Hid ((jL T.data.toList).isSome=b):=⟨_,yA rfl⟩
 have HRL:Hid (uK 133 R):=yA (by
  rw [← HR.out]
  refine yo4 ?_
  have:T.data.toList.length=T.size:=by simp
  have:=HTS.out
  omega)
 have HPL:Hid (∀ W,Calls Tryz.prog 62 #[.string T] W (yby R b W)):=yA (fun W=>by
  have h:=ykO T W HTS.out (by rw [HTD.out,← HM.out];exact yiM hc)
  rwa [HR.out,HB.out] at h)
 obtain ⟨Y,HY⟩:∃ Y:ByteArray,Hid ((⟨(uB R).toArray⟩:ByteArray)=Y):=⟨_,yA rfl⟩
 obtain ⟨sh,HSH⟩:∃ b,Hid ((!(uB R).isEmpty)=b):=⟨_,yA rfl⟩
 have HTX:Hid (∀ W v,zH W v R→Calls Tryz.prog 36 #[v] W fun e w'=>e=.returned (.tuple #[.string Y,.bool sh])∧Below W.heap.size W w'):=yA (fun W v hv=>by
  have h:=ykm v R 133 W (by omega) HRL.out hv
  unfold ydX at h
  rwa [HY.out,HSH.out] at h)
 obtain ⟨zz,HZZ⟩:∃ zz,Hid (yeN R=zz):=⟨_,yA rfl⟩
 obtain ⟨bz,HBZ⟩:∃ bz,Hid (decide (0<R)=bz):=⟨_,yA rfl⟩
 have hzz:decide (0<zz)=bz:=by rw [← HZZ.out,← HBZ.out];exact yrM R
 have HSG:Hid (∀ W v,zH W v R→Calls Tryz.prog 51 #[v] W fun e w'=>e=.returned (.int .i64 zz)∧Below W.heap.size W w'):=yA (fun W v hv=>by rw [← HZZ.out];exact yrb v R W hv)
 have HOT:Hid (yb8 s.data.toList=if b&&sh&&bz then some (⟨R,ydI,false,1,false⟩,m) else none):=yA (by
  unfold yb8
  rw [HM.out,← HTD.out,HR.out,HB.out,HSH.out,HBZ.out])
 cases b with
 | false=>exact ykP s w m T R Y bz hm0 hms hs1 HNU sh HPL HTX _ HOT
 | true =>
  cases sh with
  | false=>exact ykQ s w m T R Y bz hm0 hms hs1 HNU HPL HTX _ HOT
  | true=>exact ykR s w m T R Y bz hm0 hms hs1 HNU zz hzz HSG HPL HTX _ HOT
end Go.Proofs.YtfjnipkpfbkegaaGreatDoor
