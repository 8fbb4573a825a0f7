/- Contracts. -/
import Derived.Test.YtgepehlpjpccaaaGreatDoorPart01
import Derived.StillTailTactics
set_option maxHeartbeats 1600000
set_option maxRecDepth 100000
namespace Go.Proofs.YtgepehlpjpccaaaGreatDoor
open Go.RowKit Big
theorem yii (g n c:Nat) (L:List Nat) (w:World) (hn:0<n) (hL:n≤L.length) (hr:zZ w g 86 L) :
  ∃ w',(∀ ty,(Builtin.clear_ #[96] ty #[.slice (some ⟨g,0,none⟩) n c]).run Tryz.prog w=.ok (.tuple #[]) w')∧Only g w w'∧zZ w' g 86 (List.replicate n 0++L.drop n):=by
 obtain ⟨i0,hi,hz0,hz1,hz2⟩:=info_parts uO
 have hs:=run_storeCells_at Tryz.prog g 0 86 (zL (List.replicate n 0)) 0 (zL L).toArray w hr (by simp [zL];exact hL) (ybG _)
 have hz:(Builtin.zeroCells #[Value.int .u64 0] n).toList=zL (List.replicate n 0):=by
  apply List.ext_getElem
  ·simp [Builtin.zeroCells,zL]
  ·intro i h1 h2
   simp [Builtin.zeroCells,zL,Nat.mod_one]
 obtain ⟨m,rfl⟩:∃ m,n=m+1:=⟨n-1,by omega⟩
 have hzv:(zeroValue 86).run Tryz.prog w=.ok (.int .u64 0) w:=by
  simp [zeroValue,typeInfo,hi,hz0]
 have jY:∀ ty,(Builtin.clear_ #[96] ty #[.slice (some ⟨g,0,none⟩) (m+1) c]).run Tryz.prog w=.ok (.tuple #[]) (w.setRow g (((zL L).toArray.toList.take (0+0))++zL (List.replicate (m+1) 0)++(zL L).toArray.toList.drop (0+0+(zL (List.replicate (m+1) 0)).length)).toArray):=by
  intro ty
  simp only [Builtin.clear_]
  simp [run_underlying Tryz.underlying96,hzv,Value.cells,hz,hs]
 refine ⟨_,jY,⟨rfl,rfl,rfl,by simp [World.setRow],fun k hk=>setRow_other w g k _ hk⟩,?_⟩
 unfold zZ
 rw [setRow_heap w g _ _ 86 (0,0) hr]
 simp [zL,List.map_drop]
theorem ytH (L L':List Nat) (k n N:Nat) (x y:List Nat) (c:Nat) (hN:N=n+y.length) (hL:N≤L.length) (hk:k<y.length) (zM:Put L k n L') (hd:yQ yB (yT L' k n)) (hc:c<yB)
  (hv:val yB (yT L' k n)+yB^n*c=val yB (yT L k n)+val yB x*y.getD k 0) (hin:val yB (yT L 0 (n+k))=val yB x*val yB (y.take k)) (hdL:yQ yB (yT L 0 N)) (hz:∀ j,n+k≤j→j<N→L.getD j 0=0) :
  val yB (yT (L'.set (k+n) c) 0 (n+(k+1)))=val yB x*val yB (y.take (k+1))∧yQ yB (yT (L'.set (k+n) c) 0 N)∧∀ j,n+(k+1)≤j→j<N→(L'.set (k+n) c).getD j 0=0:=by
 have ybB:=zM.set c
 have hlen:(L'.set (k+n) c).length=L.length:=ybB.length
 have ygT:∀ M:List Nat,∀ a b,yT M 0 (a+b)=yT M 0 a++yT M a b:=by
  intro M a b;simp only [yT,List.drop_zero];rw [List.take_add]
 have h1:yT (L'.set (k+n) c) 0 (n+(k+1))=yT L 0 k++(yT L' k n++[c]):=by
  rw [show n+(k+1)=k+(n+1) from by omega,ygT,ybB.before_seg 0 k (by omega),zM.seg_set (by omega)]
 have h2:yT L 0 (n+k)=yT L 0 k++yT L k n:=by rw [show n+k=k+n from by omega,ygT]
 have hl0:(yT L 0 k).length=k:=zP _ _ _ (by omega)
 have hl1:(yT L' k n).length=n:=zP _ _ _ (by rw [zM.length];omega)
 refine ⟨?_,?_,?_⟩
 ·rw [h1,uD,jJ,hl0,hl1,hv,yO]
  rw [h2,uD,hl0] at hin
  rw [Nat.mul_add,Nat.mul_add,← hin]
  grind
 ·have e:yT (L'.set (k+n) c) 0 N=yT (L'.set (k+n) c) 0 (n+(k+1))++yT (L'.set (k+n) c) (n+(k+1)) (N-(n+(k+1))):=by
   rw [← ygT];congr 1;omega
  rw [e,h1]
  have e2:yT L 0 N=yT L 0 k++yT L k (N-k):=by rw [← ygT];congr 1;omega
  have e3:yT L 0 N=yT L 0 (n+(k+1))++yT L (n+(k+1)) (N-(n+(k+1))):=by rw [← ygT];congr 1;omega
  refine (yQ.append ?_ (hd.append (yQ.one hc))).append ?_
  ·rw [e2] at hdL;exact hdL.left
  ·rw [ybB.behind_seg _ _ (by omega)];rw [e3] at hdL;exact hdL.right
 ·intro j h3 h4
  rw [ybB.getD j (by omega)];exact hz j (by omega) h4
def ygl (X g cz:Nat) (base w:World) (e:Ending) (w':World):Prop :=
 ∃ k L,e=.returned (.slice (some ⟨g,0,none⟩) k cz)∧k≤cz∧zZ w' g 86 L∧L.length=cz∧yW yB (L.take k)∧val yB (L.take k)=X∧Be base w'∧w.heap.size≤w'.heap.size∧∀ b,b<w.heap.size→b≠g→w'.heap[b]?=w.heap[b]?
theorem yek {p:Oa} {n c:Nat} {l:List Nat} {w w':World} {e:Ending} (hl:l.length=n) (hd:yQ yB l) (h:yhT p n c l w e w'):∃ k,k≤n∧e=.returned (.slice p k c)∧w=w'∧yW yB (l.take k)∧val yB (l.take k)=val yB l:=by
 obtain ⟨k,hk,rfl,rfl,hz,h0⟩:=h
 refine ⟨k,hk,rfl,rfl,⟨hd.take k,?_⟩,?_⟩
 ·rcases h0 with rfl|h0
  ·simp
  ·obtain ⟨j,rfl⟩:∃ j,k=j+1:=⟨k-1,by
    have:k≠0:=by
     rintro rfl
     by_cases h1:0<n
     ·exact h0 (hz 0 (by omega) h1)
     ·apply h0;rw [List.getD_eq_getElem?_getD,List.getElem?_eq_none (by omega)];rfl
    omega⟩
   rw [List.getLast?_eq_getElem?,List.length_take,Nat.min_eq_left (by omega),Nat.add_sub_cancel,List.getElem?_take_of_lt (by omega)]
   rw [Nat.add_sub_cancel,List.getD_eq_getElem?_getD] at h0
   intro e1;rw [e1] at h0;exact h0 rfl
 ·rw [vQ yB l k (by omega),yd7 l k (fun j h1 h2=>hz j h1 (by omega))]
  omega
theorem yj9 (pz:Oa) (nz zc:Nat) (p:Oa) (n c:Nat) (x:List Nat) (q:Oa) (m d:Nat) (y:List Nat) (base w:World) (yvb:n+m≤yF) (ynM:0<n+m) (hzc:zc<n+m)
  (hx:Rd w p n x) (hy:Rd w q m y) (dx:yQ yB x) (dy:yQ yB y) (hb:Be base w) :
  Calls Tryz.prog 177 #[.slice pz nz zc,.slice p n c,.slice q m d] w (ygl (val yB x*val yB y) w.heap.size (n+m) base w):=by
 obtain ⟨i0,hi,hz0,hz1,hz2⟩:=info_parts uO
 have hc64:(n:Int)+m≤4294967296:=by unfold yF at yvb;omega
 have hdec:decide ((zc:Int)<n+m)=true:=by simp;omega
 have hcz:n+m≤yF:=yvb
 have hpx:n=0∨∀ b o,p=some ⟨b,o,none⟩→b≠w.heap.size:=by
  rcases hx.cell with h|⟨b,o,h1,h2,_⟩
  ·exact .inl h
  ·refine .inr fun b' o' h=>?_
   rw [h1] at h;cases h;omega
 have hqy:m=0∨∀ b o,q=some ⟨b,o,none⟩→b≠w.heap.size:=by
  rcases hy.cell with h|⟨b,o,h1,h2,_⟩
  ·exact .inl h
  ·refine .inr fun b' o' h=>?_
   rw [h1] at h;cases h;omega
 have hg:=hb.size
 go_in
 go_wp2_with (at_make;refine wpList_make_full _ rfl _ _ 96 rfl w.heap.size 86 i0 (.int .u64 0) 1 Tryz.underlying96 hi hz0 hz1 _ _ _ _ (n+m) rfl rfl (by omega) (by omega) ?b2 ?b3 nl ?_)
 case b2=>rw [hz2];unfold yF at yvb;omega
 case b3=>unfold maxLen;unfold yF at yvb;omega
 intro w1 yR yZ
 have hr1:zZ w1 w.heap.size 86 (List.replicate (n+m) 0):=jR yR
 have yrU:Be w w1:=bR.grown yZ nl (fun k h=>by cases h)
 obtain ⟨w2,hclr,ho2,hr2⟩:=yii w.heap.size (n+m) (n+m) _ w1 ynM (by simp) hr1
 rw [List.drop_of_length_le (by simp)] at hr2
 have Hclr:=yA hclr
 clear yR yZ hclr hr1
 go_wp2_with fail
 rw [Hclr.out]
 have hx2:Rd w2 p n x:=ho2.rd (hx.below yrU) hpx
 have hy2:Rd w2 q m y:=ho2.rd (hy.below yrU) hqy
 have hL2:(List.replicate (n+m) 0++([]:List Nat)).length=(n+m):=by simp
 obtain ⟨L0,hL0⟩:∃ L0,Hid (L0=List.replicate (n+m) 0++([]:List Nat)):=⟨_,yA rfl⟩
 rw [← hL0.out] at hr2 hL2
 have hs0:yT L0 0 (n+m)=List.replicate (n+m) 0:=by rw [hL0.out];simp [yT]
 have hz0:∀ j,n+0≤j→j<n+m→L0.getD j 0=0:=by
  intro j h1 h2
  rw [hL0.out,List.getD_eq_getElem?_getD,List.getElem?_append_left (by simp;omega)]
  simp [h2]
 have hv0:val yB (yT L0 0 (n+0))=val yB x*val yB (y.take 0):=by
  rw [show n+0=n from rfl,← yg0 L0 0 (n+m) n (by omega),hs0]
  simp [GH,val]
 have hd0:yQ yB (yT L0 0 (n+m)):=by rw [hs0];exact yQ.zeros yU _
 have yjv:∃ (k:Nat) (L:List Nat),k≤m∧Value.int .i64 0=.int .i64 k∧zZ w2 w.heap.size 86 L∧L.length=(n+m)∧yQ yB (yT L 0 (n+m))∧val yB (yT L 0 (n+k))=val yB x*val yB (y.take k)∧(∀ j,n+k≤j→j<n+m→L.getD j 0=0)∧Only w.heap.size w2 w2 :=
  ⟨0,L0,Nat.zero_le _,rfl,hr2,hL2,hd0,hv0,hz0,Only.refl _ _⟩
 have Hstart:=yA yjv
 clear yjv hs0 hz0 hv0 hd0 hL0 hr2 hL2
 go_wp2
 go_loopw [27] (fun i wr=>∃ (k:Nat) (L:List Nat),k≤m∧i=.int .i64 k∧zZ wr w.heap.size 86 L∧L.length=(n+m)∧yQ yB (yT L 0 (n+m))∧val yB (yT L 0 (n+k))=val yB x*val yB (y.take k)∧(∀ j,n+k≤j→j<n+m→L.getD j 0=0)∧Only w.heap.size w2 wr) (fun i _=>m-(intOf i).toNat)
 case atStart=>exact Hstart.out
 case round =>
  obtain ⟨k,L,hk,rfl,hr,hlen,uY,zQ,hzero,ho⟩:=hrel
  have Hval:=yA zQ
  have Hzero:=yA hzero
  have Hlen:=yA hlen
  clear zQ hzero hlen Hstart
  by_cases hlt:k<m
  ·obtain ⟨b0,o0,v,rfl,hb0,hc0,hv⟩:=hy2.at hlt
   have dv:v<yB:=by rw [← hv.out];exact dy.getD yU k
   have hcy:wr.cell? ⟨b0,o0+k,none⟩=some (.int .u64 (v:Int)):=by
    rw [← hc0]
    exact World.cell?_of_block (w:=w2) (ho.block b0 ((hqy.resolve_left (by omega)) b0 o0 rfl))
   have hseg:yQ yB (yT L k n):=by
    intro a ha
    refine uY a ?_
    have e:yT L 0 (n+m)=yT L 0 k++yT L k (n+m-k):=by
     simp only [yT,List.drop_zero];rw [← List.take_add];congr 1;omega
    have e2:yT L k n=(yT L k (n+m-k)).take n:=by rw [yg0 _ _ _ _ (by omega)]
    rw [e2] at ha
    rw [e];exact List.mem_append_right _ (List.mem_of_mem_take ha)
   have ybb:=yj7 w.heap.size k n ((n+m)-k) 86 L p c x v wr (by unfold maxLen;omega) (by rw [Hlen.out];omega) hr (ho.rd hx2 hpx) hpx hseg dx dv
   have Hadd:=yA ybb
   have hkc:¬ n+m=k:=by omega
   clear ybb hc0
   go_wp2_with fail
   refine Hadd.out.mono ?_
   rintro e w3 ⟨L',cy,zM,hd',hcy',hv',rfl,ho',hr'⟩
   have zU:=hr'.cell (k+n) (by rw [zM.length,Hlen.out];omega)
   have uQ:=hr'.free (k+n)
   obtain ⟨t1,t2,t3⟩:=ytH L L' k n (n+m) x y cy (by rw [hy2.len]) (by rw [Hlen.out];omega) (by rw [hy2.len];exact hlt) zM hd' hcy' (by rw [hv',hv.out]) Hval.out uY Hzero.out
   have Hrel:=yA (And.intro t1 (And.intro t2 t3))
   have hlen':(L'.set (k+n) cy).length=(n+m):=by rw [List.length_set,zM.length];exact Hlen.out
   have Hlen':=yA hlen'
   have hput':=yA zM
   clear t1 t2 t3 hlen' zM hv' hd'
   go_wp2
   go_roundw
   case rel=>exact ⟨k+1,_,by omega,by go_num,hr'.set _ _,Hlen'.out,Hrel.out.2.1,Hrel.out.1,Hrel.out.2.2,(ho.trans ho').setCell _ _⟩
   case measure=>simp [intOf];omega
  ·obtain rfl:k=m:=by omega
   have yD:∀ e w',yhT (some ⟨w.heap.size,0,none⟩) (n+k) (n+k) (yT L 0 (n+k)) wr e w'→ygl (val yB x*val yB y) w.heap.size (n+k) base w e w':=by
    intro e w' h
    obtain ⟨j,hj,rfl,rfl,ynN,hv⟩:=yek (zP _ _ _ (by rw [Hlen.out];omega)) uY h
    rw [yg0 _ _ _ _ hj] at ynN hv
    rw [Hval.out,List.take_of_length_le (by rw [hy2.len];omega)] at hv
    refine ⟨j,L,rfl,by omega,hr,Hlen.out,by simpa [yT] using ynN,by simpa [yT] using hv,?BELOW,?SIZE,?BLOCKS⟩
    case BELOW=>exact Only.below (tr hb yrU) (ho2.trans ho) hg
    case SIZE=>rw [(ho2.trans ho).size];exact yrU.size
    case BLOCKS=>exact fun b h1 h2=>((ho2.trans ho).block b h2).trans (yrU.block b h1)
   have Hfin:=yA yD
   have ht:=yaK (some ⟨w.heap.size,0,none⟩) (n+k) (n+k) (yT L 0 (n+k)) wr (by unfold maxLen;omega) (by omega) (hr.rd 0 (n+k) (by rw [Hlen.out];omega))
   have Ht:=yA ht
   clear yD ht
   go_wp2_with fail
   refine Ht.out.mono ?_
   intro e w' h
   have Hp:=Hfin.out e w' h
   obtain ⟨j,L1,rfl,yfb⟩:=Hp
   have Hrest:=yA yfb
   clear yfb h
   go_wp2
   go_ret
   exact ⟨j,L1,rfl,Hrest.out⟩
theorem yv9 (p:Oa) (n c:Nat) (x:List Nat) (q:Oa) (m d:Nat) (y:List Nat) (w:World) (hn0:n≤yF) (hmn:m<n) (hx:Rd w p n x) (hy:Rd w q m y) (dx:yQ yB x) (dy:yQ yB y) :
  Calls Tryz.prog 138 #[.slice q m d,.slice p n c] w (zJ (val yB x+val yB y) w):=by
 obtain ⟨i0,hi,hz0,hz1,hz2⟩:=info_parts uO
 have hn:(n:Int)≤4294967296:=by unfold yF at hn0;omega
 go_in
 go_wp2_with (at_make;refine wpList_make_full _ rfl _ _ 96 rfl w.heap.size 86 i0 (.int .u64 0) 1 Tryz.underlying96 hi hz0 hz1 _ _ _ _ (n+1) rfl rfl (by omega) (by omega) ?b2 ?b3 nl ?_)
 case b2=>rw [hz2];unfold yF at hn0;omega
 case b3=>unfold maxLen;unfold yF at hn0;omega
 intro w1 yR yZ
 have hr1:zZ w1 w.heap.size 86 (List.replicate (n+1) 0):=jR yR
 have hb1:Be w w1:=bR.grown yZ nl (fun k h=>by cases h)
 have hx1:=hx.below hb1
 clear yR yZ
 go_wp2_with (refine wpList_copy_splice (o:=⟨some 19,_,_,_,_,_⟩) rfl (.tmp 17) (.tmp 18) 96 96 rfl 86 Tryz.underlying96 (by kernel_rfl) _ _ _ _ _ _ rfl rfl w.heap.size 0 (zL (List.replicate (n+1) 0)) 86 hr1 (zL x) ?c1 ?c2 ?c3 (ybG x) w.heap.size w hb1 nl ?_)
 case c1=>rw [zW,hx.len];exact (Nat.min_eq_left (by omega)).symm
 case c2=>exact fun h=>hx1.cells h
 case c3=>rw [zW,zW,hx.len,List.length_replicate];omega
 intro w2 hr2 hb2
 have hr:zZ w2 w.heap.size 86 (x++List.replicate (n+1-n) 0):=by
  have:=hr2.out
  rw [yb7 _ x _ _ rfl,yb8 x (n+1) (by rw [hx.len];omega),hx.len] at this
  exact this
 have hlen:(x++List.replicate (n+1-n) 0).length=n+1:=by rw [List.length_append,List.length_replicate,hx.len];omega
 have uY:yQ yB (x++List.replicate (n+1-n) 0):=dx.append (yQ.zeros yU _)
 have zQ:val yB (x++List.replicate (n+1-n) 0)=val yB x:=by rw [uD,GH];omega
 obtain ⟨L,hL⟩:∃ L,Hid (L=x++List.replicate (n+1-n) 0):=⟨_,yA rfl⟩
 rw [← hL.out] at hr hlen uY zQ
 have Hlen:=yA hlen
 have Hval:=yA zQ
 have hq:m=0∨∀ b o,q=some ⟨b,o,none⟩→b≠w.heap.size:=by
  rcases hy.cell with h|⟨b,o,h1,h2,_⟩
  ·exact .inl h
  ·refine .inr fun b' o' h=>?_
   rw [h1] at h;cases h;omega
 have yc5:yT L 0 (n+1)=L:=yaq L (n+1) hlen.symm
 have ykQ:yQ yB (yT L 0 (n+1)):=by rw [yc5];exact uY
 have HsegL:=yA yc5
 clear hr2 hlen zQ yc5
 have hbn:n+1≤maxLen:=by unfold maxLen;omega
 go_wp2_with fail
 refine (yb6 w.heap.size 0 (n+1) (n+1) 86 L q m d y _ hbn (by rw [Hlen.out];omega) (by omega) hr (hy.below hb2) hq ykQ dy).mono ?_
 rintro e w3 ⟨L',cy,zM,hd',hc1,hv',rfl,ho,hr'⟩
 have hl':L'.length=n+1:=by rw [zM.length];exact Hlen.out
 rw [HsegL.out,Hval.out,yaq L' (n+1) hl'.symm] at hv'
 rw [yaq L' (n+1) hl'.symm] at hd'
 have hlx:=vU x dx
 have hly:=vU y dy
 rw [hx.len] at hlx
 rw [hy.len] at hly
 have ykZ:yB^m≤yB^n:=Nat.pow_le_pow_right yU (by omega)
 obtain ⟨hs,-⟩:=ylh hv' hlx (by omega) (by rw [yN];omega)
 have hb3:=Only.below hb2 ho nl
 have ht:=yac (some ⟨w.heap.size,0,none⟩) (n+1) (n+1) L' w w3 hbn nl (hr'.rd0 (n+1) hl'.symm) hd' hb3
 rw [hs] at ht
 have Ht:=yA ht
 clear ht hs hv' hl' hlx hly ykZ
 go_wp2_with fail
 refine Ht.out.mono ?_
 rintro e w4 ⟨v,rfl,hv⟩
 go_wp2
 go_ret
 exact ⟨v,rfl,hv⟩
def jG (a b:Nat):Int:=if a<b then -1 else if b<a then 1 else 0
theorem yfr (a:Nat) (w:World):Calls Tryz.prog 217 #[.int .u64 a] w (Qp (.bool false) w):=by
 have h:((a:Int) != a)=false:=by simp
 go_in
 go_wp2
 go_ret
 exact ⟨rfl,rfl⟩
theorem ymk (a b:Nat) (w:World):Calls Tryz.prog 180 #[.int .u64 a,.int .u64 b] w (Qp (.int .i64 (jG a b)) w):=by
 by_cases h1:a<b
 ·have e:jG a b=-1:=by simp [jG,h1]
  rw [e]
  go_in
  go_wp2_with (go_at_call 217;refine (yfr _ _).mono ?_;rintro e w' ⟨rfl,rfl⟩)
  go_ret
  exact ⟨rfl,rfl⟩
 ·by_cases h2:b<a
  ·have e:jG a b=1:=by simp [jG,h1,h2]
   rw [e]
   go_in
   go_wp2_with (go_at_call 217;refine (yfr _ _).mono ?_;rintro e w' ⟨rfl,rfl⟩)
   go_ret
   exact ⟨rfl,rfl⟩
  ·have e:jG a b=0:=by simp [jG,h1,h2]
   rw [e]
   go_in
   go_wp2_with (go_at_call 217;refine (yfr _ _).mono ?_;rintro e w' ⟨rfl,rfl⟩)
   go_ret
   exact ⟨rfl,rfl⟩
theorem yom {x y:List Nat} (hx:yW yB x) (hy:yW yB y) (h:x.length≠y.length):Lib.compareInt (x.length:Int) (y.length:Int)=jG (val yB x) (val yB y):=by
 unfold Lib.compareInt jG
 rcases Nat.lt_or_gt_of_ne h with h1|h1
 ·have:=yW.lt_of_length hx.1 hy h1
  rw [if_pos (by omega),if_pos this]
 ·have:=yW.lt_of_length hy.1 hx h1
  rw [if_neg (by omega),if_pos (by omega),if_neg (by omega),if_pos this]
theorem yqH {x y:List Nat} (hl:x.length=y.length) (hx:yQ yB x) (hy:yQ yB y) (k:Nat) (hk:k<x.length) (hd:x.drop (k+1)=y.drop (k+1)) (hne:x.getD k 0≠y.getD k 0):jG (x.getD k 0) (y.getD k 0)=jG (val yB x) (val yB y):=by
 have e1:=vQ yB x (k+1) (by omega)
 have e2:=vQ yB y (k+1) (by omega)
 have hky:k<y.length:=by rw [← hl];exact hk
 have g1:x.getD k 0=x[k]:=by rw [gD hk];rfl
 have g2:y.getD k 0=y[k]:=by rw [gD hky];rfl
 rw [g1,g2] at hne
 rw [hd] at e1
 unfold jG
 rw [g1,g2]
 rcases Nat.lt_or_gt_of_ne hne with h1|h1
 ·have:=ybo (B:=yB) x y k hx hk hky h1
  rw [if_pos h1,if_pos (by omega)]
 ·have:=ybo (B:=yB) y x k hy hky hk h1
  rw [if_neg (by omega),if_pos h1,if_neg (by omega),if_pos (by omega)]
theorem yc6 {x y:List Nat} (hl:x.length=y.length) (k:Nat) (hk:k<x.length) (h:x.drop (k+1)=y.drop (k+1)) (he:x.getD k 0=y.getD k 0):x.drop k=y.drop k:=by
 have hky:k<y.length:=by rw [← hl];exact hk
 rw [List.drop_eq_getElem_cons hk,List.drop_eq_getElem_cons hky,h]
 congr 1
 rw [List.getD_eq_getElem?_getD,List.getElem?_eq_getElem hk,List.getD_eq_getElem?_getD,List.getElem?_eq_getElem hky] at he
 exact he
theorem yI (B:Nat) (w:World) (k:Nat):Below B w (w.drewN k):=⟨rfl,rfl,rfl,Nat.le_refl _,fun _ _=>rfl⟩
theorem ysC (w:World) (a b c:Nat):∃ k,w.drewN k=((w.drewN a).drewN b).drewN c:=⟨a+b+c,by simp only [World.drewN_drewN]⟩
def yar (a b:Nat) (w:World) (e:Ending) (w':World):Prop:=e=.returned (.int .i64 (jG a b))∧∃ k,w.drewN k=w'
theorem yka (p:Oa) (n c:Nat) (x:List Nat) (q:Oa) (d:Nat) (y:List Nat) (w:World) (hn:n≤yF) (hx:Rd w p n x) (hy:Rd w q n y) (dx:yQ yB x) (dy:yQ yB y) :
  Calls Tryz.prog 137 #[.slice p n c,.slice q n d] w (yar (val yB x) (val yB y) w):=by
 have hn1:(n:Int)≤4294967296:=by unfold yF at hn;omega
 have h1:((n:Int) != n)=false:=by simp
 have hl:x.length=y.length:=by rw [hx.len,hy.len]
 have Hl:=yA hl
 clear hl
 go_in
 go_wp2
 go_loopw [5] (fun i wr=>∃ (k:Nat) (z:Int) (t:Nat),k≤n∧i=.int .i64 z∧z+1=k∧x.drop k=y.drop k∧wr=w.drewN t) (fun i _=>(intOf i+1).toNat)
 case atStart=>exact ⟨n,(n:Int)-1,0,Nat.le_refl _,rfl,by omega,by rw [List.drop_eq_nil_of_le (by rw [hx.len];omega),List.drop_eq_nil_of_le (by rw [hy.len];omega)],rfl⟩
 case round =>
  obtain ⟨k,z,t,hk,rfl,hz,hd,rfl⟩:=hrel
  have Hd:=yA hd
  clear hd
  by_cases h0:k=0
  ·obtain rfl:z=-1:=by omega
   subst h0
   have hxy:jG (val yB x) (val yB y)=0:=by
    have:=Hd.out;simp at this;rw [this];simp [jG]
   have Hxy:=yA hxy
   clear hxy hz
   go_wp2
   go_ret
   exact ⟨by rw [Hxy.out];rfl,t,rfl⟩
  ·obtain ⟨j,rfl⟩:∃ j:Nat,z=j:=⟨z.toNat,by omega⟩
   obtain rfl:k=j+1:=by omega
   clear hz h0
   obtain ⟨b1,o1,a,rfl,hb1,hc1,ha⟩:=hx.at (k:=j) (by omega)
   obtain ⟨b2,o2,b,rfl,hb2,hc2,hb⟩:=hy.at (k:=j) (by omega)
   have g1:(w.drewN t).cell? ⟨b1,o1+j,none⟩=some (.int .u64 (a:Int)):=hc1
   have g2:(w.drewN t).cell? ⟨b2,o2+j,none⟩=some (.int .u64 (b:Int)):=hc2
   have bj:(0:Int)≤j:=by omega
   have bj2:(j:Int)<n:=by omega
   have hlx:j<x.length:=by rw [hx.len];omega
   by_cases hab:a=b
   ·have hne:((a:Int) != b)=false:=by simp [hab]
    have hd':=yc6 Hl.out j hlx Hd.out (by rw [ha.out,hb.out,hab])
    have Hd':=yA hd'
    clear hd' hab
    go_wp2
    go_quiet (fail)
    go_wp2
    go_roundw
    case rel=>exact ⟨j,(j:Int)-1,_,by omega,rfl,by omega,Hd'.out,rfl⟩
    case measure=>simp [intOf]
   ·have hne:((a:Int) != b)=true:=by simp;omega
    have yaH:=yqH Hl.out dx dy j hlx Hd.out (by rw [ha.out,hb.out];exact hab)
    rw [ha.out,hb.out] at yaH
    have Hcmp:=yA yaH
    clear yaH hab
    go_wp2
    go_quiet (fail)
    go_wp2
    go_quiet ((go_at_call 180;exact (ymk _ _ _).mono fun _ _ h=>⟨h.1,_,h.2.symm⟩))
    go_wp2
    go_ret
    exact ⟨by rw [← Hcmp.out];rfl,ysC _ _ _ _⟩
theorem yij (p:Oa) (n c:Nat) (x:List Nat) (q:Oa) (m d:Nat) (y:List Nat) (w:World) (hn:n≤yF) (hm:m≤yF) (hnm:n≠m) (hx:Rd w p n x) (hy:Rd w q m y) (cx:yW yB x) (cy:yW yB y) :
  Calls Tryz.prog 137 #[.slice p n c,.slice q m d] w (yar (val yB x) (val yB y) w):=by
 have hn1:(n:Int)≤4294967296:=by unfold yF at hn;omega
 have hm1:(m:Int)≤4294967296:=by unfold yF at hm;omega
 have h1:((n:Int) != m)=true:=by simp;omega
 have hc:=yom cx cy (by rw [hx.len,hy.len];exact hnm)
 rw [hx.len,hy.len] at hc
 have Hc:=yA hc
 clear hc
 go_in
 go_wp2_with fail
 refine (Go.Proofs.Tryz.cmp_Compare_int _ _ _).mono ?_
 rintro e w' ⟨rfl,rfl⟩
 rw [Hc.out]
 go_wp2
 go_ret
 exact ⟨rfl,0,rfl⟩
theorem yH.drewN {w:World} {v:Value} {x:Nat} (h:yH w v x) (k:Nat):yH (w.drewN k) v x:=h.below (yI _ _ _)
theorem yaS {x K:Nat} {l:List Nat} {n:Nat} {p:Oa} {w:World} (hc:yW yB l) (hv:val yB l=x) (hx:x<yB^K) (hl:Rd w p n l):n≤K:=by
 have:=ylf hc hv hx;rw [hl.len] at this;exact this
theorem ybd (u v:Value) (a b K:Nat) (w:World) (hK:K≤yF) (ha:a<yB^K) (hb:b<yB^K) (hu:yH w u a) (hv:yH w v b):Calls Tryz.prog 137 #[u,v] w (yar a b w):=by
 obtain ⟨p,n,c,x,rfl,h1,h2,h3,h4⟩:=hu
 obtain ⟨q,m,d,y,rfl,g1,g2,g3,g4⟩:=hv
 have hn:=yaS h3 h4 ha h2
 have hm:=yaS g3 g4 hb g2
 rw [← h4,← g4]
 by_cases hnm:n=m
 ·subst hnm
  exact yka p n c x q d y w (by omega) h2 g2 h3.1 g3.1
 ·exact yij p n c x q m d y w (by omega) (by omega) hnm h2 g2 h3 g3
theorem ydj (u v:Value) (a b K:Nat) (w:World) (hK:K≤yF) (ha:a<yB^K) (hb:b<yB^K) (hu:yH w u a) (hv:yH w v b):Calls Tryz.prog 138 #[u,v] w (zJ (a+b) w):=by
 obtain ⟨p,n,c,x,rfl,h1,h2,h3,h4⟩:=hu
 obtain ⟨q,m,d,y,rfl,g1,g2,g3,g4⟩:=hv
 have hn:=yaS h3 h4 ha h2
 have hm:=yaS g3 g4 hb g2
 rw [← h4,← g4]
 by_cases hnm:m≤n
 ·exact yv8 p n c x q m d y w (by omega) hnm h2 g2 h3.1 g3.1
 ·rw [Nat.add_comm]
  exact yv9 q m d y p n c x w (by omega) (by omega) g2 h2 g3.1 h3.1
theorem ygl.nat {X g cz:Nat} {w:World} {e:Ending} {w':World} (h:ygl X g cz w w e w'):zJ X w e w':=by
 obtain ⟨k,L,rfl,hk,hr,hl,hc,hv,hb,-,-⟩:=h
 refine ⟨_,rfl,⟨_,k,cz,L.take k,rfl,hk,?_,hc,hv⟩,hb⟩
 have:=hr.rd 0 k (by omega)
 simpa using this
theorem yhJ (pz:Oa) (c:Nat) (ty:TypeId) (w:World):(Builtin.clear_ #[96] ty #[.slice pz 0 c]).run Tryz.prog w=.ok (.tuple #[]) w:=by
 cases pz<;>simp [Builtin.clear_,run_underlying Tryz.underlying96]
theorem yik (pz:Oa) (nz zc:Nat) (p:Oa) (c:Nat) (q:Oa) (d:Nat) (w:World) (hz:(zc:Int)≤4294967296) :
  Calls Tryz.prog 177 #[.slice pz nz zc,.slice p 0 c,.slice q 0 d] w (Qp (.slice pz 0 zc) w):=by
 have h1:decide ((zc:Int)<0)=false:=by simp
 go_in
 go_wp2_with fail
 rw [yhJ]
 go_wp2
 go_loopw [27] (fun i wr=>i=.int .i64 0∧w=wr) (fun _ _=>0)
 case atStart=>exact ⟨rfl,rfl⟩
 case round =>
  obtain ⟨rfl,rfl⟩:=hrel
  go_wp2_with fail
  refine (yaK pz 0 zc [] _ (by unfold maxLen;omega) (by omega) (Rd.nil _ _)).mono ?_
  rintro e w' ⟨k,hk,rfl,rfl,-,-⟩
  obtain rfl:k=0:=by omega
  go_wp2
  go_ret
  exact ⟨rfl,rfl⟩
theorem yad (u v:Value) (a b K:Nat) (w:World) (hK:K≤2147483648) (ha:a<yB^K) (hb:b<yB^K) (hu:yH w u a) (hv:yH w v b):Calls Tryz.prog 133 #[u,v] w (zJ (a*b) w):=by
 obtain ⟨p,n,c,x,rfl,h1,h2,h3,h4⟩:=hu
 obtain ⟨q,m,d,y,rfl,g1,g2,g3,g4⟩:=hv
 have hn:=yaS h3 h4 ha h2
 have hm:=yaS g3 g4 hb g2
 subst h4 g4
 by_cases hnm:n+m=0
 ·obtain rfl:n=0:=by omega
  obtain rfl:m=0:=by omega
  have hx0:x=[]:=List.eq_nil_of_length_eq_zero h2.len
  subst hx0
  have Hpost:Hid (∀ w',w=w'→zJ (val yB []*val yB y) w (.returned (.slice none 0 0)) w'):=by
   intro w' h;subst h
   exact ⟨_,rfl,by rw [ypB,Nat.zero_mul];exact yH.zero _,Below.refl _ _⟩
  go_in
  go_wp2_with fail
  refine (yik none 0 0 p c q d _ (by omega)).mono ?_
  rintro e w' ⟨rfl,rfl⟩
  go_wp2
  go_ret
  exact Hpost.out _ rfl
 ·have ybz:=yj9 none 0 0 p n c x q m d y w w (by unfold yF;omega) (by omega) (by omega) h2 g2 h3.1 g3.1 bR
  have Hm:=yA ybz
  clear ybz
  go_in
  go_wp2_with fail
  refine Hm.out.mono ?_
  intro e w' h
  obtain ⟨v,rfl,hv⟩:=h.nat
  clear h
  go_wp2
  go_ret
  exact ⟨v,rfl,hv⟩
end Go.Proofs.YtgepehlpjpccaaaGreatDoor
namespace Big
open Go.Proofs.YtgepehlpjpccaaaGreatDoor
structure Guess (b u y1 y0 u1 q r:Nat):Prop where
 sum:q*y1+r=u
 ge:(u*b+u1)/(y1*b+y0)≤q
 le:q≤b+1
theorem Guess.start {b u y1 y0 u1:Nat} (h1:b≤2*y1) (hy1:0<y1) (hy0:y0<b) (hu:u<y1*b+y0) (hu1:u1<b):Guess b u y1 y0 u1 (u/y1) (u%y1):=by
 have hge:(u*b+u1)/(y1*b+y0)≤u/y1:=by
  refine ygZ (D:=y1*b+y0) (R:=u*b+u1) (P:=b) (low:=u1) hy1 (Nat.div_mul_le_self _ _) (by omega) rfl hu1
 have hle:u/y1≤b+1:=by
  apply Nat.le_of_lt_succ
  rw [Nat.div_lt_iff_lt_mul hy1]
  show u<(b+1+1)*y1
  have:(b+1+1)*y1=y1*b+2*y1:=by grind
  omega
 exact ⟨by rw [Nat.mul_comm];exact Nat.div_add_mod u y1,hge,hle⟩
theorem Guess.expand {b u y1 y0 u1 q r:Nat} (h:Guess b u y1 y0 u1 q r):q*(y1*b+y0)+r*b=u*b+q*y0:=by
 rw [← h.sum];grind
theorem Guess.lower {b u y1 y0 u1 q r:Nat} (h:Guess b u y1 y0 u1 q r) (hu:u<y1*b+y0) (hu1:u1<b) (ht:b≤q∨b*r+u1<q*y0) :
  Guess b u y1 y0 u1 (q-1) (r+y1)∧1≤q∧q-1≤b:=by
 have hY:0<y1*b+y0:=Nat.lt_of_le_of_lt (Nat.zero_le _) hu
 have hlt:(u*b+u1)/(y1*b+y0)<q:=by
  rw [Nat.div_lt_iff_lt_mul hY]
  rcases ht with ht|ht
  ·have h1:b*(y1*b+y0)≤q*(y1*b+y0):=Nat.mul_le_mul_right _ ht
   have h2:(u+1)*b≤(y1*b+y0)*b:=Nat.mul_le_mul_right _ hu
   have h3:(u+1)*b=u*b+b:=by grind
   have h4:b*(y1*b+y0)=(y1*b+y0)*b:=Nat.mul_comm _ _
   omega
  ·have h1:=h.expand
   have h2:r*b=b*r:=Nat.mul_comm _ _
   omega
 obtain ⟨p,rfl⟩:=Nat.exists_eq_succ_of_ne_zero (Nat.ne_of_gt (Nat.lt_of_le_of_lt (Nat.zero_le _) hlt))
 refine ⟨⟨?_,?_,?_⟩,by omega,?_⟩
 ·rw [← h.sum,Nat.succ_eq_add_one,Nat.add_sub_cancel];grind
 ·exact Nat.le_of_lt_succ hlt
 ·have:=h.le;omega
 ·have:=h.le;omega
theorem Guess.done {b u y1 y0 u1 q r:Nat} (h:Guess b u y1 y0 u1 q r) (hY:0<y1*b+y0) (ht:q*y0≤b*r+u1):q=(u*b+u1)/(y1*b+y0):=by
 apply Nat.le_antisymm _ h.ge
 rw [Nat.le_div_iff_mul_le hY]
 have h1:=h.expand
 have h2:r*b=b*r:=Nat.mul_comm _ _
 omega
theorem Guess.done_break {b u y1 y0 u1 q r:Nat} (h:Guess b u y1 y0 u1 q r) (hY:0<y1*b+y0) (hy0:y0<b) (hq:q≤b) (hr:b≤r):q=(u*b+u1)/(y1*b+y0):=by
 refine h.done hY ?_
 have h1:q*y0≤b*y0:=Nat.mul_le_mul_right _ hq
 have h2:b*y0≤b*b:=Nat.mul_le_mul_left _ (by omega)
 have h3:b*b≤b*r:=Nat.mul_le_mul_left _ hr
 omega
theorem yon {b u Y n1 n0:Nat}:(u*(b*b)+(n1*b+n0))=(((u*b+n1)/Y)*b+(((u*b+n1)%Y)*b+n0)/Y)*Y+(((u*b+n1)%Y)*b+n0)%Y:=by
 have h1:=Nat.div_add_mod (u*b+n1) Y
 have h2:=Nat.div_add_mod (((u*b+n1)%Y)*b+n0) Y
 have h3:u*(b*b)+(n1*b+n0)=(u*b+n1)*b+n0:=by grind
 generalize (u*b+n1)/Y=q1 at *
 generalize (u*b+n1)%Y=r1 at *
 generalize (r1*b+n0)/Y=q0 at *
 generalize (r1*b+n0)%Y=r0 at *
 rw [h3,← h1]
 have h4:(Y*q1+r1)*b+n0=Y*q1*b+(r1*b+n0):=by grind
 rw [h4,← h2];grind
theorem yd8 {u n Y b:Nat} (hu:u<Y) (hn:n<b):(u*b+n)/Y<b:=by
 rw [Nat.div_lt_iff_lt_mul (by omega)]
 have h1:(u+1)*b≤Y*b:=Nat.mul_le_mul_right _ hu
 have h2:(u+1)*b=u*b+b:=by grind
 have h3:b*Y=Y*b:=Nat.mul_comm _ _
 omega
theorem ysD {U y s q r:Nat} (hs:0<s) (hy:0<y) (h:U*s=q*(y*s)+r) (hr:r<y*s):q=U/y∧r/s=U%y:=by
 have h1:(U*s)/(y*s)=q:=by
  rw [h,Nat.mul_comm q,Nat.mul_add_div (Nat.mul_pos hy hs),Nat.div_eq_of_lt hr];rfl
 have h2:(U*s)%(y*s)=r:=by
  rw [h,Nat.mul_comm q,Nat.mul_add_mod,Nat.mod_eq_of_lt hr]
 rw [Nat.mul_div_mul_right _ _ hs] at h1
 rw [Nat.mul_mod_mul_right] at h2
 exact ⟨h1.symm,by rw [← h2,Nat.mul_div_cancel _ hs]⟩
end Big
namespace Go.Proofs.YtgepehlpjpccaaaGreatDoor
open Go.RowKit Big
theorem jV (n:Nat) (h:n<yB):IntKind.u64.wrap (n:Int)=n:=by
 rw [IntKind.wrap_u64];rw [yN] at h;omega
theorem yg1 (n:Nat):IntKind.u64.wrap (n:Int)=((n%yB:Nat):Int):=by
 rw [IntKind.wrap_u64,yN];omega
theorem yg2 (a c s:Nat) (h:c<2^s) (hc:c<yB) (ha:a*2^s<yB):bits .or .u64 ((a*2^s:Nat):Int) (c:Int)=((a*2^s+c:Nat):Int):=by
 rw [u64_or_nat _ _ (by rw [yN] at ha;exact ha) (by rw [yN] at hc;exact hc)]
 congr 1
 rw [Nat.mul_comm]
 exact (Nat.two_pow_add_eq_or_of_lt h a).symm
theorem yli (a:Nat) (ha:a<yB):bits .and .u64 (a:Int) 4294967295=((a%4294967296:Nat):Int):=by
 rw [show (4294967295:Int)=((4294967295:Nat):Int) from rfl,u64_and_nat _ _ (by rw [yN] at ha;exact ha) (by omega)]
 congr 1
 exact Nat.and_two_pow_sub_one_eq_mod a 32
theorem ydk (a s:Nat):(a:Int)*2^s=((a*2^s:Nat):Int):=by push_cast;rfl
theorem ylj (y:Nat) (h0:0<y) (hB:y<yB):∃ s:Nat,Hid ((64-(Lib.bitLen y:Int))=s)∧s<64∧y*2^s<yB∧9223372036854775808≤y*2^s:=by
 have hb:=Lib.bitLenAux_bounds 64 y (by rw [yN] at hB;exact hB) (by omega)
 obtain ⟨h1,h2,h3⟩:=hb
 have h4:Lib.bitLenAux 64 y-1<64:=by
  apply (Nat.pow_lt_pow_iff_right (a:=2) (by omega)).1
  rw [yN] at hB
  exact Nat.lt_of_le_of_lt h2 hB
 have e:Lib.bitLen y=Lib.bitLenAux 64 y:=rfl
 refine ⟨64-Lib.bitLenAux 64 y,?_,by omega,?_,?_⟩
 ·show _=_
  rw [e];omega
 ·have h5:y*2^(64-Lib.bitLenAux 64 y)<2^Lib.bitLenAux 64 y*2^(64-Lib.bitLenAux 64 y):=Nat.mul_lt_mul_of_pos_right h3 (Nat.pow_pos (by omega))
  rw [← Nat.pow_add,show Lib.bitLenAux 64 y+(64-Lib.bitLenAux 64 y)=64 from by omega] at h5
  rw [yN];exact h5
 ·have h5:2^(Lib.bitLenAux 64 y-1)*2^(64-Lib.bitLenAux 64 y)≤y*2^(64-Lib.bitLenAux 64 y):=Nat.mul_le_mul_right _ h2
  rw [← Nat.pow_add,show Lib.bitLenAux 64 y-1+(64-Lib.bitLenAux 64 y)=63 from by omega] at h5
  exact h5
theorem yml (hi lo y s:Nat) (hy:hi<y) (hs:s<64) (hlo:lo<yB) (hY:y*2^s<yB) :
  IntKind.u64.wrap ((y:Int)*2^s)=((y*2^s:Nat):Int)∧IntKind.u64.wrap ((hi:Int)*2^s)=((hi*2^s:Nat):Int)∧(lo:Int)/2^(64-s)=((lo/2^(64-s):Nat):Int) ∧
  IntKind.u64.wrap ((lo:Int)*2^s)=((lo%2^(64-s)*2^s:Nat):Int) ∧
  bits .or .u64 ((hi*2^s:Nat):Int) ((lo/2^(64-s):Nat):Int)=((hi*2^s+lo/2^(64-s):Nat):Int) ∧
  (hi*2^s+lo/2^(64-s))*yB+lo%2^(64-s)*2^s=(hi*yB+lo)*2^s∧hi*2^s+lo/2^(64-s)<y*2^s∧lo%2^(64-s)*2^s<yB:=by
 have hpq:2^s*2^(64-s)=yB:=by
  rw [← Nat.pow_add,show s+(64-s)=64 from by omega];rfl
 have hp:0<2^s:=Nat.pow_pos (by omega)
 have hq:0<2^(64-s):=Nat.pow_pos (by omega)
 have hL:lo/2^(64-s)<2^s:=by rw [Nat.div_lt_iff_lt_mul hq,hpq];exact hlo
 have hH:(hi+1)*2^s≤y*2^s:=Nat.mul_le_mul_right _ hy
 rw [Nat.add_mul,Nat.one_mul] at hH
 have hdm:=Nat.div_add_mod lo (2^(64-s))
 have hN:lo%2^(64-s)*2^s<yB:=by
  have:=Nat.mul_lt_mul_of_pos_right (Nat.mod_lt lo hq) hp
  rw [Nat.mul_comm (2^(64-s)),hpq] at this;exact this
 refine ⟨by rw [ydk,jV _ hY],by rw [ydk,jV _ (by omega)],by push_cast;rfl,?_,?_,?_,by omega,hN⟩
 ·rw [ydk,yg1]
  congr 1
  rw [← hpq,Nat.mul_comm (2^s),Nat.mul_mod_mul_right]
 ·exact yg2 hi _ s hL (by have:=Nat.div_le_self lo (2^(64-s));omega) (by omega)
 ·generalize lo/2^(64-s)=L at *
  generalize lo%2^(64-s)=M at *
  rw [← hdm,← hpq]
  grind
end Go.Proofs.YtgepehlpjpccaaaGreatDoor
namespace Go.Proofs.YtgepehlpjpccaaaGreatDoor
open Go.RowKit Big
def ywa (hi lo y:Nat) (w:World) (e:Ending) (w':World):Prop :=
 ∃ q r:Nat,e=.returned (.tuple #[.int .u64 (q:Int),.int .u64 (r:Int)])∧w=w'∧q*y+r=hi*yB+lo∧r<y
theorem yoo (hi lo y s Y y1 y0 H Lq U N n1 n0 q0 r0 Q1 R1 q0' r0' Q0 R0 rem:Nat) (w:World) (h0:0<hi) (hy:hi<y) (hyB:(y:Int)≤18446744073709551615) (_hloB:(lo:Int)≤18446744073709551615) (hs:s<64)
  (hLZ:Hid ((64-(Lib.bitLen y:Int))=s))
  (hY:Hid (IntKind.u64.wrap ((y:Int)*2^s)=(Y:Int))) (hy1:Hid ((Y:Int)/4294967296=y1)) (hy0:Hid (bits .and .u64 (Y:Int) 4294967295=y0))
  (hH:Hid (IntKind.u64.wrap ((hi:Int)*2^s)=(H:Int))) (hL:Hid ((lo:Int)/2^(64-s)=Lq)) (hor:Hid (bits .or .u64 (H:Int) (Lq:Int)=U))
  (hN:Hid (IntKind.u64.wrap ((lo:Int)*2^s)=(N:Int))) (hn1:Hid ((N:Int)/4294967296=n1)) (hn0:Hid (bits .and .u64 (N:Int) 4294967295=n0))
  (hq0:Hid ((U:Int)/y1=q0)) (hqy:(q0:Int)*y1≤18446744073709551615) (hr0:Hid ((U:Int)-q0*y1=r0)) (_hUq:(q0:Int)*y1≤U)
  (hR1:Hid (IntKind.u64.wrap (IntKind.u64.wrap (IntKind.u64.wrap ((U:Int)*4294967296)+n1)-IntKind.u64.wrap ((Q1:Int)*Y))=(R1:Int)))
  (hq0':Hid ((R1:Int)/y1=q0')) (hqy':(q0':Int)*y1≤18446744073709551615) (hr0':Hid ((R1:Int)-q0'*y1=r0')) (hUq':(q0':Int)*y1≤R1)
  (hR0:Hid (IntKind.u64.wrap (IntKind.u64.wrap (IntKind.u64.wrap ((R1:Int)*4294967296)+n0)-IntKind.u64.wrap ((Q0:Int)*Y))=(R0:Int))) (yjw:Hid ((R0:Int)/2^s=rem))
  (b1:(1:Int)≤y1) (b2:(y1:Int)≤4294967295) (b3:(y0:Int)≤4294967295) (b4:(n1:Int)≤4294967295) (b5:(n0:Int)≤4294967295) (_b6:(U:Int)≤18446744073709551615) (b7:(R1:Int)≤18446744073709551615)
  (b8:(r0:Int)≤4294967295) (b9:(r0':Int)≤4294967295) (b10:(Q1:Int)≤4294967295) (b11:(Q0:Int)≤4294967295)
  (b12:(q0:Int)≤4294967297) (b13:(q0':Int)≤4294967297)
  (g1:Hid (Guess 4294967296 U y1 y0 n1 q0 r0)) (g2:Hid (Guess 4294967296 R1 y1 y0 n0 q0' r0')) (e1:Hid ((U*4294967296+n1)/(y1*4294967296+y0)=Q1)) (e2:Hid ((R1*4294967296+n0)/(y1*4294967296+y0)=Q0))
  (c1:Hid (U<y1*4294967296+y0)) (c2:Hid (R1<y1*4294967296+y0)) (QQ:Nat) (hQQ:Hid (IntKind.u64.wrap (IntKind.u64.wrap ((Q1:Int)*4294967296)+Q0)=QQ)) (yD:Hid (QQ*y+rem=hi*yB+lo∧rem<y)) :
  Calls Tryz.prog 220 #[.int .u64 hi,.int .u64 lo,.int .u64 y] w (ywa hi lo y w):=by
 go_in
 go_wp2_with fail
 refine (Go.Proofs.Tryz.bits_LeadingZeros64 _ _ (by omega) (by omega)).mono ?_
 rintro e w' ⟨rfl,rfl⟩
 rw [show (64-(Lib.bitLen (y:Int).toNat:Int))=s from hLZ.out]
 have a1:=hY.out
 have a2:=hy1.out
 have a3:=hy0.out
 have a4:=hH.out
 have a5:=hL.out
 have a6:=hor.out
 have a7:=hN.out
 have a8:=hn1.out
 have a9:=hn0.out
 have a10:=hq0.out
 have hn0':0≤(q0:Int)*y1:=Int.mul_nonneg (by omega) (by omega)
 have hn1':0≤(q0':Int)*y1:=Int.mul_nonneg (by omega) (by omega)
 have a11:=hr0.out
 go_wp2_with fail
 have HB:Hid ((1≤y1∧y1≤4294967295)∧y0≤4294967295∧n1≤4294967295∧n0≤4294967295∧Q1≤4294967295∧Q0≤4294967295∧r0≤4294967295∧r0'≤4294967295∧q0≤4294967297∧q0'≤4294967297):=yA (by omega)
 have HQ:Hid ((0≤(q0':Int)*y1∧(q0':Int)*y1≤18446744073709551615∧(q0':Int)*y1≤R1)∧(R1:Int)≤18446744073709551615∧(1:Int)≤y1∧(q0':Int)≤4294967297):=yA (by omega)
 clear a1 a2 a3 a4 a5 a6 a7 a8 a9 a10 a11 hqy _hUq hqy' hUq' b1 b2 b3 b4 b5 _b6 b7 b8 b9 b10 b11 b12 b13 hyB _hloB h0 hy hn0' hn1'
 go_loop [15,16] (fun qv rv=>∃ q r:Nat,qv=.int .u64 q∧rv=.int .u64 r∧Hid (Guess 4294967296 U y1 y0 n1 q r∧r≤4294967295)) (fun qv _=>(intOf qv).toNat)
 case atStart=>exact ⟨q0,r0,rfl,rfl,yA ⟨g1.out,by have:=HB.out;omega⟩⟩
 case round =>
  obtain ⟨q,r,rfl,rfl,hgr⟩:=hrel
  have ygd:Hid ((4294967296≤q∨4294967296*r+n1<q*y0))∨Hid (q=Q1∧q≤4294967295∧q*y0≤4294967296*r+n1):=by
   by_cases ht:4294967296≤q∨4294967296*r+n1<q*y0
   ·exact .inl ht
   ·refine .inr ⟨?_,by omega,by omega⟩
    rw [hgr.out.1.done (Nat.lt_of_le_of_lt (Nat.zero_le _) c1.out) (by omega)]
    exact e1.out
  obtain ⟨A,hA,eA⟩:∃ A:Nat,Hid (A=q*y0)∧IntKind.u64.wrap ((q:Int)*y0)=A:=⟨_,yA rfl,by
   rw [← Int.natCast_mul,jV _ (by
    have h1:q*y0≤4294967297*4294967295:=Nat.mul_le_mul hgr.out.1.le HB.out.2.1
    rw [yN];omega)]⟩
  obtain ⟨C,hC,eC⟩:∃ C:Nat,Hid (C=4294967296*r+n1)∧IntKind.u64.wrap (IntKind.u64.wrap (4294967296*(r:Int))+n1)=C:=⟨4294967296*r+n1,yA rfl,by
   have h1:=hgr.out.2
   have h2:=HB.out
   rw [show (4294967296:Int)*r=((4294967296*r:Nat):Int) from by omega,jV _ (by rw [yN];omega),← Int.natCast_add,jV _ (by rw [yN];omega)]⟩
  obtain ⟨r',hr',er'⟩:∃ r':Nat,Hid (r'=r+y1)∧IntKind.u64.wrap ((r:Int)+y1)=r':=⟨r+y1,yA rfl,by
   have h1:=hgr.out.2
   have h2:=HB.out
   rw [← Int.natCast_add,jV _ (by rw [yN];omega)]⟩
  rcases ygd with ht|ybC
  ·obtain ⟨q',hq',eq'⟩:∃ q':Nat,Hid (q=q'+1∧q'≤4294967296∧Guess 4294967296 U y1 y0 n1 q' r')∧IntKind.u64.wrap ((q:Int)-1)=q':=by
    obtain ⟨h1,h2,h3⟩:=hgr.out.1.lower c1.out (by have:=HB.out;omega) ht.out
    refine ⟨q-1,yA ⟨by omega,h3,by rw [hr'.out];exact h1⟩,?_⟩
    rw [show (q:Int)-1=((q-1:Nat):Int) from by omega,jV _ (by rw [yN];omega)]
   have ycx:Hid ((intOf (.int .u64 (q':Int))).toNat<(intOf (.int .u64 (q:Int))).toNat):=by
    have:=hq'.out.1;show _<_;simp [intOf];omega
   have ya4:(Hid (4294967296≤q)∧decide ((4294967296:Int)≤q)=true)∨(decide ((4294967296:Int)≤q)=false∧decide (C<A)=true):=by
    by_cases h1:4294967296≤q
    ·exact .inl ⟨yA h1,decide_eq_true (by omega)⟩
    ·refine .inr ⟨decide_eq_false (by omega),decide_eq_true ?_⟩
     have:=ht.out.resolve_left h1
     rw [hC.out,hA.out];omega
   have yrV:(Hid (r'≤4294967295)∧decide ((4294967296:Int)≤r')=false)∨(Hid (q'=Q1)∧decide ((4294967296:Int)≤r')=true):=by
    by_cases h1:4294967296≤r'
    ·refine .inr ⟨?_,decide_eq_true (by omega)⟩
     show _=_
     rw [hq'.out.2.2.done_break (Nat.lt_of_le_of_lt (Nat.zero_le _) c1.out) (by have:=HB.out;omega) hq'.out.2.1 h1]
     exact e1.out
    ·exact .inl ⟨yA (by omega),decide_eq_false (by omega)⟩
   clear ht
   rcases yrV with ⟨hb1,eb⟩|⟨hb1,eb⟩
   ·rcases ya4 with ⟨_,ef⟩|⟨ef,ef2⟩
    all_goals
     go_wp2
     go_round
     case rel=>exact ⟨q',r',rfl,rfl,yA ⟨hq'.out.2.2,hb1.out⟩⟩
     case measure=>exact ycx.out
   ·rw [hb1.out] at eq' hq' ycx
    clear hb1
    have k1:=hR1.out
    have k2:=hq0'.out
    have k3:=hr0'.out
    obtain ⟨⟨k4,k5,k6⟩,k7,k8,k9⟩:=HQ.out
    rcases ya4 with ⟨_,ef⟩|⟨ef,ef2⟩
    all_goals
     go_wp2_with fail
     clear eq' er' eA eC eb
     try clear ef
     try clear ef2
     clear k1 k2 k3 k4 k5 k6 k7 k8 k9
     go_loop [18,16] (fun qv rv=>∃ q r:Nat,qv=.int .u64 q∧rv=.int .u64 r∧Hid (Guess 4294967296 R1 y1 y0 n0 q r∧r≤4294967295)) (fun qv _=>(intOf qv).toNat)
     case atStart=>exact ⟨q0',r0',rfl,rfl,yA ⟨g2.out,by have:=HB.out;omega⟩⟩
     case round =>
      obtain ⟨q,r,rfl,rfl,hgr⟩:=hrel
      have ygd:Hid ((4294967296≤q∨4294967296*r+n0<q*y0))∨Hid (q=Q0∧q≤4294967295∧q*y0≤4294967296*r+n0):=by
       by_cases ht:4294967296≤q∨4294967296*r+n0<q*y0
       ·exact .inl ht
       ·refine .inr ⟨?_,by omega,by omega⟩
        rw [hgr.out.1.done (Nat.lt_of_le_of_lt (Nat.zero_le _) c2.out) (by omega)]
        exact e2.out
      obtain ⟨A,hA,eA⟩:∃ A:Nat,Hid (A=q*y0)∧IntKind.u64.wrap ((q:Int)*y0)=A:=⟨_,yA rfl,by
       rw [← Int.natCast_mul,jV _ (by
        have h1:q*y0≤4294967297*4294967295:=Nat.mul_le_mul hgr.out.1.le HB.out.2.1
        rw [yN];omega)]⟩
      obtain ⟨C,hC,eC⟩:∃ C:Nat,Hid (C=4294967296*r+n0)∧IntKind.u64.wrap (IntKind.u64.wrap (4294967296*(r:Int))+n0)=C:=⟨4294967296*r+n0,yA rfl,by
       have h1:=hgr.out.2
       have h2:=HB.out
       rw [show (4294967296:Int)*r=((4294967296*r:Nat):Int) from by omega,jV _ (by rw [yN];omega),← Int.natCast_add,jV _ (by rw [yN];omega)]⟩
      obtain ⟨r',hr',er'⟩:∃ r':Nat,Hid (r'=r+y1)∧IntKind.u64.wrap ((r:Int)+y1)=r':=⟨r+y1,yA rfl,by
       have h1:=hgr.out.2
       have h2:=HB.out
       rw [← Int.natCast_add,jV _ (by rw [yN];omega)]⟩
      rcases ygd with ht|ybC
      ·obtain ⟨q',hq',eq'⟩:∃ q':Nat,Hid (q=q'+1∧q'≤4294967296∧Guess 4294967296 R1 y1 y0 n0 q' r')∧IntKind.u64.wrap ((q:Int)-1)=q':=by
        obtain ⟨h1,h2,h3⟩:=hgr.out.1.lower c2.out (by have:=HB.out;omega) ht.out
        refine ⟨q-1,yA ⟨by omega,h3,by rw [hr'.out];exact h1⟩,?_⟩
        rw [show (q:Int)-1=((q-1:Nat):Int) from by omega,jV _ (by rw [yN];omega)]
       have ycx:Hid ((intOf (.int .u64 (q':Int))).toNat<(intOf (.int .u64 (q:Int))).toNat):=by
        have:=hq'.out.1;show _<_;simp [intOf];omega
       have ya4:(Hid (4294967296≤q)∧decide ((4294967296:Int)≤q)=true)∨(decide ((4294967296:Int)≤q)=false∧decide (C<A)=true):=by
        by_cases h1:4294967296≤q
        ·exact .inl ⟨yA h1,decide_eq_true (by omega)⟩
        ·refine .inr ⟨decide_eq_false (by omega),decide_eq_true ?_⟩
         have:=ht.out.resolve_left h1
         rw [hC.out,hA.out];omega
       have yrV:(Hid (r'≤4294967295)∧decide ((4294967296:Int)≤r')=false)∨(Hid (q'=Q0)∧decide ((4294967296:Int)≤r')=true):=by
        by_cases h1:4294967296≤r'
        ·refine .inr ⟨?_,decide_eq_true (by omega)⟩
         show _=_
         rw [hq'.out.2.2.done_break (Nat.lt_of_le_of_lt (Nat.zero_le _) c2.out) (by have:=HB.out;omega) hq'.out.2.1 h1]
         exact e2.out
        ·exact .inl ⟨yA (by omega),decide_eq_false (by omega)⟩
       clear ht
       rcases yrV with ⟨hb1,eb⟩|⟨hb1,eb⟩
       ·rcases ya4 with ⟨_,ef⟩|⟨ef,ef2⟩
        all_goals
         go_wp2
         go_round
         case rel=>exact ⟨q',r',rfl,rfl,yA ⟨hq'.out.2.2,hb1.out⟩⟩
         case measure=>exact ycx.out
       ·rw [hb1.out] at eq' hq' ycx
        clear hb1
        have m1:=hR0.out
        have m2:=yjw.out
        have m3:=hQQ.out
        rcases ya4 with ⟨_,ef⟩|⟨ef,ef2⟩
        all_goals
         go_wp2_with fail
         clear eq' er' eA eC eb
         try clear ef
         try clear ef2
         go_ret2
         exact ⟨QQ,rem,rfl,rfl,yD.out⟩
      ·have ya4:decide ((4294967296:Int)≤q)=false∧decide (C<A)=false:=by
        have h1:=ybC.out
        exact ⟨decide_eq_false (by omega),decide_eq_false (by rw [hC.out,hA.out];omega)⟩
       obtain ⟨ef,ef2⟩:=ya4
       have Hq:=ybC.out.1
       clear ybC er'
       subst Hq
       have m1:=hR0.out
       have m2:=yjw.out
       have m3:=hQQ.out
       go_wp2_with fail
       clear eA eC ef ef2
       go_ret2
       exact ⟨QQ,rem,rfl,rfl,yD.out⟩
  ·have ya4:decide ((4294967296:Int)≤q)=false∧decide (C<A)=false:=by
    have h1:=ybC.out
    exact ⟨decide_eq_false (by omega),decide_eq_false (by rw [hC.out,hA.out];omega)⟩
   obtain ⟨ef,ef2⟩:=ya4
   have Hq:=ybC.out.1
   clear ybC er'
   subst Hq
   have k1:=hR1.out
   have k2:=hq0'.out
   have k3:=hr0'.out
   obtain ⟨⟨k4,k5,k6⟩,k7,k8,k9⟩:=HQ.out
   go_wp2_with fail
   clear eA eC ef ef2
   clear k1 k2 k3 k4 k5 k6 k7 k8 k9
   go_loop [18,16] (fun qv rv=>∃ q r:Nat,qv=.int .u64 q∧rv=.int .u64 r∧Hid (Guess 4294967296 R1 y1 y0 n0 q r∧r≤4294967295)) (fun qv _=>(intOf qv).toNat)
   case atStart=>exact ⟨q0',r0',rfl,rfl,yA ⟨g2.out,by have:=HB.out;omega⟩⟩
   case round =>
    obtain ⟨q,r,rfl,rfl,hgr⟩:=hrel
    have ygd:Hid ((4294967296≤q∨4294967296*r+n0<q*y0))∨Hid (q=Q0∧q≤4294967295∧q*y0≤4294967296*r+n0):=by
     by_cases ht:4294967296≤q∨4294967296*r+n0<q*y0
     ·exact .inl ht
     ·refine .inr ⟨?_,by omega,by omega⟩
      rw [hgr.out.1.done (Nat.lt_of_le_of_lt (Nat.zero_le _) c2.out) (by omega)]
      exact e2.out
    obtain ⟨A,hA,eA⟩:∃ A:Nat,Hid (A=q*y0)∧IntKind.u64.wrap ((q:Int)*y0)=A:=⟨_,yA rfl,by
     rw [← Int.natCast_mul,jV _ (by
      have h1:q*y0≤4294967297*4294967295:=Nat.mul_le_mul hgr.out.1.le HB.out.2.1
      rw [yN];omega)]⟩
    obtain ⟨C,hC,eC⟩:∃ C:Nat,Hid (C=4294967296*r+n0)∧IntKind.u64.wrap (IntKind.u64.wrap (4294967296*(r:Int))+n0)=C:=⟨4294967296*r+n0,yA rfl,by
     have h1:=hgr.out.2
     have h2:=HB.out
     rw [show (4294967296:Int)*r=((4294967296*r:Nat):Int) from by omega,jV _ (by rw [yN];omega),← Int.natCast_add,jV _ (by rw [yN];omega)]⟩
    obtain ⟨r',hr',er'⟩:∃ r':Nat,Hid (r'=r+y1)∧IntKind.u64.wrap ((r:Int)+y1)=r':=⟨r+y1,yA rfl,by
     have h1:=hgr.out.2
     have h2:=HB.out
     rw [← Int.natCast_add,jV _ (by rw [yN];omega)]⟩
    rcases ygd with ht|ybC
    ·obtain ⟨q',hq',eq'⟩:∃ q':Nat,Hid (q=q'+1∧q'≤4294967296∧Guess 4294967296 R1 y1 y0 n0 q' r')∧IntKind.u64.wrap ((q:Int)-1)=q':=by
      obtain ⟨h1,h2,h3⟩:=hgr.out.1.lower c2.out (by have:=HB.out;omega) ht.out
      refine ⟨q-1,yA ⟨by omega,h3,by rw [hr'.out];exact h1⟩,?_⟩
      rw [show (q:Int)-1=((q-1:Nat):Int) from by omega,jV _ (by rw [yN];omega)]
     have ycx:Hid ((intOf (.int .u64 (q':Int))).toNat<(intOf (.int .u64 (q:Int))).toNat):=by
      have:=hq'.out.1;show _<_;simp [intOf];omega
     have ya4:(Hid (4294967296≤q)∧decide ((4294967296:Int)≤q)=true)∨(decide ((4294967296:Int)≤q)=false∧decide (C<A)=true):=by
      by_cases h1:4294967296≤q
      ·exact .inl ⟨yA h1,decide_eq_true (by omega)⟩
      ·refine .inr ⟨decide_eq_false (by omega),decide_eq_true ?_⟩
       have:=ht.out.resolve_left h1
       rw [hC.out,hA.out];omega
     have yrV:(Hid (r'≤4294967295)∧decide ((4294967296:Int)≤r')=false)∨(Hid (q'=Q0)∧decide ((4294967296:Int)≤r')=true):=by
      by_cases h1:4294967296≤r'
      ·refine .inr ⟨?_,decide_eq_true (by omega)⟩
       show _=_
       rw [hq'.out.2.2.done_break (Nat.lt_of_le_of_lt (Nat.zero_le _) c2.out) (by have:=HB.out;omega) hq'.out.2.1 h1]
       exact e2.out
      ·exact .inl ⟨yA (by omega),decide_eq_false (by omega)⟩
     clear ht
     rcases yrV with ⟨hb1,eb⟩|⟨hb1,eb⟩
     ·rcases ya4 with ⟨_,ef⟩|⟨ef,ef2⟩
      all_goals
       go_wp2
       go_round
       case rel=>exact ⟨q',r',rfl,rfl,yA ⟨hq'.out.2.2,hb1.out⟩⟩
       case measure=>exact ycx.out
     ·rw [hb1.out] at eq' hq' ycx
      clear hb1
      have m1:=hR0.out
      have m2:=yjw.out
      have m3:=hQQ.out
      rcases ya4 with ⟨_,ef⟩|⟨ef,ef2⟩
      all_goals
       go_wp2_with fail
       clear eq' er' eA eC eb
       try clear ef
       try clear ef2
       go_ret2
       exact ⟨QQ,rem,rfl,rfl,yD.out⟩
    ·have ya4:decide ((4294967296:Int)≤q)=false∧decide (C<A)=false:=by
      have h1:=ybC.out
      exact ⟨decide_eq_false (by omega),decide_eq_false (by rw [hC.out,hA.out];omega)⟩
     obtain ⟨ef,ef2⟩:=ya4
     have Hq:=ybC.out.1
     clear ybC er'
     subst Hq
     have m1:=hR0.out
     have m2:=yjw.out
     have m3:=hQQ.out
     go_wp2_with fail
     clear eA eC ef ef2
     go_ret2
     exact ⟨QQ,rem,rfl,rfl,yD.out⟩
def ylk (hi lo y:Nat) (w:World) (e:Ending) (w':World):Prop :=
 ∃ q r:Nat,e=.returned (.tuple #[.int .u64 (q:Int),.int .u64 (r:Int)])∧(∃ k,w.drewN k=w')∧q*y+r=hi*yB+lo∧r<y
theorem ytI {k:IntKind} {a b c d:Int} (h:a=b) (h2:c=d):Ending.returned (.tuple #[.int k a,.int k c])=.returned (.tuple #[.int k b,.int k d]):=by rw [h,h2]
theorem yop (lo y:Nat) (w:World) (hy:0<y) (hyB:(y:Int)≤18446744073709551615) (yrW:(lo:Int)≤18446744073709551615) :
  Calls Tryz.prog 220 #[.int .u64 0,.int .u64 lo,.int .u64 y] w (ylk 0 lo y w):=by
 have hq:Hid (lo/y*y+lo%y=0*yB+lo∧lo%y<y):=yA ⟨by rw [Nat.mul_comm,Nat.div_add_mod];omega,Nat.mod_lt _ hy⟩
 have hy1:(1:Int)≤y:=by omega
 have hlo0:(0:Int)≤lo:=by omega
 have h1:((y:Int)==0)=false:=by rw [beq_eq_false_iff_ne];omega
 have e1:IntKind.u64.wrap ((lo:Int)/y)=((lo/y:Nat):Int):=by
  rw [← Int.natCast_ediv,jV _ (by have:=Nat.div_le_self lo y;rw [yN];omega)]
 obtain ⟨q,hqq⟩:∃ q,Hid (q=lo/y):=⟨_,yA rfl⟩
 obtain ⟨r,hrr⟩:∃ r,Hid (r=lo%y):=⟨_,yA rfl⟩
 have e2:(lo:Int)%y=(r:Int):=by rw [hrr.out];exact (Int.natCast_emod _ _).symm
 have e3:(lo:Int)/y=(q:Int):=by rw [hqq.out];exact (Int.natCast_ediv _ _).symm
 have hqle:(q:Int)≤18446744073709551615:=by have:=Nat.div_le_self lo y;rw [hqq.out];omega
 rw [← hqq.out,← hrr.out] at hq
 have E2:=yA e2
 clear e1 e2
 go_in
 go_wp2_with fail
 go_quiet (fail)
 go_wp2
 go_ret2
 exact ⟨q,r,ytI rfl E2.out,⟨_,rfl⟩,hq.out⟩
theorem yzF (a b c:Int):IntKind.u64.wrap (IntKind.u64.wrap (IntKind.u64.wrap a+b)-IntKind.u64.wrap c)=IntKind.u64.wrap (a+b-c):=by
 simp only [IntKind.wrap_u64];omega
theorem yfW (U Y y1 y0 n:Nat) (hY:Y=y1*4294967296+y0) (h1:2147483648≤y1) (h2:y1≤4294967295) (h3:y0≤4294967295) (hU:U<Y) (hn:n≤4294967295) :
  (U:Int)/y1=((U/y1:Nat):Int)∧(((U/y1:Nat):Int)*y1≤18446744073709551615)∧(U:Int)-((U/y1:Nat):Int)*y1=((U%y1:Nat):Int)∧((U/y1:Nat):Int)*y1≤U ∧
  IntKind.u64.wrap (IntKind.u64.wrap (IntKind.u64.wrap ((U:Int)*4294967296)+n)-IntKind.u64.wrap ((((U*4294967296+n)/Y:Nat):Int)*Y))=(((U*4294967296+n)%Y:Nat):Int) ∧
  U%y1≤4294967295∧U/y1≤4294967297∧(U*4294967296+n)/Y≤4294967295∧(U*4294967296+n)%Y<Y∧Guess 4294967296 U y1 y0 n (U/y1) (U%y1):=by
 have hy1:0<y1:=by omega
 have hYp:0<Y:=by omega
 have hg:Guess 4294967296 U y1 y0 n (U/y1) (U%y1):=Guess.start (by omega) hy1 (by omega) (by omega) (by omega)
 have hle:U/y1*y1≤U:=Nat.div_mul_le_self _ _
 have hle':((U/y1*y1:Nat):Int)≤U:=by omega
 rw [Int.natCast_mul] at hle'
 have hdm:=Nat.div_add_mod U y1
 have hmod:U%y1<y1:=Nat.mod_lt _ hy1
 have hU64:U<yB:=by rw [yN];omega
 have yxD:(U*4294967296+n)%Y<Y:=Nat.mod_lt _ hYp
 refine ⟨(Int.natCast_ediv _ _).symm,by rw [yN] at hU64;omega,?_,hle',?_,by omega,hg.le,?_,yxD,hg⟩
 ·have h4:((y1*(U/y1)+U%y1:Nat):Int)=(U:Int):=by rw [hdm]
  rw [Int.natCast_add,Int.natCast_mul,Int.mul_comm] at h4
  omega
 ·rw [yzF]
  have h4:=Nat.div_add_mod (U*4294967296+n) Y
  have h5:((Y*((U*4294967296+n)/Y)+(U*4294967296+n)%Y:Nat):Int)=(U:Int)*4294967296+n:=by rw [h4];omega
  rw [Int.natCast_add,Int.natCast_mul,Int.mul_comm] at h5
  rw [← h5]
  have h6:∀ a b:Int,a+b-a=b:=by intro a b;omega
  rw [h6,jV _ (by rw [yN];omega)]
 ·have:=yd8 (b:=4294967296) hU (show n<4294967296 by omega)
  omega
theorem yfs (hi lo y:Nat) (w:World) (hy:hi<y) (hyB:y<yB) (yrW:lo<yB):Calls Tryz.prog 220 #[.int .u64 hi,.int .u64 lo,.int .u64 y] w (ylk hi lo y w):=by
 have hyB':(y:Int)≤18446744073709551615:=yrB hyB
 have hloB':(lo:Int)≤18446744073709551615:=yrB yrW
 by_cases h0:hi=0
 ·subst h0
  exact yop lo y w hy hyB' hloB'
 ·obtain ⟨s,hLZ,hs,hYB,hY63⟩:=ylj y (by omega) hyB
  obtain ⟨p1,p2,p3,p4,p5,p6,p7,p8⟩:=yml hi lo y s hy hs yrW hYB
  obtain ⟨Y,hY⟩:∃ Y,Y=y*2^s:=⟨_,rfl⟩
  obtain ⟨H,hH⟩:∃ H,H=hi*2^s:=⟨_,rfl⟩
  obtain ⟨Lq,hL⟩:∃ L,L=lo/2^(64-s):=⟨_,rfl⟩
  obtain ⟨U,hU⟩:∃ U,U=H+Lq:=⟨_,rfl⟩
  obtain ⟨Nn,hN⟩:∃ N,N=lo%2^(64-s)*2^s:=⟨_,rfl⟩
  rw [← hY] at hYB hY63 p1 p7
  rw [← hH] at p2 p5 p6 p7
  rw [← hL] at p3 p5 p6 p7
  rw [← hU] at p5 p6 p7
  rw [← hN] at p4 p6 p8
  have hYs:Y=Y/4294967296*4294967296+Y%4294967296:=by omega
  rw [yN] at hYB p8
  have f1:=yfW U Y (Y/4294967296) (Y%4294967296) (Nn/4294967296) hYs (by omega) (by omega) (by omega) p7 (by omega)
  obtain ⟨a1,a2,a3,a4,a5,a6,a7,a8,a9,a10⟩:=f1
  have f2:=yfW ((U*4294967296+Nn/4294967296)%Y) Y (Y/4294967296) (Y%4294967296) (Nn%4294967296) hYs (by omega) (by omega) (by omega) a9 (by omega)
  obtain ⟨c1,c2,c3,c4,c5,c6,c7,c8,c9,c10⟩:=f2
  have jC:=yon (b:=4294967296) (u:=U) (Y:=Y) (n1:=Nn/4294967296) (n0:=Nn%4294967296)
  have hNs:Nn/4294967296*4294967296+Nn%4294967296=Nn:=Nat.div_add_mod' _ _
  rw [hNs] at jC
  have yjw:=c9
  obtain ⟨R1,hR1⟩:∃ R,R=(U*4294967296+Nn/4294967296)%Y:=⟨_,rfl⟩
  obtain ⟨Q1,hQ1⟩:∃ Q,Q=(U*4294967296+Nn/4294967296)/Y:=⟨_,rfl⟩
  rw [← hR1] at a5 a9 c1 c2 c3 c4 c5 c6 c7 c8 c9 c10 jC yjw
  rw [← hQ1] at a5 a8 jC
  obtain ⟨R0,hR0⟩:∃ R,R=(R1*4294967296+Nn%4294967296)%Y:=⟨_,rfl⟩
  obtain ⟨Q0,hQ0⟩:∃ Q,Q=(R1*4294967296+Nn%4294967296)/Y:=⟨_,rfl⟩
  rw [← hR0] at c5 c9 jC yjw
  rw [← hQ0] at c5 c8 jC
  have hsc:(hi*yB+lo)*2^s=(Q1*4294967296+Q0)*(y*2^s)+R0:=by
   rw [← hY,← jC,← p6];rfl
  obtain ⟨g1,g2⟩:=ysD (Nat.pow_pos (by omega)) (by omega) hsc (by rw [← hY];exact yjw)
  have ykZ:(R0:Int)/2^s=((R0/2^s:Nat):Int):=by push_cast;rfl
  have e1:(U*4294967296+Nn/4294967296)/(Y/4294967296*4294967296+Y%4294967296)=Q1:=by rw [← hYs];exact hQ1.symm
  have e2:(R1*4294967296+Nn%4294967296)/(Y/4294967296*4294967296+Y%4294967296)=Q0:=by rw [← hYs];exact hQ0.symm
  refine (yoo hi lo y s Y (Y/4294967296) (Y%4294967296) H Lq U Nn (Nn/4294967296) (Nn%4294967296) (U/(Y/4294967296)) (U%(Y/4294967296)) Q1 R1 (R1/(Y/4294967296)) (R1%(Y/4294967296)) Q0 R0 (R0/2^s) w (by omega) hy hyB' hloB' hs hLZ
   (yA p1) (yA (by omega)) (yA (yli Y (by rw [yN];exact hYB))) (yA p2) (yA p3) (yA p5) (yA p4) (yA (by omega)) (yA (yli Nn (by rw [yN];exact p8)))
   (yA a1) a2 (yA a3) a4 (yA a5) (yA c1) c2 (yA c3) c4 (yA c5) (yA ykZ) (by omega) (by omega) (by omega) (by omega) (by omega) (by omega) (by omega) (by omega) (by omega) (by omega) (by omega) (by omega) (by omega)
   (yA a10) (yA c10) (yA e1) (yA e2) (yA (by rw [← hYs];exact p7)) (yA (by rw [← hYs];exact a9)) (Q1*4294967296+Q0) (yA ?_) (yA ⟨?_,?_⟩)).mono ?_
  ·rw [show (Q1:Int)*4294967296=((Q1*4294967296:Nat):Int) from by omega,jV _ (by rw [yN];omega),← Int.natCast_add,jV _ (by rw [yN];omega)]
  ·rw [g1,g2,Nat.mul_comm,Nat.div_add_mod]
  ·rw [g2];exact Nat.mod_lt _ (by omega)
  ·rintro e w' ⟨q,r,h1,h2,h3⟩
   exact ⟨q,r,h1,⟨0,by rw [← h2];rfl⟩,h3⟩
theorem vP (l:List Nat) (k:Nat) (hk:k<l.length):val yB (l.drop k)=l.getD k 0+yB*val yB (l.drop (k+1)):=by
 rw [List.drop_eq_getElem_cons hk,ybF,List.getD_eq_getElem?_getD,List.getElem?_eq_getElem hk];rfl
theorem yiD {q w r r' a X Y B:Nat} (h:q*w+r'=r*B+a) (hX:Y*w+r=X):(q+B*Y)*w+r'=a+B*X:=by
 subst hX;grind
theorem ysE {q d r r' a B:Nat} (he:q*d+r'=r*B+a) (hr:r<d) (ha:a<B):q<B:=by
 apply Nat.lt_of_mul_lt_mul_right (a:=d)
 have h2:(r+1)*B≤d*B:=Nat.mul_le_mul_right _ hr
 have h3:(r+1)*B=r*B+B:=by grind
 have h4:B*d=d*B:=Nat.mul_comm _ _
 omega
def yll (x d:Nat) (w:World) (e:Ending) (w':World):Prop :=
 ∃ v,e=.returned (.tuple #[v,.int .u64 ((x%d:Nat):Int)])∧yH w' v (x/d)∧Be w w'
theorem yfl (p:Oa) (n c:Nat) (x:List Nat) (d:Nat) (w:World) (hn0:n≤yF) (hx:Rd w p n x) (dx:yQ yB x) (hd:0<d) (hdB:d<yB) :
  Calls Tryz.prog 183 #[.slice p n c,.int .u64 d] w (yll (val yB x) d w):=by
 obtain ⟨i0,hi,hz0,hz1,hz2⟩:=info_parts uO
 have hn:(n:Int)≤4294967296:=by unfold yF at hn0;omega
 go_in
 go_wp2_with (at_make;refine wpList_make_full _ rfl _ _ 96 rfl w.heap.size 86 i0 (.int .u64 0) 1 Tryz.underlying96 hi hz0 hz1 _ _ _ _ n rfl rfl (by omega) (by omega) ?b2 ?b3 nl ?_)
 case b2=>rw [hz2];unfold yF at hn0;omega
 case b3=>unfold maxLen;unfold yF at hn0;omega
 intro w1 yR yZ
 have hr1:zZ w1 w.heap.size 86 (List.replicate n 0):=jR yR
 have hb1:Be w w1:=bR.grown yZ nl (fun k h=>by cases h)
 have hx1:=hx.below hb1
 clear yR yZ
 have hlx:Hid (x.length=n):=yA hx.len
 go_wp2
 go_loopw [7,8] (fun rv i wr=>∃ (k:Nat) (z:Int) (r:Nat) (L:List Nat),k≤n∧i=.int .i64 z∧z+1=k∧rv=.int .u64 r∧Hid (r<d∧L.length=n∧yQ yB (L.drop k)∧val yB (L.drop k)*d+r=val yB (x.drop k))∧zZ wr w.heap.size 86 L∧Be w wr) (fun _ i _=>(intOf i+1).toNat)
 case atStart=>exact ⟨n,(n:Int)-1,0,_,Nat.le_refl _,rfl,by omega,rfl,yA ⟨hd,by simp,by rw [List.drop_of_length_le (by simp)];exact yQ.nil _,by rw [List.drop_of_length_le (by simp),List.drop_of_length_le (by rw [hlx.out];omega)];simp [val]⟩,hr1,hb1⟩
 case round =>
  obtain ⟨k,z,r,L,hk,rfl,hz,rfl,yK,hr,hb⟩:=hrel
  by_cases h0:k=0
  ·obtain rfl:z=-1:=by omega
   subst h0
   have yD:Hid (val yB L=val yB x/d∧r=val yB x%d∧yQ yB L∧L.length=n):=by
    obtain ⟨g1,g2,g3,g4⟩:=yK.out
    rw [List.drop_zero] at g3 g4
    rw [List.drop_zero] at g4
    refine ⟨?_,?_,g3,g2⟩
    ·rw [← g4,Nat.mul_comm,Nat.mul_add_div hd,Nat.div_eq_of_lt g1];rfl
    ·rw [← g4,Nat.mul_comm,Nat.mul_add_mod,Nat.mod_eq_of_lt g1]
   have ht:=yac (some ⟨w.heap.size,0,none⟩) n n L w wr (by unfold maxLen;omega) nl (hr.rd0 n yD.out.2.2.2.symm) yD.out.2.2.1 hb
   have Ht:=yA ht
   clear ht hz
   go_wp2_with fail
   refine Ht.out.mono ?_
   rintro e w4 ⟨v,rfl,hv,hb4⟩
   rw [yD.out.1] at hv
   rw [yD.out.2.1]
   go_wp2
   go_ret2
   exact ⟨v,rfl,hv,hb4⟩
  ·obtain ⟨j,rfl⟩:∃ j:Nat,z=j:=⟨z.toNat,by omega⟩
   obtain rfl:k=j+1:=by omega
   clear hz h0
   obtain ⟨b1,o1,a,rfl,hb1',hc1,ha⟩:=hx.at (k:=j) (by omega)
   have hc:wr.cell? ⟨b1,o1+j,none⟩=some (.int .u64 (a:Int)):=(hb.cell (p:=⟨b1,o1+j,none⟩) hb1').trans hc1
   have hf:=hr.free j
   have zU:=hr.cell j (by rw [yK.out.2.1];omega)
   have da:a<yB:=by rw [← ha.out];exact dx.getD yU j
   have yan:=yfs r a d wr yK.out.1 hdB da
   have Hdiv:=yA yan
   have hj:(j:Int)<n:=by omega
   clear yan hc1
   go_wp2_with fail
   refine Hdiv.out.mono ?_
   rintro e w3 ⟨q,r',rfl,⟨t,rfl⟩,he,hlt⟩
   have hq:q<yB:=ysE he yK.out.1 da
   have hinv':Hid (r'<d∧(L.set j q).length=n∧yQ yB ((L.set j q).drop j)∧val yB ((L.set j q).drop j)*d+r'=val yB (x.drop j)):=by
    obtain ⟨g1,g2,g3,g4⟩:=yK.out
    have hjl:j<(L.set j q).length:=by rw [List.length_set];omega
    have hd1:(L.set j q).drop (j+1)=L.drop (j+1):=by rw [List.drop_set_of_lt (by omega)]
    have hgj:(L.set j q).getD j 0=q:=by rw [List.getD_eq_getElem?_getD,List.getElem?_set_self (by omega)];rfl
    refine ⟨hlt,by rw [List.length_set];exact g2,?_,?_⟩
    ·rw [List.drop_eq_getElem_cons hjl,hd1]
     have:(L.set j q)[j]=q:=by simp
     rw [this]
     exact (yQ.one hq).append g3
    ·rw [vP _ j hjl,hd1,hgj,vP x j (by rw [hlx.out];omega),ha.out]
     exact yiD he g4
   have hr3:zZ (wr.drewN t) w.heap.size 86 L:=hr
   have hb3:Be w (wr.drewN t):=hb.trans (yI _ _ _)
   clear he hlt
   go_wp2
   go_roundw
   case rel=>exact ⟨j,(j:Int)-1,r',_,by omega,rfl,by omega,rfl,hinv',hr3.set _ _,hb3.setCell nl _⟩
   case measure=>simp [intOf]
theorem yiE (a b s:Nat) (hs:s<64) (hb:b<yB):∃ A Bq C:Nat,IntKind.u64.wrap ((a:Int)*2^s)=A∧(b:Int)/2^(64-s)=Bq∧bits .or .u64 (A:Int) (Bq:Int)=C ∧
  Hid (C=a%2^(64-s)*2^s+b/2^(64-s)∧A=a%2^(64-s)*2^s∧C<yB∧A<yB):=by
 have hpq:2^s*2^(64-s)=yB:=by rw [← Nat.pow_add,show s+(64-s)=64 from by omega];rfl
 have hq:0<2^(64-s):=Nat.pow_pos (by omega)
 have hp:0<2^s:=Nat.pow_pos (by omega)
 have hL:b/2^(64-s)<2^s:=by rw [Nat.div_lt_iff_lt_mul hq,hpq];exact hb
 have hM:a%2^(64-s)<2^(64-s):=Nat.mod_lt _ hq
 have h1:(a%2^(64-s)+1)*2^s≤2^(64-s)*2^s:=Nat.mul_le_mul_right _ hM
 rw [Nat.add_mul,Nat.one_mul,Nat.mul_comm (2^(64-s)),hpq] at h1
 refine ⟨a%2^(64-s)*2^s,b/2^(64-s),a%2^(64-s)*2^s+b/2^(64-s),?_,by push_cast;rfl,?_,yA ⟨rfl,rfl,by omega,by omega⟩⟩
 ·rw [ydk,yg1]
  congr 1
  rw [← hpq,Nat.mul_comm (2^s),Nat.mul_mod_mul_right]
 ·exact yg2 _ _ s hL (by have:=Nat.div_le_self b (2^(64-s));omega) (by omega)
theorem ycB (s:Nat) (hs:s<64):2^s*2^(64-s)=yB:=by rw [← Nat.pow_add,show s+(64-s)=64 from by omega];rfl
theorem ylm {B P Q a bq Z X:Nat} (hB:P*Q=B) (h:Z=P*X+a/Q):(a%Q*P+bq)+B*Z=P*(a+B*X)+bq:=by
 have:=Nat.div_add_mod a Q
 generalize a/Q=d at *
 generalize a%Q=m at *
 subst h
 rw [← this,← hB];grind
def yjI (x s n:Nat) (w:World) (e:Ending) (w':World):Prop :=
 ∃ L,e=.returned (.slice (some ⟨w.heap.size,0,none⟩) (n+1) (n+1))∧zZ w' w.heap.size 86 L∧L.length=n+1∧yQ yB L∧val yB L=2^s*x∧Be w w'
theorem yfX (p:Oa) (n c:Nat) (x:List Nat) (s:Nat) (w:World) (hn0:n≤yF) (hx:Rd w p n x) (dx:yQ yB x) (hs:s<64) :
  Calls Tryz.prog 185 #[.slice p n c,.int .i64 s] w (yjI (val yB x) s n w):=by
 obtain ⟨i0,hi,hz0,hz1,hz2⟩:=info_parts uO
 have hn:(n:Int)≤4294967296:=by unfold yF at hn0;omega
 go_in
 go_wp2_with (at_make;refine wpList_make_full _ rfl _ _ 96 rfl w.heap.size 86 i0 (.int .u64 0) 1 Tryz.underlying96 hi hz0 hz1 _ _ _ _ (n+1) rfl rfl (by omega) (by omega) ?b2 ?b3 nl ?_)
 case b2=>rw [hz2];unfold yF at hn0;omega
 case b3=>unfold maxLen;unfold yF at hn0;omega
 intro w1 yR yZ
 have hr1:zZ w1 w.heap.size 86 (List.replicate (n+1) 0):=jR yR
 have hb1:Be w w1:=bR.grown yZ nl (fun k h=>by cases h)
 have hx1:=hx.below hb1
 clear yR yZ
 go_wp2_with (refine wpList_copy_splice (o:=⟨some 13,_,_,_,_,_⟩) rfl (.tmp 11) (.tmp 12) 96 96 rfl 86 Tryz.underlying96 (by kernel_rfl) _ _ _ _ _ _ rfl rfl w.heap.size 0 (zL (List.replicate (n+1) 0)) 86 hr1 (zL x) ?c1 ?c2 ?c3 (ybG x) w.heap.size w hb1 nl ?_)
 case c1=>rw [zW,hx.len];exact (Nat.min_eq_left (by omega)).symm
 case c2=>exact fun h=>hx1.cells h
 case c3=>rw [zW,zW,hx.len,List.length_replicate];omega
 intro w2 hr2 hb2
 have hr:zZ w2 w.heap.size 86 (x++List.replicate (n+1-n) 0):=by
  have:=hr2.out
  rw [yb7 _ x _ _ rfl,yb8 x (n+1) (by rw [hx.len];omega),hx.len] at this
  exact this
 have hlen:(x++List.replicate (n+1-n) 0).length=n+1:=by rw [List.length_append,List.length_replicate,hx.len];omega
 have uY:yQ yB (x++List.replicate (n+1-n) 0):=dx.append (yQ.zeros yU _)
 have zQ:val yB (x++List.replicate (n+1-n) 0)=val yB x:=by rw [uD,GH];omega
 have yk0:(x++List.replicate (n+1-n) 0).getD n 0=0:=by
  rw [List.getD_eq_getElem?_getD,List.getElem?_append_right (by rw [hx.len];omega),hx.len,show n+1-n=1 from by omega];simp
 obtain ⟨X,hX⟩:∃ X,Hid (X=x++List.replicate (n+1-n) 0):=⟨_,yA rfl⟩
 rw [← hX.out] at hr hlen uY zQ yk0
 have Hlen:=yA hlen
 have Hval:=yA zQ
 have Htop:=yA yk0
 clear hr2 hlen zQ yk0 hx1 hr1 hb1
 go_wp2
 go_loopw [6] (fun i wr=>∃ (k:Nat) (L:List Nat),k≤n∧i=.int .i64 k∧zZ wr w.heap.size 86 L∧Be w wr∧Hid (L.length=n+1∧L.take (k+1)=X.take (k+1)∧yQ yB L∧val yB (L.drop (k+1))=2^s*val yB (X.drop (k+1))+X.getD k 0/2^(64-s))) (fun i _=>(intOf i).toNat)
 case atStart=>exact ⟨n,X,Nat.le_refl _,rfl,hr,hb2,yA ⟨Hlen.out,rfl,uY,by rw [Htop.out,List.drop_of_length_le (by rw [Hlen.out];omega)];simp [val]⟩⟩
 case round =>
  obtain ⟨k,L,hk,rfl,vB,yhU,yK⟩:=hrel
  have g0:=vB.cell k (by rw [yK.out.1];omega)
  have f0:=vB.free k
  obtain ⟨a,ha⟩:∃ a,Hid (L.getD k 0=a):=⟨_,yA rfl⟩
  rw [ha.out] at g0
  have da:a<yB:=by rw [← ha.out];exact yK.out.2.2.1.getD yU k
  by_cases h0:k=0
  ·subst h0
   obtain ⟨A,Bq,C,e1,-,-,hC⟩:=yiE a 0 s hs yU
   have yD:Hid ((L.set 0 A).length=n+1∧yQ yB (L.set 0 A)∧val yB (L.set 0 A)=2^s*val yB x):=by
    obtain ⟨i1,i2,i3,i4⟩:=yK.out
    have haX:X.getD 0 0=a:=by
     have:=congrArg (fun l=>l.getD 0 0) i2
     simp [List.getD_eq_getElem?_getD] at this
     rw [List.getD_eq_getElem?_getD,← this,← List.getD_eq_getElem?_getD];exact ha.out
    rw [haX] at i4
    refine ⟨by rw [List.length_set];exact i1,i3.set 0 A hC.out.2.2.2,?_⟩
    have h1:=vP (L.set 0 A) 0 (by rw [List.length_set];omega)
    have h2:=vP X 0 (by rw [Hlen.out];omega)
    rw [List.drop_zero,List.drop_set_of_lt (by omega)] at h1
    rw [List.drop_zero,haX] at h2
    have h3:(L.set 0 A).getD 0 0=A:=by rw [List.getD_eq_getElem?_getD,List.getElem?_set_self (by omega)];rfl
    rw [h1,h3,← Hval.out,h2,hC.out.2.1]
    have:=ylm (bq:=0) (ycB s hs) i4
    simpa using this
   go_wp2
   refine bodyPost_ret (v:=.slice (some ⟨w.heap.size,0,none⟩) (n+1) (n+1)) (by simp [results,Tryz.results185,go_sem]) rfl ?_
   exact ⟨L.set 0 A,rfl,vB.set _ _,yD.out.1,yD.out.2.1,yD.out.2.2,yhU.setCell nl _⟩
  ·have hk1:(1:Int)≤k:=by omega
   have hkn:(k:Int)≤n:=by omega
   have g1:=vB.cell (k-1) (by rw [yK.out.1];omega)
   obtain ⟨b,hb⟩:∃ b,Hid (L.getD (k-1) 0=b):=⟨_,yA rfl⟩
   rw [hb.out] at g1
   have db:b<yB:=by rw [← hb.out];exact yK.out.2.2.1.getD yU _
   obtain ⟨A,Bq,C,e1,e2,e3,hC⟩:=yiE a b s hs db
   have hinv':Hid ((L.set k C).length=n+1∧(L.set k C).take (k-1+1)=X.take (k-1+1)∧yQ yB (L.set k C)∧val yB ((L.set k C).drop (k-1+1))=2^s*val yB (X.drop (k-1+1))+X.getD (k-1) 0/2^(64-s)):=by
    obtain ⟨i1,i2,i3,i4⟩:=yK.out
    have e:k-1+1=k:=by omega
    have yeX:∀ j,j≤k→X.getD j 0=L.getD j 0:=by
     intro j hj
     have h1:∀ M:List Nat,(M.take (k+1)).getD j 0=M.getD j 0:=by
      intro M;rw [List.getD_eq_getElem?_getD,List.getElem?_take_of_lt (by omega),← List.getD_eq_getElem?_getD]
     rw [← h1 X,← h1 L,i2]
    have haX:X.getD k 0=a:=by rw [yeX k nl];exact ha.out
    have hbX:X.getD (k-1) 0=b:=by rw [yeX (k-1) (by omega)];exact hb.out
    rw [e,hbX]
    rw [haX] at i4
    refine ⟨by rw [List.length_set];exact i1,?_,i3.set k C hC.out.2.2.1,?_⟩
    ·rw [List.take_set_of_le nl]
     have:=congrArg (List.take k) i2
     rwa [List.take_take,List.take_take,Nat.min_eq_left (by omega)] at this
    ·have h1:=vP (L.set k C) k (by rw [List.length_set];omega)
     have h2:=vP X k (by rw [Hlen.out];omega)
     have hd:(L.set k C).drop (k+1)=L.drop (k+1):=List.drop_set_of_lt (by omega)
     rw [hd] at h1
     have h3:(L.set k C).getD k 0=C:=by rw [List.getD_eq_getElem?_getD,List.getElem?_set_self (by omega)];rfl
     rw [h1,h3,h2,haX,hC.out.1]
     exact ylm (ycB s hs) i4
   go_wp2_with fail
   go_region
   go_wp2
   go_roundw
   case rel=>exact ⟨k-1,L.set k C,by omega,by go_num,(vB.set k C).drew,(yhU.setCell nl _).drew,hinv'⟩
   case measure=>simp [intOf];omega
theorem yiF (a b s:Nat) (hs:s<64) (ha:a<yB):∃ Aq Bs C:Nat,(a:Int)/2^s=Aq∧IntKind.u64.wrap ((b:Int)*2^(64-s))=Bs∧bits .or .u64 (Aq:Int) (Bs:Int)=C ∧
  Hid (C=a/2^s+b%2^s*2^(64-s)∧Aq=a/2^s∧C<yB∧Aq<yB):=by
 have hpq:=ycB s hs
 have hq:0<2^(64-s):=Nat.pow_pos (by omega)
 have hp:0<2^s:=Nat.pow_pos (by omega)
 have hL:a/2^s<2^(64-s):=by rw [Nat.div_lt_iff_lt_mul hp,Nat.mul_comm,hpq];exact ha
 have hM:b%2^s<2^s:=Nat.mod_lt _ hp
 have h1:(b%2^s+1)*2^(64-s)≤2^s*2^(64-s):=Nat.mul_le_mul_right _ hM
 rw [Nat.add_mul,Nat.one_mul,hpq] at h1
 have hAq:a/2^s<yB:=by have:=Nat.div_le_self a (2^s);omega
 refine ⟨a/2^s,b%2^s*2^(64-s),a/2^s+b%2^s*2^(64-s),by push_cast;rfl,?_,?_,yA ⟨rfl,rfl,by omega,hAq⟩⟩
 ·rw [ydk,yg1]
  congr 1
  rw [← hpq,Nat.mul_mod_mul_right]
 ·have h2:=yg2 (b%2^s) (a/2^s) (64-s) hL hAq (by omega)
  rw [u64_or_nat _ _ (by rw [← yN];omega) (by rw [← yN];omega)] at h2 ⊢
  rw [Nat.or_comm,Nat.add_comm];exact h2
theorem ytJ {B P Q p F x0 a b V:Nat} (hB:P*Q=B) (h:P*F+x0=V+p*(a%P)):P*(F+p*(a/P+b%P*Q))+x0=(V+p*a)+(p*B)*(b%P):=by
 have:=Nat.div_add_mod a P
 generalize a/P=d at *
 generalize a%P=m at *
 generalize b%P=c at *
 rw [← this,← hB];grind
theorem ytK {P p F x0 a V:Nat} (h:P*F+x0=V+p*(a%P)):P*(F+p*(a/P))+x0=V+p*a:=by
 have:=Nat.div_add_mod a P
 generalize a/P=d at *
 generalize a%P=m at *
 rw [← this];grind
def ywb (g n s:Nat) (X:List Nat) (w:World) (e:Ending) (w':World):Prop :=
 ∃ L,e=.returned (.tuple #[])∧zZ w' g 86 L∧L.length=n∧yQ yB L∧val yB L=val yB X/2^s∧Only g w w'
theorem yil (g n c:Nat) (X:List Nat) (s:Nat) (w:World) (hn0:n≤yF) (ynM:1≤n) (hr:zZ w g 86 X) (hlX:X.length=n) (dX:yQ yB X) (hs:s<64) :
  Calls Tryz.prog 187 #[.slice (some ⟨g,0,none⟩) n c,.int .i64 s] w (ywb g n s X w):=by
 have hn:(n:Int)≤4294967296:=by unfold yF at hn0;omega
 have Hlen:=yA hlX
 clear hlX
 go_in
 go_wp2
 go_loopw [10] (fun i wr=>∃ (k:Nat) (L:List Nat),k+1≤n∧i=.int .i64 k∧zZ wr g 86 L∧Only g w wr∧Hid (L.length=n∧L.drop k=X.drop k∧yQ yB L∧2^s*val yB (L.take k)+X.getD 0 0%2^s=val yB (X.take k)+yB^k*(X.getD k 0%2^s))) (fun i _=>n-(intOf i).toNat)
 case atStart=>exact ⟨0,X,by omega,rfl,hr,Only.refl _ _,yA ⟨Hlen.out,rfl,dX,by simp [val]⟩⟩
 case round =>
  obtain ⟨k,L,hk,rfl,vB,honly,yK⟩:=hrel
  have g0:=vB.cell k (by rw [yK.out.1];omega)
  have f0:=vB.free k
  obtain ⟨a,ha⟩:∃ a,Hid (L.getD k 0=a):=⟨_,yA rfl⟩
  rw [ha.out] at g0
  have da:a<yB:=by rw [← ha.out];exact yK.out.2.2.1.getD yU k
  have yeX:Hid (∀ j,k≤j→X.getD j 0=L.getD j 0):=yA (by
   intro j hj
   have h1:∀ M:List Nat,(M.drop k).getD (j-k) 0=M.getD j 0:=by
    intro M;rw [List.getD_eq_getElem?_getD,List.getElem?_drop,← List.getD_eq_getElem?_getD];congr 1;omega
   rw [← h1 X,← h1 L,yK.out.2.1])
  by_cases hlt:k+1<n
  ·have g1:=vB.cell (k+1) (by rw [yK.out.1];omega)
   obtain ⟨b,hb⟩:∃ b,Hid (L.getD (k+1) 0=b):=⟨_,yA rfl⟩
   rw [hb.out] at g1
   obtain ⟨A,Bs,C,e1,e2,e3,hC⟩:=yiF a b s hs da
   have hinv':Hid ((L.set k C).length=n∧(L.set k C).drop (k+1)=X.drop (k+1)∧yQ yB (L.set k C)∧2^s*val yB ((L.set k C).take (k+1))+X.getD 0 0%2^s=val yB (X.take (k+1))+yB^(k+1)*(X.getD (k+1) 0%2^s)):=by
    obtain ⟨i1,i2,i3,i4⟩:=yK.out
    have haX:X.getD k 0=a:=by rw [yeX.out k nl];exact ha.out
    have hbX:X.getD (k+1) 0=b:=by rw [yeX.out (k+1) (by omega)];exact hb.out
    have hd:(L.set k C).drop (k+1)=L.drop (k+1):=List.drop_set_of_lt (by omega)
    refine ⟨by rw [List.length_set];exact i1,?_,i3.set k C hC.out.2.2.1,?_⟩
    ·rw [hd]
     have:=congrArg (List.drop 1) i2
     rwa [List.drop_drop,List.drop_drop] at this
    ·rw [yO,yO,List.take_set_of_le nl,haX,hbX]
     have h3:(L.set k C).getD k 0=C:=by rw [List.getD_eq_getElem?_getD,List.getElem?_set_self (by omega)];rfl
     rw [h3,hC.out.1,Nat.pow_succ]
     rw [haX] at i4
     exact ytJ (ycB s hs) i4
   have hk1:(k:Int)+1<n:=by omega
   go_wp2_with fail
   go_region
   go_wp2
   go_roundw
   case rel=>exact ⟨k+1,L.set k C,by omega,by go_num,(vB.set k C).drew,(honly.setCell _ _).drew,hinv'⟩
   case measure=>simp [intOf];omega
  ·obtain rfl:k+1=n:=by omega
   obtain ⟨A,Bs,C,e1,-,-,hC⟩:=yiF a 0 s hs da
   have yD:Hid ((L.set k A).length=k+1∧yQ yB (L.set k A)∧val yB (L.set k A)=val yB X/2^s):=by
    obtain ⟨i1,i2,i3,i4⟩:=yK.out
    have haX:X.getD k 0=a:=by rw [yeX.out k nl];exact ha.out
    rw [haX] at i4
    refine ⟨by rw [List.length_set];exact i1,i3.set k A hC.out.2.2.2,?_⟩
    have h1:=yO yB (L.set k A) k
    have h2:=yO yB X k
    have h3:(L.set k A).getD k 0=A:=by rw [List.getD_eq_getElem?_getD,List.getElem?_set_self (by omega)];rfl
    rw [List.take_of_length_le (by rw [List.length_set];omega),List.take_set_of_le nl,h3] at h1
    rw [List.take_of_length_le (by rw [Hlen.out];omega),haX] at h2
    have h4:=ytK i4
    rw [← hC.out.2.1,← h1,← h2] at h4
    have hp:0<2^s:=Nat.pow_pos (by omega)
    rw [← h4,Nat.mul_add_div hp,Nat.div_eq_of_lt (Nat.mod_lt _ hp)];rfl
   go_wp2_with fail
   go_end0
   exact ⟨L.set k A,rfl,vB.set _ _,yD.out.1,yD.out.2.1,yD.out.2.2,honly.setCell _ _⟩
end Go.Proofs.YtgepehlpjpccaaaGreatDoor
