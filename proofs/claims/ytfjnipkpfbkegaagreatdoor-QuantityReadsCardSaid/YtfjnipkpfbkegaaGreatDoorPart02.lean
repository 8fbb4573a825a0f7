/- Contracts. -/
import Derived.Test.YtfjnipkpfbkegaaGreatDoorPart01
set_option maxHeartbeats 1600000
set_option maxRecDepth 100000
namespace Go.Proofs.YtfjnipkpfbkegaaGreatDoor
open Go.RowKit Big
theorem yc9 (g n c:Nat) (L:List Nat) (w:World) (hn:0<n) (hL:n≤L.length) (hr:jA w g 100 L) :
  ∃ w',(∀ ty,(Builtin.clear_ #[62] ty #[.slice (some ⟨g,0,none⟩) n c]).run Tryz.prog w=.ok (.tuple #[]) w')∧Only g w w'∧jA w' g 100 (List.replicate n 0++L.drop n):=by
 obtain ⟨i0,hi,hz0,hz1,hz2⟩:=info_parts GA
 have hs:=run_storeCells_at Tryz.prog g 0 100 (jE (List.replicate n 0)) 0 (jE L).toArray w hr (by simp [jE];exact hL) (ybd _)
 have hz:(Builtin.zeroCells #[Value.int .u64 0] n).toList=jE (List.replicate n 0):=by
  apply List.ext_getElem
  ·simp [Builtin.zeroCells,jE]
  ·intro i h1 h2
   simp [Builtin.zeroCells,jE,Nat.mod_one]
 obtain ⟨m,rfl⟩:∃ m,n=m+1:=⟨n-1,by omega⟩
 have hzv:(zeroValue 100).run Tryz.prog w=.ok (.int .u64 0) w:=by
  simp [zeroValue,typeInfo,hi,hz0]
 have jJ:∀ ty,(Builtin.clear_ #[62] ty #[.slice (some ⟨g,0,none⟩) (m+1) c]).run Tryz.prog w=.ok (.tuple #[]) (w.setRow g (((jE L).toArray.toList.take (0+0))++jE (List.replicate (m+1) 0)++(jE L).toArray.toList.drop (0+0+(jE (List.replicate (m+1) 0)).length)).toArray):=by
  intro ty
  simp only [Builtin.clear_]
  simp [run_underlying Tryz.underlying62,hzv,Value.cells,hz,hs]
 refine ⟨_,jJ,⟨rfl,rfl,rfl,by simp [World.setRow],fun k hk=>setRow_other w g k _ hk⟩,?_⟩
 unfold jA
 rw [setRow_heap w g _ _ 100 (0,0) hr]
 simp [jE,List.map_drop]
theorem yiW (L L':List Nat) (k n N:Nat) (x y:List Nat) (c:Nat) (hN:N=n+y.length) (hL:N≤L.length) (hk:k<y.length) (zY:Put L k n L') (hd:yW yC (yS L' k n)) (hc:c<yC)
  (hv:val yC (yS L' k n)+yC^n*c=val yC (yS L k n)+val yC x*y.getD k 0) (hin:val yC (yS L 0 (n+k))=val yC x*val yC (y.take k)) (hdL:yW yC (yS L 0 N)) (hz:∀ j,n+k≤j→j<N→L.getD j 0=0) :
  val yC (yS (L'.set (k+n) c) 0 (n+(k+1)))=val yC x*val yC (y.take (k+1))∧yW yC (yS (L'.set (k+n) c) 0 N)∧∀ j,n+(k+1)≤j→j<N→(L'.set (k+n) c).getD j 0=0:=by
 have ya7:=zY.set c
 have hlen:(L'.set (k+n) c).length=L.length:=ya7.length
 have ye7:∀ M:List Nat,∀ a b,yS M 0 (a+b)=yS M 0 a++yS M a b:=by
  intro M a b;simp only [yS,List.drop_zero];rw [List.take_add]
 have h1:yS (L'.set (k+n) c) 0 (n+(k+1))=yS L 0 k++(yS L' k n++[c]):=by
  rw [show n+(k+1)=k+(n+1) from by omega,ye7,ya7.before_seg 0 k (by omega),zY.seg_set (by omega)]
 have h2:yS L 0 (n+k)=yS L 0 k++yS L k n:=by rw [show n+k=k+n from by omega,ye7]
 have hl0:(yS L 0 k).length=k:=zX _ _ _ (by omega)
 have hl1:(yS L' k n).length=n:=zX _ _ _ (by rw [zY.length];omega)
 refine ⟨?_,?_,?_⟩
 ·rw [h1,uE,jY,hl0,hl1,hv,yY]
  rw [h2,uE,hl0] at hin
  rw [Nat.mul_add,Nat.mul_add,← hin]
  grind
 ·have e:yS (L'.set (k+n) c) 0 N=yS (L'.set (k+n) c) 0 (n+(k+1))++yS (L'.set (k+n) c) (n+(k+1)) (N-(n+(k+1))):=by
   rw [← ye7];congr 1;omega
  rw [e,h1]
  have e2:yS L 0 N=yS L 0 k++yS L k (N-k):=by rw [← ye7];congr 1;omega
  have e3:yS L 0 N=yS L 0 (n+(k+1))++yS L (n+(k+1)) (N-(n+(k+1))):=by rw [← ye7];congr 1;omega
  refine (yW.append ?_ (hd.append (yW.one hc))).append ?_
  ·rw [e2] at hdL;exact hdL.left
  ·rw [ya7.behind_seg _ _ (by omega)];rw [e3] at hdL;exact hdL.right
 ·intro j h3 h4
  rw [ya7.getD j (by omega)];exact hz j (by omega) h4
def ybQ (X g cz:Nat) (base w:World) (e:Ending) (w':World):Prop :=
 ∃ k L,e=.returned (.slice (some ⟨g,0,none⟩) k cz)∧k≤cz∧jA w' g 100 L∧L.length=cz∧zF yC (L.take k)∧val yC (L.take k)=X∧Below base.heap.size base w'∧w.heap.size≤w'.heap.size∧∀ b,b<w.heap.size→b≠g→w'.heap[b]?=w.heap[b]?
theorem ybY {p:Option Addr} {n c:Nat} {l:List Nat} {w w':World} {e:Ending} (hl:l.length=n) (hd:yW yC l) (h:yeK p n c l w e w'):∃ k,k≤n∧e=.returned (.slice p k c)∧w=w'∧zF yC (l.take k)∧val yC (l.take k)=val yC l:=by
 obtain ⟨k,hk,rfl,rfl,hz,h0⟩:=h
 refine ⟨k,hk,rfl,rfl,⟨hd.take k,?_⟩,?_⟩
 ·rcases h0 with rfl|h0
  ·simp
  ·obtain ⟨j,rfl⟩:∃ j,k=j+1:=⟨k-1,by
    have:k≠0:=by
     rintro rfl
     by_cases h1:0<n
     ·exact h0 (hz 0 (by omega) h1)
     ·apply h0;rw [List.getD_eq_getElem?_getD,List.getElem?_eq_none (by omega)];rfl
    omega⟩
   rw [List.getLast?_eq_getElem?,List.length_take,Nat.min_eq_left (by omega),Nat.add_sub_cancel,List.getElem?_take_of_lt (by omega)]
   rw [Nat.add_sub_cancel,List.getD_eq_getElem?_getD] at h0
   intro e1;rw [e1] at h0;exact h0 rfl
 ·rw [vR yC l k (by omega),yc8 l k (fun j h1 h2=>hz j h1 (by omega))]
  omega
theorem yfG (g nz cz:Nat) (Z:List Nat) (p:Option Addr) (n c:Nat) (x:List Nat) (q:Option Addr) (m d:Nat) (y:List Nat) (base w:World) (hcz:cz≤yT) (hnm:n+m≤cz) (hpos:0<n+m)
  (hz:jA w g 100 Z) (hZ:Z.length=cz) (hx:Rd w p n x) (hy:Rd w q m y) (dx:yW yC x) (dy:yW yC y) (hpx:n=0∨∀ b o,p=some ⟨b,o,none⟩→b≠g) (hqy:m=0∨∀ b o,q=some ⟨b,o,none⟩→b≠g)
  (hb:Below base.heap.size base w) (hg:base.heap.size≤g) :
  Calls Tryz.prog 88 #[.slice (some ⟨g,0,none⟩) nz cz,.slice p n c,.slice q m d] w (ybQ (val yC x*val yC y) g cz base w):=by
 have hc64:(cz:Int)≤4294967296:=by unfold yT at hcz;omega
 have ynY:decide ((cz:Int)<n+m)=false:=by simp;omega
 obtain ⟨w2,ynZ,ho2,hr2⟩:=yc9 g (n+m) cz Z w hpos (by omega) hz
 have Hclr:=yA ynZ
 clear ynZ
 go_enter Tryz.func88,Tryz.ntmps88
 go_wp2_with fail
 rw [Hclr.out]
 have hx2:Rd w2 p n x:=ho2.rd hx hpx
 have hy2:Rd w2 q m y:=ho2.rd hy hqy
 have hL2:(List.replicate (n+m) 0++Z.drop (n+m)).length=cz:=by simp [hZ];omega
 obtain ⟨L0,hL0⟩:∃ L0,Hid (L0=List.replicate (n+m) 0++Z.drop (n+m)):=⟨_,yA rfl⟩
 rw [← hL0.out] at hr2 hL2
 have hs0:yS L0 0 (n+m)=List.replicate (n+m) 0:=by rw [hL0.out];simp [yS]
 have hz0:∀ j,n+0≤j→j<n+m→L0.getD j 0=0:=by
  intro j h1 h2
  rw [hL0.out,List.getD_eq_getElem?_getD,List.getElem?_append_left (by simp;omega)]
  simp [h2]
 have hv0:val yC (yS L0 0 (n+0))=val yC x*val yC (y.take 0):=by
  rw [show n+0=n from rfl,← ybB L0 0 (n+m) n (by omega),hs0]
  simp [uQ,val]
 have hd0:yW yC (yS L0 0 (n+m)):=by rw [hs0];exact yW.zeros yU _
 have ycX:∃ (k:Nat) (L:List Nat),k≤m∧Value.int .i64 0=.int .i64 k∧jA w2 g 100 L∧L.length=cz∧yW yC (yS L 0 (n+m))∧val yC (yS L 0 (n+k))=val yC x*val yC (y.take k)∧(∀ j,n+k≤j→j<n+m→L.getD j 0=0)∧Only g w2 w2 :=
  ⟨0,L0,Nat.zero_le _,rfl,hr2,hL2,hd0,hv0,hz0,Only.refl _ _⟩
 have Hstart:=yA ycX
 clear ycX hs0 hz0 hv0 hd0 hL0 hr2 hL2
 go_wp2_with fail
 go_loopw [27] (fun i wr=>∃ (k:Nat) (L:List Nat),k≤m∧i=.int .i64 k∧jA wr g 100 L∧L.length=cz∧yW yC (yS L 0 (n+m))∧val yC (yS L 0 (n+k))=val yC x*val yC (y.take k)∧(∀ j,n+k≤j→j<n+m→L.getD j 0=0)∧Only g w2 wr) (fun i _=>m-(intOf i).toNat)
 case atStart=>exact Hstart.out
 case round =>
  obtain ⟨k,L,hk,rfl,hr,hlen,uI,yZ,yis,ho⟩:=hrel
  have Hval:=yA yZ
  have Hzero:=yA yis
  have Hlen:=yA hlen
  clear yZ yis hlen Hstart
  by_cases hlt:k<m
  ·obtain ⟨b0,o0,v,rfl,hb0,hc0,hv⟩:=hy2.at hlt
   have dv:v<yC:=by rw [← hv.out];exact dy.getD yU k
   have hcy:wr.cell? ⟨b0,o0+k,none⟩=some (.int .u64 (v:Int)):=by
    rw [← hc0]
    exact World.cell?_of_block (w:=w2) (ho.block b0 ((hqy.resolve_left (by omega)) b0 o0 rfl))
   have yrs:yW yC (yS L k n):=by
    intro a ha
    refine uI a ?_
    have e:yS L 0 (n+m)=yS L 0 k++yS L k (n+m-k):=by
     simp only [yS,List.drop_zero];rw [← List.take_add];congr 1;omega
    have e2:yS L k n=(yS L k (n+m-k)).take n:=by rw [ybB _ _ _ _ (by omega)]
    rw [e2] at ha
    rw [e];exact List.mem_append_right _ (List.mem_of_mem_take ha)
   have yd2:=ydB g k n (cz-k) 100 L p c x v wr (by unfold maxLen;omega) (by rw [Hlen.out];omega) hr (ho.rd hx2 hpx) hpx yrs dx dv
   have Hadd:=yA yd2
   have hkc:¬ cz=k:=by omega
   clear yd2 hc0
   go_wp2_with fail
   refine Hadd.out.mono ?_
   rintro e w3 ⟨L',cy,zY,hd',hcy',hv',rfl,ho',hr'⟩
   have ybn:=hr'.cell (k+n) (by rw [zY.length,Hlen.out];omega)
   have ykE:=hr'.free (k+n)
   obtain ⟨t1,t2,t3⟩:=yiW L L' k n (n+m) x y cy (by rw [hy2.len]) (by rw [Hlen.out];omega) (by rw [hy2.len];exact hlt) zY hd' hcy' (by rw [hv',hv.out]) Hval.out uI Hzero.out
   have Hrel:=yA (And.intro t1 (And.intro t2 t3))
   have hlen':(L'.set (k+n) cy).length=cz:=by rw [List.length_set,zY.length];exact Hlen.out
   have Hlen':=yA hlen'
   have hput':=yA zY
   clear t1 t2 t3 hlen' zY hv' hd'
   go_wp2_with fail
   go_roundw
   case rel=>exact ⟨k+1,_,by omega,by go_num,hr'.set _ _,Hlen'.out,Hrel.out.2.1,Hrel.out.1,Hrel.out.2.2,(ho.trans ho').setCell _ _⟩
   case measure=>simp [intOf];omega
  ·obtain rfl:k=m:=by omega
   have yE:∀ e w',yeK (some ⟨g,0,none⟩) (n+k) cz (yS L 0 (n+k)) wr e w'→ybQ (val yC x*val yC y) g cz base w e w':=by
    intro e w' h
    obtain ⟨j,hj,rfl,rfl,yfV,hv⟩:=ybY (zX _ _ _ (by rw [Hlen.out];omega)) uI h
    rw [ybB _ _ _ _ hj] at yfV hv
    rw [Hval.out,List.take_of_length_le (by rw [hy2.len];omega)] at hv
    refine ⟨j,L,rfl,by omega,hr,Hlen.out,by simpa [yS] using yfV,by simpa [yS] using hv,?BELOW,?SIZE,?BLOCKS⟩
    case BELOW=>exact Only.below hb (ho2.trans ho) hg
    case SIZE=>rw [(ho2.trans ho).size];exact Nat.le_refl _
    case BLOCKS=>exact fun b h1 h2=>(ho2.trans ho).block b h2
   have Hfin:=yA yE
   have ht:=GL (some ⟨g,0,none⟩) (n+k) cz (yS L 0 (n+k)) wr (by unfold maxLen;omega) (by omega) (hr.rd 0 (n+k) (by rw [Hlen.out];omega))
   have Ht:=yA ht
   clear yE ht
   go_wp2_with fail
   refine Ht.out.mono ?_
   intro e w' h
   have Hp:=Hfin.out e w' h
   obtain ⟨j,L1,rfl,ya8⟩:=Hp
   have Hrest:=yA ya8
   clear ya8 h
   go_wp2_with fail
   go_ret
   exact ⟨j,L1,rfl,Hrest.out⟩
theorem yb3 (pz:Option Addr) (nz zc:Nat) (p:Option Addr) (n c:Nat) (x:List Nat) (q:Option Addr) (m d:Nat) (y:List Nat) (base w:World) (yp2:n+m≤yT) (hpos:0<n+m) (hzc:zc<n+m)
  (hx:Rd w p n x) (hy:Rd w q m y) (dx:yW yC x) (dy:yW yC y) (hb:Below base.heap.size base w) :
  Calls Tryz.prog 88 #[.slice pz nz zc,.slice p n c,.slice q m d] w (ybQ (val yC x*val yC y) w.heap.size (n+m) base w):=by
 obtain ⟨i0,hi,hz0,hz1,hz2⟩:=info_parts GA
 have hc64:(n:Int)+m≤4294967296:=by unfold yT at yp2;omega
 have ynY:decide ((zc:Int)<n+m)=true:=by simp;omega
 have hcz:n+m≤yT:=yp2
 have hpx:n=0∨∀ b o,p=some ⟨b,o,none⟩→b≠w.heap.size:=by
  rcases hx.cell with h|⟨b,o,h1,h2,_⟩
  ·exact .inl h
  ·refine .inr fun b' o' h=>?_
   rw [h1] at h;cases h;omega
 have hqy:m=0∨∀ b o,q=some ⟨b,o,none⟩→b≠w.heap.size:=by
  rcases hy.cell with h|⟨b,o,h1,h2,_⟩
  ·exact .inl h
  ·refine .inr fun b' o' h=>?_
   rw [h1] at h;cases h;omega
 have hg:=hb.size
 go_enter Tryz.func88,Tryz.ntmps88
 go_wp2_with (at_make;refine wpList_make_full _ rfl _ _ 62 rfl w.heap.size 100 i0 (.int .u64 0) 1 Tryz.underlying62 hi hz0 hz1 _ _ _ _ (n+m) rfl rfl (by omega) (by omega) ?b2 ?b3 (Nat.le_refl _) ?_)
 case b2=>rw [hz2];unfold yT at yp2;omega
 case b3=>unfold maxLen;unfold yT at yp2;omega
 intro w1 jH jT
 have hr1:jA w1 w.heap.size 100 (List.replicate (n+m) 0):=vK jH
 have yn0:Below w.heap.size w w1:=(Below.refl _ _).grown jT (Nat.le_refl _) (fun k h=>by cases h)
 obtain ⟨w2,ynZ,ho2,hr2⟩:=yc9 w.heap.size (n+m) (n+m) _ w1 hpos (by simp) hr1
 rw [List.drop_of_length_le (by simp)] at hr2
 have Hclr:=yA ynZ
 clear jH jT ynZ hr1
 go_wp2_with fail
 rw [Hclr.out]
 have hx2:Rd w2 p n x:=ho2.rd (hx.below yn0) hpx
 have hy2:Rd w2 q m y:=ho2.rd (hy.below yn0) hqy
 have hL2:(List.replicate (n+m) 0++([]:List Nat)).length=(n+m):=by simp
 obtain ⟨L0,hL0⟩:∃ L0,Hid (L0=List.replicate (n+m) 0++([]:List Nat)):=⟨_,yA rfl⟩
 rw [← hL0.out] at hr2 hL2
 have hs0:yS L0 0 (n+m)=List.replicate (n+m) 0:=by rw [hL0.out];simp [yS]
 have hz0:∀ j,n+0≤j→j<n+m→L0.getD j 0=0:=by
  intro j h1 h2
  rw [hL0.out,List.getD_eq_getElem?_getD,List.getElem?_append_left (by simp;omega)]
  simp [h2]
 have hv0:val yC (yS L0 0 (n+0))=val yC x*val yC (y.take 0):=by
  rw [show n+0=n from rfl,← ybB L0 0 (n+m) n (by omega),hs0]
  simp [uQ,val]
 have hd0:yW yC (yS L0 0 (n+m)):=by rw [hs0];exact yW.zeros yU _
 have ycX:∃ (k:Nat) (L:List Nat),k≤m∧Value.int .i64 0=.int .i64 k∧jA w2 w.heap.size 100 L∧L.length=(n+m)∧yW yC (yS L 0 (n+m))∧val yC (yS L 0 (n+k))=val yC x*val yC (y.take k)∧(∀ j,n+k≤j→j<n+m→L.getD j 0=0)∧Only w.heap.size w2 w2 :=
  ⟨0,L0,Nat.zero_le _,rfl,hr2,hL2,hd0,hv0,hz0,Only.refl _ _⟩
 have Hstart:=yA ycX
 clear ycX hs0 hz0 hv0 hd0 hL0 hr2 hL2
 go_wp2_with fail
 go_loopw [27] (fun i wr=>∃ (k:Nat) (L:List Nat),k≤m∧i=.int .i64 k∧jA wr w.heap.size 100 L∧L.length=(n+m)∧yW yC (yS L 0 (n+m))∧val yC (yS L 0 (n+k))=val yC x*val yC (y.take k)∧(∀ j,n+k≤j→j<n+m→L.getD j 0=0)∧Only w.heap.size w2 wr) (fun i _=>m-(intOf i).toNat)
 case atStart=>exact Hstart.out
 case round =>
  obtain ⟨k,L,hk,rfl,hr,hlen,uI,yZ,yis,ho⟩:=hrel
  have Hval:=yA yZ
  have Hzero:=yA yis
  have Hlen:=yA hlen
  clear yZ yis hlen Hstart
  by_cases hlt:k<m
  ·obtain ⟨b0,o0,v,rfl,hb0,hc0,hv⟩:=hy2.at hlt
   have dv:v<yC:=by rw [← hv.out];exact dy.getD yU k
   have hcy:wr.cell? ⟨b0,o0+k,none⟩=some (.int .u64 (v:Int)):=by
    rw [← hc0]
    exact World.cell?_of_block (w:=w2) (ho.block b0 ((hqy.resolve_left (by omega)) b0 o0 rfl))
   have yrs:yW yC (yS L k n):=by
    intro a ha
    refine uI a ?_
    have e:yS L 0 (n+m)=yS L 0 k++yS L k (n+m-k):=by
     simp only [yS,List.drop_zero];rw [← List.take_add];congr 1;omega
    have e2:yS L k n=(yS L k (n+m-k)).take n:=by rw [ybB _ _ _ _ (by omega)]
    rw [e2] at ha
    rw [e];exact List.mem_append_right _ (List.mem_of_mem_take ha)
   have yd2:=ydB w.heap.size k n ((n+m)-k) 100 L p c x v wr (by unfold maxLen;omega) (by rw [Hlen.out];omega) hr (ho.rd hx2 hpx) hpx yrs dx dv
   have Hadd:=yA yd2
   have hkc:¬ n+m=k:=by omega
   clear yd2 hc0
   go_wp2_with fail
   refine Hadd.out.mono ?_
   rintro e w3 ⟨L',cy,zY,hd',hcy',hv',rfl,ho',hr'⟩
   have ybn:=hr'.cell (k+n) (by rw [zY.length,Hlen.out];omega)
   have ykE:=hr'.free (k+n)
   obtain ⟨t1,t2,t3⟩:=yiW L L' k n (n+m) x y cy (by rw [hy2.len]) (by rw [Hlen.out];omega) (by rw [hy2.len];exact hlt) zY hd' hcy' (by rw [hv',hv.out]) Hval.out uI Hzero.out
   have Hrel:=yA (And.intro t1 (And.intro t2 t3))
   have hlen':(L'.set (k+n) cy).length=(n+m):=by rw [List.length_set,zY.length];exact Hlen.out
   have Hlen':=yA hlen'
   have hput':=yA zY
   clear t1 t2 t3 hlen' zY hv' hd'
   go_wp2_with fail
   go_roundw
   case rel=>exact ⟨k+1,_,by omega,by go_num,hr'.set _ _,Hlen'.out,Hrel.out.2.1,Hrel.out.1,Hrel.out.2.2,(ho.trans ho').setCell _ _⟩
   case measure=>simp [intOf];omega
  ·obtain rfl:k=m:=by omega
   have yE:∀ e w',yeK (some ⟨w.heap.size,0,none⟩) (n+k) (n+k) (yS L 0 (n+k)) wr e w'→ybQ (val yC x*val yC y) w.heap.size (n+k) base w e w':=by
    intro e w' h
    obtain ⟨j,hj,rfl,rfl,yfV,hv⟩:=ybY (zX _ _ _ (by rw [Hlen.out];omega)) uI h
    rw [ybB _ _ _ _ hj] at yfV hv
    rw [Hval.out,List.take_of_length_le (by rw [hy2.len];omega)] at hv
    refine ⟨j,L,rfl,by omega,hr,Hlen.out,by simpa [yS] using yfV,by simpa [yS] using hv,?BELOW,?SIZE,?BLOCKS⟩
    case BELOW=>exact Only.below (hb.trans (yn0.mono hb.size)) (ho2.trans ho) hg
    case SIZE=>rw [(ho2.trans ho).size];exact yn0.size
    case BLOCKS=>exact fun b h1 h2=>((ho2.trans ho).block b h2).trans (yn0.block b h1)
   have Hfin:=yA yE
   have ht:=GL (some ⟨w.heap.size,0,none⟩) (n+k) (n+k) (yS L 0 (n+k)) wr (by unfold maxLen;omega) (by omega) (hr.rd 0 (n+k) (by rw [Hlen.out];omega))
   have Ht:=yA ht
   clear yE ht
   go_wp2_with fail
   refine Ht.out.mono ?_
   intro e w' h
   have Hp:=Hfin.out e w' h
   obtain ⟨j,L1,rfl,ya8⟩:=Hp
   have Hrest:=yA ya8
   clear ya8 h
   go_wp2_with fail
   go_ret
   exact ⟨j,L1,rfl,Hrest.out⟩
theorem yqK (p:Option Addr) (n c:Nat) (x:List Nat) (q:Option Addr) (m d:Nat) (y:List Nat) (w:World) (hn0:n≤yT) (hmn:m<n) (hx:Rd w p n x) (hy:Rd w q m y) (dx:yW yC x) (dy:yW yC y) :
  Calls Tryz.prog 78 #[.slice q m d,.slice p n c] w (zI (val yC x+val yC y) w):=by
 obtain ⟨i0,hi,hz0,hz1,hz2⟩:=info_parts GA
 have hn:(n:Int)≤4294967296:=by unfold yT at hn0;omega
 go_enter Tryz.func78,Tryz.ntmps78
 go_wp2_with (at_make;refine wpList_make_full _ rfl _ _ 62 rfl w.heap.size 100 i0 (.int .u64 0) 1 Tryz.underlying62 hi hz0 hz1 _ _ _ _ (n+1) rfl rfl (by omega) (by omega) ?b2 ?b3 (Nat.le_refl _) ?_)
 case b2=>rw [hz2];unfold yT at hn0;omega
 case b3=>unfold maxLen;unfold yT at hn0;omega
 intro w1 jH jT
 have hr1:jA w1 w.heap.size 100 (List.replicate (n+1) 0):=vK jH
 have hb1:Below w.heap.size w w1:=(Below.refl _ _).grown jT (Nat.le_refl _) (fun k h=>by cases h)
 have hx1:=hx.below hb1
 clear jH jT
 go_wp2_with (refine wpList_copy_splice (o:=⟨some 19,_,_,_,_,_⟩) rfl (.tmp 17) (.tmp 18) 62 62 rfl 100 Tryz.underlying62 (by kernel_rfl) _ _ _ _ _ _ rfl rfl w.heap.size 0 (jE (List.replicate (n+1) 0)) 100 hr1 (jE x) ?c1 ?c2 ?c3 (ybd x) w.heap.size w hb1 (Nat.le_refl _) ?_)
 case c1=>rw [jB,hx.len];exact (Nat.min_eq_left (by omega)).symm
 case c2=>exact fun h=>hx1.cells h
 case c3=>rw [jB,jB,hx.len,List.length_replicate];omega
 intro w2 hr2 hb2
 have hr:jA w2 w.heap.size 100 (x++List.replicate (n+1-n) 0):=by
  have:=hr2.out
  rw [ybr _ x _ _ rfl,ybs x (n+1) (by rw [hx.len];omega),hx.len] at this
  exact this
 have hlen:(x++List.replicate (n+1-n) 0).length=n+1:=by rw [List.length_append,List.length_replicate,hx.len];omega
 have uI:yW yC (x++List.replicate (n+1-n) 0):=dx.append (yW.zeros yU _)
 have yZ:val yC (x++List.replicate (n+1-n) 0)=val yC x:=by rw [uE,uQ];omega
 obtain ⟨L,hL⟩:∃ L,Hid (L=x++List.replicate (n+1-n) 0):=⟨_,yA rfl⟩
 rw [← hL.out] at hr hlen uI yZ
 have Hlen:=yA hlen
 have Hval:=yA yZ
 have hq:m=0∨∀ b o,q=some ⟨b,o,none⟩→b≠w.heap.size:=by
  rcases hy.cell with h|⟨b,o,h1,h2,_⟩
  ·exact .inl h
  ·refine .inr fun b' o' h=>?_
   rw [h1] at h;cases h;omega
 have ycb:yS L 0 (n+1)=L:=GY L (n+1) hlen.symm
 have yir:yW yC (yS L 0 (n+1)):=by rw [ycb];exact uI
 have HsegL:=yA ycb
 clear hr2 hlen yZ ycb
 have hbn:n+1≤maxLen:=by unfold maxLen;omega
 go_wp2_with fail
 refine (ybq w.heap.size 0 (n+1) (n+1) 100 L q m d y _ hbn (by rw [Hlen.out];omega) (by omega) hr (hy.below hb2) hq yir dy).mono ?_
 rintro e w3 ⟨L',cy,zY,hd',hc1,hv',rfl,ho,hr'⟩
 have hl':L'.length=n+1:=by rw [zY.length];exact Hlen.out
 rw [HsegL.out,Hval.out,GY L' (n+1) hl'.symm] at hv'
 rw [GY L' (n+1) hl'.symm] at hd'
 have hlx:=vT x dx
 have hly:=vT y dy
 rw [hx.len] at hlx
 rw [hy.len] at hly
 have ydy:yC^m≤yC^n:=Nat.pow_le_pow_right yU (by omega)
 obtain ⟨hs,-⟩:=yiV hv' hlx (by omega) (by rw [yQ];omega)
 have hb3:=Only.below hb2 ho (Nat.le_refl _)
 have ht:=GM (some ⟨w.heap.size,0,none⟩) (n+1) (n+1) L' w w3 hbn (Nat.le_refl _) (hr'.rd0 (n+1) hl'.symm) hd' hb3
 rw [hs] at ht
 have Ht:=yA ht
 clear ht hs hv' hl' hlx hly ydy
 go_wp2_with fail
 refine Ht.out.mono ?_
 rintro e w4 ⟨v,rfl,hv⟩
 go_wp2_with fail
 go_ret
 exact ⟨v,rfl,hv⟩
theorem ymT {B n s c a b:Nat} (h:s+b=a+B^n*c) (hs:s<B^n) (hle:b≤a):s=a-b:=by
 have h2:c=0:=by
  apply Nat.eq_zero_of_not_pos;intro hc
  have:B^n*1≤B^n*c:=Nat.mul_le_mul_left _ hc
  omega
 subst h2;omega
theorem yk6 (p:Option Addr) (n c:Nat) (x:List Nat) (q:Option Addr) (m d:Nat) (y:List Nat) (w:World) (hn0:n≤yT) (hmn:m≤n) (hx:Rd w p n x) (hy:Rd w q m y) (dx:yW yC x) (dy:yW yC y) (hle:val yC y≤val yC x) :
  Calls Tryz.prog 79 #[.slice p n c,.slice q m d] w (zI (val yC x-val yC y) w):=by
 obtain ⟨i0,hi,hz0,hz1,hz2⟩:=info_parts GA
 have hn:(n:Int)≤4294967296:=by unfold yT at hn0;omega
 go_enter Tryz.func79,Tryz.ntmps79
 go_wp2_with (at_make;refine wpList_make_full _ rfl _ _ 62 rfl w.heap.size 100 i0 (.int .u64 0) 1 Tryz.underlying62 hi hz0 hz1 _ _ _ _ (n) rfl rfl (by omega) (by omega) ?b2 ?b3 (Nat.le_refl _) ?_)
 case b2=>rw [hz2];unfold yT at hn0;omega
 case b3=>unfold maxLen;unfold yT at hn0;omega
 intro w1 jH jT
 have hr1:jA w1 w.heap.size 100 (List.replicate (n) 0):=vK jH
 have hb1:Below w.heap.size w w1:=(Below.refl _ _).grown jT (Nat.le_refl _) (fun k h=>by cases h)
 have hx1:=hx.below hb1
 clear jH jT
 go_wp2_with (refine wpList_copy_splice (o:=⟨some 11,_,_,_,_,_⟩) rfl (.tmp 9) (.tmp 10) 62 62 rfl 100 Tryz.underlying62 (by kernel_rfl) _ _ _ _ _ _ rfl rfl w.heap.size 0 (jE (List.replicate (n) 0)) 100 hr1 (jE x) ?c1 ?c2 ?c3 (ybd x) w.heap.size w hb1 (Nat.le_refl _) ?_)
 case c1=>rw [jB,hx.len];exact (Nat.min_eq_left (by omega)).symm
 case c2=>exact fun h=>hx1.cells h
 case c3=>rw [jB,jB,hx.len,List.length_replicate];omega
 intro w2 hr2 hb2
 have hr:jA w2 w.heap.size 100 (x++List.replicate (n-n) 0):=by
  have:=hr2.out
  rw [ybr _ x _ _ rfl,ybs x (n) (by rw [hx.len];omega),hx.len] at this
  exact this
 have hlen:(x++List.replicate (n-n) 0).length=n:=by rw [List.length_append,List.length_replicate,hx.len];omega
 have uI:yW yC (x++List.replicate (n-n) 0):=dx.append (yW.zeros yU _)
 have yZ:val yC (x++List.replicate (n-n) 0)=val yC x:=by rw [uE,uQ];omega
 obtain ⟨L,hL⟩:∃ L,Hid (L=x++List.replicate (n-n) 0):=⟨_,yA rfl⟩
 rw [← hL.out] at hr hlen uI yZ
 have Hlen:=yA hlen
 have Hval:=yA yZ
 have hq:m=0∨∀ b o,q=some ⟨b,o,none⟩→b≠w.heap.size:=by
  rcases hy.cell with h|⟨b,o,h1,h2,_⟩
  ·exact .inl h
  ·refine .inr fun b' o' h=>?_
   rw [h1] at h;cases h;omega
 have ycb:yS L 0 (n)=L:=GY L (n) hlen.symm
 have yir:yW yC (yS L 0 (n)):=by rw [ycb];exact uI
 have HsegL:=yA ycb
 clear hr2 hlen yZ ycb
 have hbn:n≤maxLen:=by unfold maxLen;omega
 go_wp2_with fail
 refine (yea w.heap.size 0 (n) (n) 100 L q m d y _ hbn (by rw [Hlen.out];omega) (by omega) hr (hy.below hb2) hq yir dy).mono ?_
 rintro e w3 ⟨L',cy,zY,hd',hc1,hv',rfl,ho,hr'⟩
 have hl':L'.length=n:=by rw [zY.length];exact Hlen.out
 rw [HsegL.out,Hval.out,GY L' (n) hl'.symm] at hv'
 rw [GY L' (n) hl'.symm] at hd'
 have hlx:=vT (yS L' 0 n) (by rw [GY L' n hl'.symm];exact hd')
 rw [GY L' n hl'.symm,hl'] at hlx
 have hs:=ymT hv' hlx hle
 have hb3:=Only.below hb2 ho (Nat.le_refl _)
 have ht:=GM (some ⟨w.heap.size,0,none⟩) (n) (n) L' w w3 hbn (Nat.le_refl _) (hr'.rd0 (n) hl'.symm) hd' hb3
 rw [hs] at ht
 have Ht:=yA ht
 clear ht hs hv' hl' hlx
 go_wp2_with fail
 refine Ht.out.mono ?_
 rintro e w4 ⟨v,rfl,hv⟩
 go_wp2_with fail
 go_ret
 exact ⟨v,rfl,hv⟩
def jQ (a b:Nat):Int:=if a<b then -1 else if b<a then 1 else 0
theorem ydS (a:Nat) (w:World):Calls Tryz.prog 129 #[.int .u64 a] w fun e w'=>e=.returned (.bool false)∧w=w':=by
 have h:((a:Int) != a)=false:=by simp
 go_enter Tryz.func129,Tryz.ntmps129
 go_wp2
 go_ret
 exact ⟨rfl,rfl⟩
theorem yjD (a b:Nat) (w:World):Calls Tryz.prog 103 #[.int .u64 a,.int .u64 b] w fun e w'=>e=.returned (.int .i64 (jQ a b))∧w=w':=by
 by_cases h1:a<b
 ·have e:jQ a b=-1:=by simp [jQ,h1]
  rw [e]
  go_enter Tryz.func103,Tryz.ntmps103
  go_wp2_with (go_at_call 129;refine (ydS _ _).mono ?_;rintro e w' ⟨rfl,rfl⟩)
  go_ret
  exact ⟨rfl,rfl⟩
 ·by_cases h2:b<a
  ·have e:jQ a b=1:=by simp [jQ,h1,h2]
   rw [e]
   go_enter Tryz.func103,Tryz.ntmps103
   go_wp2_with (go_at_call 129;refine (ydS _ _).mono ?_;rintro e w' ⟨rfl,rfl⟩)
   go_ret
   exact ⟨rfl,rfl⟩
  ·have e:jQ a b=0:=by simp [jQ,h1,h2]
   rw [e]
   go_enter Tryz.func103,Tryz.ntmps103
   go_wp2_with (go_at_call 129;refine (ydS _ _).mono ?_;rintro e w' ⟨rfl,rfl⟩)
   go_ret
   exact ⟨rfl,rfl⟩
theorem yk7 {x y:List Nat} (hx:zF yC x) (hy:zF yC y) (h:x.length≠y.length):Lib.compareInt (x.length:Int) (y.length:Int)=jQ (val yC x) (val yC y):=by
 unfold Lib.compareInt jQ
 rcases Nat.lt_or_gt_of_ne h with h1|h1
 ·have:=zF.lt_of_length hx.1 hy h1
  rw [if_pos (by omega),if_pos this]
 ·have:=zF.lt_of_length hy.1 hx h1
  rw [if_neg (by omega),if_pos (by omega),if_neg (by omega),if_pos this]
theorem ymU {x y:List Nat} (hl:x.length=y.length) (hx:yW yC x) (hy:yW yC y) (k:Nat) (hk:k<x.length) (hd:x.drop (k+1)=y.drop (k+1)) (hne:x.getD k 0≠y.getD k 0):jQ (x.getD k 0) (y.getD k 0)=jQ (val yC x) (val yC y):=by
 have e1:=vR yC x (k+1) (by omega)
 have e2:=vR yC y (k+1) (by omega)
 have hky:k<y.length:=by rw [← hl];exact hk
 have g1:x.getD k 0=x[k]:=by rw [List.getD_eq_getElem?_getD,List.getElem?_eq_getElem hk];rfl
 have g2:y.getD k 0=y[k]:=by rw [List.getD_eq_getElem?_getD,List.getElem?_eq_getElem hky];rfl
 rw [g1,g2] at hne
 rw [hd] at e1
 unfold jQ
 rw [g1,g2]
 rcases Nat.lt_or_gt_of_ne hne with h1|h1
 ·have:=yaX (B:=yC) x y k hx hk hky h1
  rw [if_pos h1,if_pos (by omega)]
 ·have:=yaX (B:=yC) y x k hy hky hk h1
  rw [if_neg (by omega),if_pos h1,if_neg (by omega),if_pos (by omega)]
theorem ycd {x y:List Nat} (hl:x.length=y.length) (k:Nat) (hk:k<x.length) (h:x.drop (k+1)=y.drop (k+1)) (he:x.getD k 0=y.getD k 0):x.drop k=y.drop k:=by
 have hky:k<y.length:=by rw [← hl];exact hk
 rw [List.drop_eq_getElem_cons hk,List.drop_eq_getElem_cons hky,h]
 congr 1
 rw [List.getD_eq_getElem?_getD,List.getElem?_eq_getElem hk,List.getD_eq_getElem?_getD,List.getElem?_eq_getElem hky] at he
 exact he
theorem yJ (B:Nat) (w:World) (k:Nat):Below B w (w.drewN k):=⟨rfl,rfl,rfl,Nat.le_refl _,fun _ _=>rfl⟩
theorem yoA (w:World) (a b c:Nat):∃ k,w.drewN k=((w.drewN a).drewN b).drewN c:=⟨a+b+c,by simp only [World.drewN_drewN]⟩
def GZ (a b:Nat) (w:World) (e:Ending) (w':World):Prop:=e=.returned (.int .i64 (jQ a b))∧∃ k,w.drewN k=w'
theorem yhH (p:Option Addr) (n c:Nat) (x:List Nat) (q:Option Addr) (d:Nat) (y:List Nat) (w:World) (hn:n≤yT) (hx:Rd w p n x) (hy:Rd w q n y) (dx:yW yC x) (dy:yW yC y) :
  Calls Tryz.prog 77 #[.slice p n c,.slice q n d] w (GZ (val yC x) (val yC y) w):=by
 have hn1:(n:Int)≤4294967296:=by unfold yT at hn;omega
 have h1:((n:Int) != n)=false:=by simp
 have hl:x.length=y.length:=by rw [hx.len,hy.len]
 have Hl:=yA hl
 clear hl
 go_enter Tryz.func77,Tryz.ntmps77
 go_wp2
 go_loopw [5] (fun i wr=>∃ (k:Nat) (z:Int) (t:Nat),k≤n∧i=.int .i64 z∧z+1=k∧x.drop k=y.drop k∧wr=w.drewN t) (fun i _=>(intOf i+1).toNat)
 case atStart=>exact ⟨n,(n:Int)-1,0,Nat.le_refl _,rfl,by omega,by rw [List.drop_eq_nil_of_le (by rw [hx.len];omega),List.drop_eq_nil_of_le (by rw [hy.len];omega)],rfl⟩
 case round =>
  obtain ⟨k,z,t,hk,rfl,hz,hd,rfl⟩:=hrel
  have Hd:=yA hd
  clear hd
  by_cases h0:k=0
  ·obtain rfl:z=-1:=by omega
   subst h0
   have hxy:jQ (val yC x) (val yC y)=0:=by
    have:=Hd.out;simp at this;rw [this];simp [jQ]
   have Hxy:=yA hxy
   clear hxy hz
   go_wp2
   go_ret
   exact ⟨by rw [Hxy.out];rfl,t,rfl⟩
  ·obtain ⟨j,rfl⟩:∃ j:Nat,z=j:=⟨z.toNat,by omega⟩
   obtain rfl:k=j+1:=by omega
   clear hz h0
   obtain ⟨b1,o1,a,rfl,hb1,hc1,ha⟩:=hx.at (k:=j) (by omega)
   obtain ⟨b2,o2,b,rfl,hb2,hc2,hb⟩:=hy.at (k:=j) (by omega)
   have g1:(w.drewN t).cell? ⟨b1,o1+j,none⟩=some (.int .u64 (a:Int)):=hc1
   have g2:(w.drewN t).cell? ⟨b2,o2+j,none⟩=some (.int .u64 (b:Int)):=hc2
   have bj:(0:Int)≤j:=by omega
   have bj2:(j:Int)<n:=by omega
   have hlx:j<x.length:=by rw [hx.len];omega
   by_cases hab:a=b
   ·have hne:((a:Int) != b)=false:=by simp [hab]
    have hd':=ycd Hl.out j hlx Hd.out (by rw [ha.out,hb.out,hab])
    have Hd':=yA hd'
    clear hd' hab
    go_wp2
    go_quiet (fail)
    go_wp2
    go_roundw
    case rel=>exact ⟨j,(j:Int)-1,_,by omega,rfl,by omega,Hd'.out,rfl⟩
    case measure=>simp [intOf]
   ·have hne:((a:Int) != b)=true:=by simp;omega
    have yaW:=ymU Hl.out dx dy j hlx Hd.out (by rw [ha.out,hb.out];exact hab)
    rw [ha.out,hb.out] at yaW
    have Hcmp:=yA yaW
    clear yaW hab
    go_wp2
    go_quiet (fail)
    go_wp2
    go_quiet ((go_at_call 103;exact (yjD _ _ _).mono fun _ _ h=>⟨h.1,_,h.2.symm⟩))
    go_wp2
    go_ret
    exact ⟨by rw [← Hcmp.out];rfl,yoA _ _ _ _⟩
theorem ygq (p:Option Addr) (n c:Nat) (x:List Nat) (q:Option Addr) (m d:Nat) (y:List Nat) (w:World) (hn:n≤yT) (hm:m≤yT) (hnm:n≠m) (hx:Rd w p n x) (hy:Rd w q m y) (cx:zF yC x) (cy:zF yC y) :
  Calls Tryz.prog 77 #[.slice p n c,.slice q m d] w (GZ (val yC x) (val yC y) w):=by
 have hn1:(n:Int)≤4294967296:=by unfold yT at hn;omega
 have hm1:(m:Int)≤4294967296:=by unfold yT at hm;omega
 have h1:((n:Int) != m)=true:=by simp;omega
 have hc:=yk7 cx cy (by rw [hx.len,hy.len];exact hnm)
 rw [hx.len,hy.len] at hc
 have Hc:=yA hc
 clear hc
 go_enter Tryz.func77,Tryz.ntmps77
 go_wp2_with fail
 refine (Go.Proofs.Tryz.cmp_Compare_int _ _ _).mono ?_
 rintro e w' ⟨rfl,rfl⟩
 rw [Hc.out]
 go_wp2_with fail
 go_ret
 exact ⟨rfl,0,rfl⟩
theorem yH.drewN {w:World} {v:Value} {x:Nat} (h:yH w v x) (k:Nat):yH (w.drewN k) v x:=h.below (yJ _ _ _)
theorem GD {x K:Nat} {l:List Nat} {n:Nat} {p:Option Addr} {w:World} (hc:zF yC l) (hv:val yC l=x) (hx:x<yC^K) (hl:Rd w p n l):n≤K:=by
 have:=yiT hc hv hx;rw [hl.len] at this;exact this
theorem yaR (u v:Value) (a b K:Nat) (w:World) (hK:K≤yT) (ha:a<yC^K) (hb:b<yC^K) (hu:yH w u a) (hv:yH w v b):Calls Tryz.prog 77 #[u,v] w (GZ a b w):=by
 obtain ⟨p,n,c,x,rfl,h1,h2,h3,h4⟩:=hu
 obtain ⟨q,m,d,y,rfl,g1,g2,g3,g4⟩:=hv
 have hn:=GD h3 h4 ha h2
 have hm:=GD g3 g4 hb g2
 rw [← h4,← g4]
 by_cases hnm:n=m
 ·subst hnm
  exact yhH p n c x q d y w (by omega) h2 g2 h3.1 g3.1
 ·exact ygq p n c x q m d y w (by omega) (by omega) hnm h2 g2 h3 g3
theorem ybC (u v:Value) (a b K:Nat) (w:World) (hK:K≤yT) (ha:a<yC^K) (hb:b<yC^K) (hu:yH w u a) (hv:yH w v b):Calls Tryz.prog 78 #[u,v] w (zI (a+b) w):=by
 obtain ⟨p,n,c,x,rfl,h1,h2,h3,h4⟩:=hu
 obtain ⟨q,m,d,y,rfl,g1,g2,g3,g4⟩:=hv
 have hn:=GD h3 h4 ha h2
 have hm:=GD g3 g4 hb g2
 rw [← h4,← g4]
 by_cases hnm:m≤n
 ·exact yqJ p n c x q m d y w (by omega) hnm h2 g2 h3.1 g3.1
 ·rw [Nat.add_comm]
  exact yqK q m d y p n c x w (by omega) (by omega) g2 h2 g3.1 h3.1
theorem ycM (u v:Value) (a b K:Nat) (w:World) (hK:K≤yT) (ha:a<yC^K) (hle:b≤a) (hu:yH w u a) (hv:yH w v b):Calls Tryz.prog 79 #[u,v] w (zI (a-b) w):=by
 obtain ⟨p,n,c,x,rfl,h1,h2,h3,h4⟩:=hu
 obtain ⟨q,m,d,y,rfl,g1,g2,g3,g4⟩:=hv
 have hn:=GD h3 h4 ha h2
 have hm:m≤n:=by
  have:=zF.length_le g3 h3.1 (by rw [h4,g4];exact hle)
  rw [h2.len,g2.len] at this;exact this
 subst h4 g4
 exact yk6 p n c x q m d y w (by omega) hm h2 g2 h3.1 g3.1 hle
theorem ybQ.nat {X g cz:Nat} {w:World} {e:Ending} {w':World} (h:ybQ X g cz w w e w'):zI X w e w':=by
 obtain ⟨k,L,rfl,hk,hr,hl,hc,hv,hb,-,-⟩:=h
 refine ⟨_,rfl,⟨_,k,cz,L.take k,rfl,hk,?_,hc,hv⟩,hb⟩
 have:=hr.rd 0 k (by omega)
 simpa using this
theorem yfH (pz:Option Addr) (c:Nat) (ty:TypeId) (w:World):(Builtin.clear_ #[62] ty #[.slice pz 0 c]).run Tryz.prog w=.ok (.tuple #[]) w:=by
 cases pz<;>simp [Builtin.clear_,run_underlying Tryz.underlying62]
theorem yda (pz:Option Addr) (nz zc:Nat) (p:Option Addr) (c:Nat) (q:Option Addr) (d:Nat) (w:World) (hz:(zc:Int)≤4294967296) :
  Calls Tryz.prog 88 #[.slice pz nz zc,.slice p 0 c,.slice q 0 d] w fun e w'=>e=.returned (.slice pz 0 zc)∧w=w':=by
 have h1:decide ((zc:Int)<0)=false:=by simp
 go_enter Tryz.func88,Tryz.ntmps88
 go_wp2_with fail
 rw [yfH]
 go_wp2_with fail
 go_loopw [27] (fun i wr=>i=.int .i64 0∧w=wr) (fun _ _=>0)
 case atStart=>exact ⟨rfl,rfl⟩
 case round =>
  obtain ⟨rfl,rfl⟩:=hrel
  go_wp2_with fail
  refine (GL pz 0 zc [] _ (by unfold maxLen;omega) (by omega) (Rd.nil _ _)).mono ?_
  rintro e w' ⟨k,hk,rfl,rfl,-,-⟩
  obtain rfl:k=0:=by omega
  go_wp2_with fail
  go_ret
  exact ⟨rfl,rfl⟩
theorem uR (u v:Value) (a b K:Nat) (w:World) (hK:K≤2147483648) (ha:a<yC^K) (hb:b<yC^K) (hu:yH w u a) (hv:yH w v b):Calls Tryz.prog 57 #[u,v] w (zI (a*b) w):=by
 obtain ⟨p,n,c,x,rfl,h1,h2,h3,h4⟩:=hu
 obtain ⟨q,m,d,y,rfl,g1,g2,g3,g4⟩:=hv
 have hn:=GD h3 h4 ha h2
 have hm:=GD g3 g4 hb g2
 subst h4 g4
 by_cases hnm:n+m=0
 ·obtain rfl:n=0:=by omega
  obtain rfl:m=0:=by omega
  have hx0:x=[]:=List.eq_nil_of_length_eq_zero h2.len
  subst hx0
  have Hpost:Hid (∀ w',w=w'→zI (val yC []*val yC y) w (.returned (.slice none 0 0)) w'):=by
   intro w' h;subst h
   exact ⟨_,rfl,by rw [yl9,Nat.zero_mul];exact yH.zero _,Below.refl _ _⟩
  go_enter Tryz.func57,Tryz.ntmps57
  go_wp2_with fail
  refine (yda none 0 0 p c q d _ (by omega)).mono ?_
  rintro e w' ⟨rfl,rfl⟩
  go_wp2_with fail
  go_ret
  exact Hpost.out _ rfl
 ·have yaw:=yb3 none 0 0 p n c x q m d y w w (by unfold yT;omega) (by omega) (by omega) h2 g2 h3.1 g3.1 (Below.refl _ _)
  have Hm:=yA yaw
  clear yaw
  go_enter Tryz.func57,Tryz.ntmps57
  go_wp2_with fail
  refine Hm.out.mono ?_
  intro e w' h
  obtain ⟨v,rfl,hv⟩:=h.nat
  clear h
  go_wp2_with fail
  go_ret
  exact ⟨v,rfl,hv⟩
end Go.Proofs.YtfjnipkpfbkegaaGreatDoor
namespace Big
structure Guess (b u y1 y0 u1 q r:Nat):Prop where
 sum:q*y1+r=u
 ge:(u*b+u1)/(y1*b+y0)≤q
 le:q≤b+1
theorem Guess.start {b u y1 y0 u1:Nat} (h1:b≤2*y1) (hy1:0<y1) (hy0:y0<b) (hu:u<y1*b+y0) (hu1:u1<b):Guess b u y1 y0 u1 (u/y1) (u%y1):=by
 have hge:(u*b+u1)/(y1*b+y0)≤u/y1:=by
  refine yfc (D:=y1*b+y0) (R:=u*b+u1) (P:=b) (low:=u1) hy1 (Nat.div_mul_le_self _ _) (by omega) rfl hu1
 have hle:u/y1≤b+1:=by
  apply Nat.le_of_lt_succ
  rw [Nat.div_lt_iff_lt_mul hy1]
  show u<(b+1+1)*y1
  have:(b+1+1)*y1=y1*b+2*y1:=by grind
  omega
 exact ⟨by rw [Nat.mul_comm];exact Nat.div_add_mod u y1,hge,hle⟩
theorem Guess.expand {b u y1 y0 u1 q r:Nat} (h:Guess b u y1 y0 u1 q r):q*(y1*b+y0)+r*b=u*b+q*y0:=by
 rw [← h.sum];grind
theorem Guess.lower {b u y1 y0 u1 q r:Nat} (h:Guess b u y1 y0 u1 q r) (hu:u<y1*b+y0) (hu1:u1<b) (ht:b≤q∨b*r+u1<q*y0) :
  Guess b u y1 y0 u1 (q-1) (r+y1)∧1≤q∧q-1≤b:=by
 have hY:0<y1*b+y0:=Nat.lt_of_le_of_lt (Nat.zero_le _) hu
 have hlt:(u*b+u1)/(y1*b+y0)<q:=by
  rw [Nat.div_lt_iff_lt_mul hY]
  rcases ht with ht|ht
  ·have h1:b*(y1*b+y0)≤q*(y1*b+y0):=Nat.mul_le_mul_right _ ht
   have h2:(u+1)*b≤(y1*b+y0)*b:=Nat.mul_le_mul_right _ hu
   have h3:(u+1)*b=u*b+b:=by grind
   have h4:b*(y1*b+y0)=(y1*b+y0)*b:=Nat.mul_comm _ _
   omega
  ·have h1:=h.expand
   have h2:r*b=b*r:=Nat.mul_comm _ _
   omega
 obtain ⟨p,rfl⟩:=Nat.exists_eq_succ_of_ne_zero (Nat.ne_of_gt (Nat.lt_of_le_of_lt (Nat.zero_le _) hlt))
 refine ⟨⟨?_,?_,?_⟩,by omega,?_⟩
 ·rw [← h.sum,Nat.succ_eq_add_one,Nat.add_sub_cancel];grind
 ·exact Nat.le_of_lt_succ hlt
 ·have:=h.le;omega
 ·have:=h.le;omega
theorem Guess.done {b u y1 y0 u1 q r:Nat} (h:Guess b u y1 y0 u1 q r) (hY:0<y1*b+y0) (ht:q*y0≤b*r+u1):q=(u*b+u1)/(y1*b+y0):=by
 apply Nat.le_antisymm _ h.ge
 rw [Nat.le_div_iff_mul_le hY]
 have h1:=h.expand
 have h2:r*b=b*r:=Nat.mul_comm _ _
 omega
theorem Guess.done_break {b u y1 y0 u1 q r:Nat} (h:Guess b u y1 y0 u1 q r) (hY:0<y1*b+y0) (hy0:y0<b) (hq:q≤b) (hr:b≤r):q=(u*b+u1)/(y1*b+y0):=by
 refine h.done hY ?_
 have h1:q*y0≤b*y0:=Nat.mul_le_mul_right _ hq
 have h2:b*y0≤b*b:=Nat.mul_le_mul_left _ (by omega)
 have h3:b*b≤b*r:=Nat.mul_le_mul_left _ hr
 omega
theorem yk8 {b u Y n1 n0:Nat}:(u*(b*b)+(n1*b+n0))=(((u*b+n1)/Y)*b+(((u*b+n1)%Y)*b+n0)/Y)*Y+(((u*b+n1)%Y)*b+n0)%Y:=by
 have h1:=Nat.div_add_mod (u*b+n1) Y
 have h2:=Nat.div_add_mod (((u*b+n1)%Y)*b+n0) Y
 have h3:u*(b*b)+(n1*b+n0)=(u*b+n1)*b+n0:=by grind
 generalize (u*b+n1)/Y=q1 at *
 generalize (u*b+n1)%Y=r1 at *
 generalize (r1*b+n0)/Y=q0 at *
 generalize (r1*b+n0)%Y=r0 at *
 rw [h3,← h1]
 have h4:(Y*q1+r1)*b+n0=Y*q1*b+(r1*b+n0):=by grind
 rw [h4,← h2];grind
theorem ydb {u n Y b:Nat} (hu:u<Y) (hn:n<b):(u*b+n)/Y<b:=by
 rw [Nat.div_lt_iff_lt_mul (by omega)]
 have h1:(u+1)*b≤Y*b:=Nat.mul_le_mul_right _ hu
 have h2:(u+1)*b=u*b+b:=by grind
 have h3:b*Y=Y*b:=Nat.mul_comm _ _
 omega
theorem yoB {U y s q r:Nat} (hs:0<s) (hy:0<y) (h:U*s=q*(y*s)+r) (hr:r<y*s):q=U/y∧r/s=U%y:=by
 have h1:(U*s)/(y*s)=q:=by
  rw [h,Nat.mul_comm q,Nat.mul_add_div (Nat.mul_pos hy hs),Nat.div_eq_of_lt hr];rfl
 have h2:(U*s)%(y*s)=r:=by
  rw [h,Nat.mul_comm q,Nat.mul_add_mod,Nat.mod_eq_of_lt hr]
 rw [Nat.mul_div_mul_right _ _ hs] at h1
 rw [Nat.mul_mod_mul_right] at h2
 exact ⟨h1.symm,by rw [← h2,Nat.mul_div_cancel _ hs]⟩
end Big
namespace Go.Proofs.YtfjnipkpfbkegaaGreatDoor
open Go.RowKit Big
theorem vE (n:Nat) (h:n<yC):IntKind.u64.wrap (n:Int)=n:=by
 rw [IntKind.wrap_u64];rw [yQ] at h;omega
theorem yfd (n:Nat):IntKind.u64.wrap (n:Int)=((n%yC:Nat):Int):=by
 rw [IntKind.wrap_u64,yQ];omega
theorem yfe (a c s:Nat) (h:c<2^s) (hc:c<yC) (ha:a*2^s<yC):bits .or .u64 ((a*2^s:Nat):Int) (c:Int)=((a*2^s+c:Nat):Int):=by
 rw [u64_or_nat _ _ (by rw [yQ] at ha;exact ha) (by rw [yQ] at hc;exact hc)]
 congr 1
 rw [Nat.mul_comm]
 exact (Nat.two_pow_add_eq_or_of_lt h a).symm
theorem yiX (a:Nat) (ha:a<yC):bits .and .u64 (a:Int) 4294967295=((a%4294967296:Nat):Int):=by
 rw [show (4294967295:Int)=((4294967295:Nat):Int) from rfl,u64_and_nat _ _ (by rw [yQ] at ha;exact ha) (by omega)]
 congr 1
 exact Nat.and_two_pow_sub_one_eq_mod a 32
theorem ycl (a s:Nat):(a:Int)*2^s=((a*2^s:Nat):Int):=by push_cast;rfl
theorem yiY (y:Nat) (h0:0<y) (hB:y<yC):∃ s:Nat,Hid ((64-(Lib.bitLen y:Int))=s)∧s<64∧y*2^s<yC∧9223372036854775808≤y*2^s:=by
 have hb:=Lib.bitLenAux_bounds 64 y (by rw [yQ] at hB;exact hB) (by omega)
 obtain ⟨h1,h2,h3⟩:=hb
 have h4:Lib.bitLenAux 64 y-1<64:=by
  apply (Nat.pow_lt_pow_iff_right (a:=2) (by omega)).1
  rw [yQ] at hB
  exact Nat.lt_of_le_of_lt h2 hB
 have e:Lib.bitLen y=Lib.bitLenAux 64 y:=rfl
 refine ⟨64-Lib.bitLenAux 64 y,?_,by omega,?_,?_⟩
 ·show _=_
  rw [e];omega
 ·have h5:y*2^(64-Lib.bitLenAux 64 y)<2^Lib.bitLenAux 64 y*2^(64-Lib.bitLenAux 64 y):=Nat.mul_lt_mul_of_pos_right h3 (Nat.pow_pos (by omega))
  rw [← Nat.pow_add,show Lib.bitLenAux 64 y+(64-Lib.bitLenAux 64 y)=64 from by omega] at h5
  rw [yQ];exact h5
 ·have h5:2^(Lib.bitLenAux 64 y-1)*2^(64-Lib.bitLenAux 64 y)≤y*2^(64-Lib.bitLenAux 64 y):=Nat.mul_le_mul_right _ h2
  rw [← Nat.pow_add,show Lib.bitLenAux 64 y-1+(64-Lib.bitLenAux 64 y)=63 from by omega] at h5
  exact h5
theorem yjE (hi lo y s:Nat) (hy:hi<y) (hs:s<64) (hlo:lo<yC) (hY:y*2^s<yC) :
  IntKind.u64.wrap ((y:Int)*2^s)=((y*2^s:Nat):Int)∧IntKind.u64.wrap ((hi:Int)*2^s)=((hi*2^s:Nat):Int)∧(lo:Int)/2^(64-s)=((lo/2^(64-s):Nat):Int) ∧
  IntKind.u64.wrap ((lo:Int)*2^s)=((lo%2^(64-s)*2^s:Nat):Int) ∧
  bits .or .u64 ((hi*2^s:Nat):Int) ((lo/2^(64-s):Nat):Int)=((hi*2^s+lo/2^(64-s):Nat):Int) ∧
  (hi*2^s+lo/2^(64-s))*yC+lo%2^(64-s)*2^s=(hi*yC+lo)*2^s∧hi*2^s+lo/2^(64-s)<y*2^s∧lo%2^(64-s)*2^s<yC:=by
 have hpq:2^s*2^(64-s)=yC:=by
  rw [← Nat.pow_add,show s+(64-s)=64 from by omega];rfl
 have hp:0<2^s:=Nat.pow_pos (by omega)
 have hq:0<2^(64-s):=Nat.pow_pos (by omega)
 have hL:lo/2^(64-s)<2^s:=by rw [Nat.div_lt_iff_lt_mul hq,hpq];exact hlo
 have hH:(hi+1)*2^s≤y*2^s:=Nat.mul_le_mul_right _ hy
 rw [Nat.add_mul,Nat.one_mul] at hH
 have hdm:=Nat.div_add_mod lo (2^(64-s))
 have hN:lo%2^(64-s)*2^s<yC:=by
  have:=Nat.mul_lt_mul_of_pos_right (Nat.mod_lt lo hq) hp
  rw [Nat.mul_comm (2^(64-s)),hpq] at this;exact this
 refine ⟨by rw [ycl,vE _ hY],by rw [ycl,vE _ (by omega)],by push_cast;rfl,?_,?_,?_,by omega,hN⟩
 ·rw [ycl,yfd]
  congr 1
  rw [← hpq,Nat.mul_comm (2^s),Nat.mul_mod_mul_right]
 ·exact yfe hi _ s hL (by have:=Nat.div_le_self lo (2^(64-s));omega) (by omega)
 ·generalize lo/2^(64-s)=L at *
  generalize lo%2^(64-s)=M at *
  rw [← hdm,← hpq]
  grind
end Go.Proofs.YtfjnipkpfbkegaaGreatDoor
