/- The document's NatCmp, NatAdd. -/
import Derived.Test.YtlcpcpmlfegejaaGreatDoorGB
import Derived.Test.YtlcpcpmlfegejaaGreatDoorZ05
import Derived.Test.YtlcpcpmlfegejaaGreatDoorZRC
import Derived.Test.YtlcpcpmlfegejaaGreatDoorZVA
import Derived.Deep.RegionHeld3
import Derived.Deep.RegionWith
set_option maxHeartbeats 3200000
set_option maxRecDepth 100000
namespace Go.Proofs.YtlcpcpmlfegejaaGreatDoor
open Go.RowKit Big
structure AddInv9 (x y:List Nat) (k c:Nat) (L:List Nat):Prop where
 len:L.length=k
 dig:Dig B9 L
 car:c≤1
 eq:val B9 L+B9^k*c=val B9 (x.take k)+val B9 (y.take k)
 top:k≤max x.length y.length∨(k=max x.length y.length+1∧c=0∧B9^max x.length y.length≤val B9 x+val B9 y)
theorem AddInv9.start (x y:List Nat):AddInv9 x y 0 0 []:=⟨rfl,Dig.nil _,by omega,by simp [val],.inl (Nat.zero_le _)⟩
theorem AddInv9.step {x y:List Nat} {k c:Nat} {L:List Nat} (h:AddInv9 x y k c L) (dx:Dig B9 x) (dy:Dig B9 y) (a b s:Nat) (ha:x.getD k 0=a) (hb:y.getD k 0=b) (hs:s=c+a+b) (hg:k<max x.length y.length∨c=1) :
  AddInv9 x y (k+1) (s/1000000000) (L++[s%1000000000]):=by
 have h1:=dx.getD B9_pos k
 have h2:=dy.getD B9_pos k
 rw [ha] at h1;rw [hb] at h2
 have h3:=h.car
 have e9:=B9_eq
 refine ⟨by rw [List.length_append,h.len];rfl,h.dig.append (Dig.one (by omega)),by omega,?_,?_⟩
 ·rw [val_snoc,h.len,val_take_succD,val_take_succD,ha,hb,Nat.pow_succ]
  exact sum_step h.eq (by rw [B9_eq];omega)
 ·rcases h.top with h4|⟨_,h4,_⟩
  ·by_cases h5:k<max x.length y.length
   ·exact .inl (by omega)
   ·have hc:c=1:=by omega
    have hk:k=max x.length y.length:=by omega
    have ha0:a=0:=by rw [← ha,List.getD_eq_getElem?_getD,List.getElem?_eq_none (by omega)];rfl
    have hb0:b=0:=by rw [← hb,List.getD_eq_getElem?_getD,List.getElem?_eq_none (by omega)];rfl
    refine .inr ⟨by omega,by omega,?_⟩
    have h6:=h.eq
    rw [hc,List.take_of_length_le (by omega),List.take_of_length_le (by omega),Nat.mul_one] at h6
    rw [← hk];omega
  ·omega
theorem AddInv9.done {x y:List Nat} {k:Nat} {L:List Nat} (h:AddInv9 x y k 0 L) (cx:Canon B9 x) (cy:Canon B9 y) (h1:x.length≤k) (h2:y.length≤k):Canon B9 L∧val B9 L=val B9 x+val B9 y:=by
 have h3:=h.eq
 rw [List.take_of_length_le (by omega),List.take_of_length_le (by omega),Nat.mul_zero,Nat.add_zero] at h3
 refine ⟨?_,h3⟩
 by_cases h0:k=0
 ·have:=h.len
  rw [h0] at this
  rw [List.eq_nil_of_length_eq_zero this];exact Canon.nil _
 ·obtain ⟨j,rfl⟩:∃ j,k=j+1:=⟨k-1,by omega⟩
  refine Canon.of_ge h.dig h.len ?_
  rw [h3]
  rcases h.top with h4|⟨h4,_,h5⟩
  ·by_cases h6:x.length≤y.length
   ·have:=cy.pow_le j (by omega);omega
   ·have:=cx.pow_le j (by omega);omega
  ·have:j=max x.length y.length:=by omega
   rw [this];exact h5
theorem natAdd_ge (p:Option Addr) (n c0:Nat) (x:List Nat) (q:Option Addr) (m d0:Nat) (y:List Nat) (w:World) (hn0:n≤most) (hm0:m≤most) (hnm:m≤n) (hx:Rd w p n x) (hy:Rd w q m y) (cx:Canon B9 x) (cy:Canon B9 y) :
  Calls Tryz.prog 120 #[.slice p n c0,.slice q m d0] w (Post9 (val B9 x+val B9 y) w):=by
 obtain ⟨i0,hi,hz0,hz1,hz2⟩:=info_parts info79
 have hn:(n:Int)≤4294967296:=by unfold most at hn0;omega
 have hm:(m:Int)≤4294967296:=by unfold most at hm0;omega
 have HX:=hiD cx
 have HY:=hiD cy
 clear cx cy
 have hM:Hid (n=max n m):=hiD (by omega)
 have hmax:max (n:Int) m=n:=by omega
 go_enter Tryz.func120,Tryz.ntmps120
 go_wp2_with (at_make;refine wpList_make_own _ rfl _ _ 98 rfl w.heap.size 137 i0 (.int .u64 0) 1 underlying36 hi hz0 hz1 _ _ _ (n+1) rfl rfl ?b1 ?b2 ?b3 (Nat.le_refl _) ?_)
 case b1=>omega
 case b2=>rw [hz2];omega
 case b3=>unfold maxLen;omega
 intro w1 hown hgrow
 have hacc0:Hid (Acc w w1 (.slice (some ⟨w.heap.size,0,none⟩) 0 (n+1)) []):=hiD ⟨hown,(Below.refl _ _).grown hgrow (Nat.le_refl _) (fun k h=>by cases h)⟩
 clear hown hgrow
 go_wp2_with fail
 go_loopw [5,6,7] (fun ov cv iv wr=>∃ (k c:Nat) (L:List Nat),cv=.int .u64 c∧iv=.int .i64 k∧Hid (AddInv9 x y k c L∧k≤n+1)∧Hid (Acc w wr ov L)) (fun _ _ iv _=>n+2-(intOf iv).toNat)
 case atStart=>exact ⟨0,0,[],rfl,rfl,hiD ⟨AddInv9.start x y,Nat.zero_le _⟩,hacc0⟩
 case round =>
  obtain ⟨k,c,L,rfl,rfl,hinv,hacc⟩:=hrel
  obtain ⟨po,no,co,rfl⟩:∃ p n c,u5=.slice p n c:=by
   obtain ⟨p,c,h,_⟩:=own_rd hacc.out.own;exact ⟨_,_,_,h⟩
  have hlx:Hid (x.length=n):=hiD hx.len
  have hly:Hid (y.length=m):=hiD hy.len
  have hlen:Hid (L.length+1≤maxLen∧(L.length+1)*8≤140737488355328∧w.heap.size≤wr.heap.size+1):=hiD (by
   have h1:=hinv.out.1.len
   have h2:=hinv.out.2
   have h:=hacc.out.below.size
   unfold maxLen;omega)
  have hcb:(c:Int)≤1:=by have:=hinv.out.1.car;omega
  have hkb:(k:Int)≤4294967298:=by have:=hinv.out.2;omega
  by_cases h1:k<n
  ·have e1:(k:Int)<n:=by omega
   by_cases h2:k<m
   ·have e2:(k:Int)<m:=by omega
    obtain ⟨b1,o1,a,rfl,hb1,hc1,ha⟩:=hx.at (k:=k) (by omega)
    have g1:wr.cell? ⟨b1,o1+k,none⟩=some (.int .u64 (a:Int)):=(hacc.out.below.cell (p:=⟨b1,o1+k,none⟩) hb1).trans hc1
    have da:(a:Int)≤999999999:=by have h:=HX.out.1.getD B9_pos k;rw [ha.out,B9_eq] at h;omega
    obtain ⟨b2,o2,b,rfl,hb2,hc2,hb⟩:=hy.at (k:=k) (by omega)
    have g2:wr.cell? ⟨b2,o2+k,none⟩=some (.int .u64 (b:Int)):=(hacc.out.below.cell (p:=⟨b2,o2+k,none⟩) hb2).trans hc2
    have db:(b:Int)≤999999999:=by have h:=HY.out.1.getD B9_pos k;rw [hb.out,B9_eq] at h;omega
    have hstep:=hiD (hinv.out.1.step HX.out.1 HY.out.1 a b (c+a+b) ha.out hb.out (by omega) (by rw [hlx.out,hly.out];omega))
    obtain ⟨s1,hs1⟩:∃ s1:Nat,Hid (s1=(c+a+b)%1000000000):=⟨_,hiD rfl⟩
    rw [← hs1.out] at hstep
    have hw1:((c:Int)+a+b)%1000000000=(s1:Int):=by rw [hs1.out];omega
    have hk1:k≤n:=by rw [hM.out];have:=hinv.out.1.top;rw [hlx.out,hly.out] at this;omega
    go_wp2_with (at_builtin;refine wpList_append_own _ rfl (.tmp 51) (.tmp 54) 98 rfl w.heap.size 137 i0 (.int .u64 0) 1 8 underlying36 hi hz0 hz1 hz2 rfl (by decide) _ _ _ rfl ((hacc.out.own).alloc _) ⟨_,0,none⟩ 1 1 [.int .u64 (s1:Int)] rfl rfl (cell_one_new _ _ _) (by intro u hu;simp at hu;subst hu;rfl) hlen.out.1 hlen.out.2.1 (by simp;exact hlen.out.2.2) ?_)
    intro v5 w5 hown5 hgrow5 _
    have hnext:=hiD (hacc.out.next rfl hown5 hgrow5)
    clear hown5 hgrow5
    go_wp2_with fail
    go_roundw
    case rel=>exact ⟨k+1,_,_,rfl,by go_num,hiD ⟨hstep.out,by omega⟩,hnext⟩
    case measure=>simp [intOf];omega
   ·have e2:¬ (k:Int)<m:=by omega
    obtain ⟨b1,o1,a,rfl,hb1,hc1,ha⟩:=hx.at (k:=k) (by omega)
    have g1:wr.cell? ⟨b1,o1+k,none⟩=some (.int .u64 (a:Int)):=(hacc.out.below.cell (p:=⟨b1,o1+k,none⟩) hb1).trans hc1
    have da:(a:Int)≤999999999:=by have h:=HX.out.1.getD B9_pos k;rw [ha.out,B9_eq] at h;omega
    obtain ⟨b,hb,hb0⟩:∃ b,Hid (y.getD k 0=b)∧b=0:=⟨_,hiD rfl,by rw [List.getD_eq_getElem?_getD,List.getElem?_eq_none (by rw [hly.out];omega)];rfl⟩
    have hstep:=hiD (hinv.out.1.step HX.out.1 HY.out.1 a b (c+a) ha.out hb.out (by omega) (by rw [hlx.out,hly.out];omega))
    obtain ⟨s1,hs1⟩:∃ s1:Nat,Hid (s1=(c+a)%1000000000):=⟨_,hiD rfl⟩
    rw [← hs1.out] at hstep
    have hw1:((c:Int)+a)%1000000000=(s1:Int):=by rw [hs1.out];omega
    clear hb0
    have hk1:k≤n:=by rw [hM.out];have:=hinv.out.1.top;rw [hlx.out,hly.out] at this;omega
    go_wp2_with (at_builtin;refine wpList_append_own _ rfl (.tmp 51) (.tmp 54) 98 rfl w.heap.size 137 i0 (.int .u64 0) 1 8 underlying36 hi hz0 hz1 hz2 rfl (by decide) _ _ _ rfl ((hacc.out.own).alloc _) ⟨_,0,none⟩ 1 1 [.int .u64 (s1:Int)] rfl rfl (cell_one_new _ _ _) (by intro u hu;simp at hu;subst hu;rfl) hlen.out.1 hlen.out.2.1 (by simp;exact hlen.out.2.2) ?_)
    intro v5 w5 hown5 hgrow5 _
    have hnext:=hiD (hacc.out.next rfl hown5 hgrow5)
    clear hown5 hgrow5
    go_wp2_with fail
    go_roundw
    case rel=>exact ⟨k+1,_,_,rfl,by go_num,hiD ⟨hstep.out,by omega⟩,hnext⟩
    case measure=>simp [intOf];omega
  ·have e1:¬ (k:Int)<n:=by omega
   by_cases h2:k<m
   ·have e2:(k:Int)<m:=by omega
    omega
   ·have e2:¬ (k:Int)<m:=by omega
    by_cases h3:c=0
    ·subst h3
     have hfin:Hid (Post9 (val B9 x+val B9 y) w (.returned (.slice po no co)) wr):=hiD (by
      obtain ⟨g1,g2⟩:=hinv.out.1.done HX.out HY.out (by rw [hlx.out];omega) (by rw [hly.out];omega)
      rw [← g2];exact hacc.out.nat g1)
     go_wp2_with fail
     go_ret
     exact hfin.out
    ·have e3:(0:Int)<c:=by omega
     obtain ⟨a,ha,ha0⟩:∃ a,Hid (x.getD k 0=a)∧a=0:=⟨_,hiD rfl,by rw [List.getD_eq_getElem?_getD,List.getElem?_eq_none (by rw [hlx.out];omega)];rfl⟩
     obtain ⟨b,hb,hb0⟩:∃ b,Hid (y.getD k 0=b)∧b=0:=⟨_,hiD rfl,by rw [List.getD_eq_getElem?_getD,List.getElem?_eq_none (by rw [hly.out];omega)];rfl⟩
     obtain rfl:c=1:=by omega
     have hstep:=hiD (hinv.out.1.step HX.out.1 HY.out.1 a b 1 ha.out hb.out (by omega) (by omega))
     rw [show 1/1000000000=0 from rfl,show 1%1000000000=1 from rfl] at hstep
     clear ha0 hb0
     have hk1:k≤n:=by rw [hM.out];have:=hinv.out.1.top;rw [hlx.out,hly.out] at this;omega
     go_wp2_with (at_builtin;refine wpList_append_own _ rfl (.tmp 51) (.tmp 54) 98 rfl w.heap.size 137 i0 (.int .u64 0) 1 8 underlying36 hi hz0 hz1 hz2 rfl (by decide) _ _ _ rfl ((hacc.out.own).alloc _) ⟨_,0,none⟩ 1 1 [.int .u64 1] rfl rfl (cell_one_new _ _ _) (by intro u hu;simp at hu;subst hu;rfl) hlen.out.1 hlen.out.2.1 (by simp;exact hlen.out.2.2) ?_)
     intro v5 w5 hown5 hgrow5 _
     have hnext:=hiD (hacc.out.next (x:=1) rfl hown5 hgrow5)
     clear hown5 hgrow5
     go_wp2_with fail
     go_roundw
     case rel=>exact ⟨k+1,0,_,rfl,by go_num,hiD ⟨hstep.out,by omega⟩,hnext⟩
     case measure=>simp [intOf];omega
theorem natAdd_lt (p:Option Addr) (n c0:Nat) (x:List Nat) (q:Option Addr) (m d0:Nat) (y:List Nat) (w:World) (hn0:n≤most) (hm0:m≤most) (hnm:n<m) (hx:Rd w p n x) (hy:Rd w q m y) (cx:Canon B9 x) (cy:Canon B9 y) :
  Calls Tryz.prog 120 #[.slice p n c0,.slice q m d0] w (Post9 (val B9 x+val B9 y) w):=by
 obtain ⟨i0,hi,hz0,hz1,hz2⟩:=info_parts info79
 have hn:(n:Int)≤4294967296:=by unfold most at hn0;omega
 have hm:(m:Int)≤4294967296:=by unfold most at hm0;omega
 have HX:=hiD cx
 have HY:=hiD cy
 clear cx cy
 have hM:Hid (m=max n m):=hiD (by omega)
 have hmax:max (n:Int) m=m:=by omega
 go_enter Tryz.func120,Tryz.ntmps120
 go_wp2_with (at_make;refine wpList_make_own _ rfl _ _ 98 rfl w.heap.size 137 i0 (.int .u64 0) 1 underlying36 hi hz0 hz1 _ _ _ (m+1) rfl rfl ?b1 ?b2 ?b3 (Nat.le_refl _) ?_)
 case b1=>omega
 case b2=>rw [hz2];omega
 case b3=>unfold maxLen;omega
 intro w1 hown hgrow
 have hacc0:Hid (Acc w w1 (.slice (some ⟨w.heap.size,0,none⟩) 0 (m+1)) []):=hiD ⟨hown,(Below.refl _ _).grown hgrow (Nat.le_refl _) (fun k h=>by cases h)⟩
 clear hown hgrow
 go_wp2_with fail
 go_loopw [5,6,7] (fun ov cv iv wr=>∃ (k c:Nat) (L:List Nat),cv=.int .u64 c∧iv=.int .i64 k∧Hid (AddInv9 x y k c L∧k≤m+1)∧Hid (Acc w wr ov L)) (fun _ _ iv _=>m+2-(intOf iv).toNat)
 case atStart=>exact ⟨0,0,[],rfl,rfl,hiD ⟨AddInv9.start x y,Nat.zero_le _⟩,hacc0⟩
 case round =>
  obtain ⟨k,c,L,rfl,rfl,hinv,hacc⟩:=hrel
  obtain ⟨po,no,co,rfl⟩:∃ p n c,u5=.slice p n c:=by
   obtain ⟨p,c,h,_⟩:=own_rd hacc.out.own;exact ⟨_,_,_,h⟩
  have hlx:Hid (x.length=n):=hiD hx.len
  have hly:Hid (y.length=m):=hiD hy.len
  have hlen:Hid (L.length+1≤maxLen∧(L.length+1)*8≤140737488355328∧w.heap.size≤wr.heap.size+1):=hiD (by
   have h1:=hinv.out.1.len
   have h2:=hinv.out.2
   have h:=hacc.out.below.size
   unfold maxLen;omega)
  have hcb:(c:Int)≤1:=by have:=hinv.out.1.car;omega
  have hkb:(k:Int)≤4294967298:=by have:=hinv.out.2;omega
  by_cases h1:k<n
  ·have e1:(k:Int)<n:=by omega
   by_cases h2:k<m
   ·have e2:(k:Int)<m:=by omega
    obtain ⟨b1,o1,a,rfl,hb1,hc1,ha⟩:=hx.at (k:=k) (by omega)
    have g1:wr.cell? ⟨b1,o1+k,none⟩=some (.int .u64 (a:Int)):=(hacc.out.below.cell (p:=⟨b1,o1+k,none⟩) hb1).trans hc1
    have da:(a:Int)≤999999999:=by have h:=HX.out.1.getD B9_pos k;rw [ha.out,B9_eq] at h;omega
    obtain ⟨b2,o2,b,rfl,hb2,hc2,hb⟩:=hy.at (k:=k) (by omega)
    have g2:wr.cell? ⟨b2,o2+k,none⟩=some (.int .u64 (b:Int)):=(hacc.out.below.cell (p:=⟨b2,o2+k,none⟩) hb2).trans hc2
    have db:(b:Int)≤999999999:=by have h:=HY.out.1.getD B9_pos k;rw [hb.out,B9_eq] at h;omega
    have hstep:=hiD (hinv.out.1.step HX.out.1 HY.out.1 a b (c+a+b) ha.out hb.out (by omega) (by rw [hlx.out,hly.out];omega))
    obtain ⟨s1,hs1⟩:∃ s1:Nat,Hid (s1=(c+a+b)%1000000000):=⟨_,hiD rfl⟩
    rw [← hs1.out] at hstep
    have hw1:((c:Int)+a+b)%1000000000=(s1:Int):=by rw [hs1.out];omega
    have hk1:k≤m:=by rw [hM.out];have:=hinv.out.1.top;rw [hlx.out,hly.out] at this;omega
    go_wp2_with (at_builtin;refine wpList_append_own _ rfl (.tmp 51) (.tmp 54) 98 rfl w.heap.size 137 i0 (.int .u64 0) 1 8 underlying36 hi hz0 hz1 hz2 rfl (by decide) _ _ _ rfl ((hacc.out.own).alloc _) ⟨_,0,none⟩ 1 1 [.int .u64 (s1:Int)] rfl rfl (cell_one_new _ _ _) (by intro u hu;simp at hu;subst hu;rfl) hlen.out.1 hlen.out.2.1 (by simp;exact hlen.out.2.2) ?_)
    intro v5 w5 hown5 hgrow5 _
    have hnext:=hiD (hacc.out.next rfl hown5 hgrow5)
    clear hown5 hgrow5
    go_wp2_with fail
    go_roundw
    case rel=>exact ⟨k+1,_,_,rfl,by go_num,hiD ⟨hstep.out,by omega⟩,hnext⟩
    case measure=>simp [intOf];omega
   ·have e2:¬ (k:Int)<m:=by omega
    omega
  ·have e1:¬ (k:Int)<n:=by omega
   by_cases h2:k<m
   ·have e2:(k:Int)<m:=by omega
    obtain ⟨a,ha,ha0⟩:∃ a,Hid (x.getD k 0=a)∧a=0:=⟨_,hiD rfl,by rw [List.getD_eq_getElem?_getD,List.getElem?_eq_none (by rw [hlx.out];omega)];rfl⟩
    obtain ⟨b2,o2,b,rfl,hb2,hc2,hb⟩:=hy.at (k:=k) (by omega)
    have g2:wr.cell? ⟨b2,o2+k,none⟩=some (.int .u64 (b:Int)):=(hacc.out.below.cell (p:=⟨b2,o2+k,none⟩) hb2).trans hc2
    have db:(b:Int)≤999999999:=by have h:=HY.out.1.getD B9_pos k;rw [hb.out,B9_eq] at h;omega
    have hstep:=hiD (hinv.out.1.step HX.out.1 HY.out.1 a b (c+b) ha.out hb.out (by omega) (by rw [hlx.out,hly.out];omega))
    obtain ⟨s1,hs1⟩:∃ s1:Nat,Hid (s1=(c+b)%1000000000):=⟨_,hiD rfl⟩
    rw [← hs1.out] at hstep
    have hw1:((c:Int)+b)%1000000000=(s1:Int):=by rw [hs1.out];omega
    clear ha0
    have hk1:k≤m:=by rw [hM.out];have:=hinv.out.1.top;rw [hlx.out,hly.out] at this;omega
    go_wp2_with (at_builtin;refine wpList_append_own _ rfl (.tmp 51) (.tmp 54) 98 rfl w.heap.size 137 i0 (.int .u64 0) 1 8 underlying36 hi hz0 hz1 hz2 rfl (by decide) _ _ _ rfl ((hacc.out.own).alloc _) ⟨_,0,none⟩ 1 1 [.int .u64 (s1:Int)] rfl rfl (cell_one_new _ _ _) (by intro u hu;simp at hu;subst hu;rfl) hlen.out.1 hlen.out.2.1 (by simp;exact hlen.out.2.2) ?_)
    intro v5 w5 hown5 hgrow5 _
    have hnext:=hiD (hacc.out.next rfl hown5 hgrow5)
    clear hown5 hgrow5
    go_wp2_with fail
    go_roundw
    case rel=>exact ⟨k+1,_,_,rfl,by go_num,hiD ⟨hstep.out,by omega⟩,hnext⟩
    case measure=>simp [intOf];omega
   ·have e2:¬ (k:Int)<m:=by omega
    by_cases h3:c=0
    ·subst h3
     have hfin:Hid (Post9 (val B9 x+val B9 y) w (.returned (.slice po no co)) wr):=hiD (by
      obtain ⟨g1,g2⟩:=hinv.out.1.done HX.out HY.out (by rw [hlx.out];omega) (by rw [hly.out];omega)
      rw [← g2];exact hacc.out.nat g1)
     go_wp2_with fail
     go_ret
     exact hfin.out
    ·have e3:(0:Int)<c:=by omega
     obtain ⟨a,ha,ha0⟩:∃ a,Hid (x.getD k 0=a)∧a=0:=⟨_,hiD rfl,by rw [List.getD_eq_getElem?_getD,List.getElem?_eq_none (by rw [hlx.out];omega)];rfl⟩
     obtain ⟨b,hb,hb0⟩:∃ b,Hid (y.getD k 0=b)∧b=0:=⟨_,hiD rfl,by rw [List.getD_eq_getElem?_getD,List.getElem?_eq_none (by rw [hly.out];omega)];rfl⟩
     obtain rfl:c=1:=by omega
     have hstep:=hiD (hinv.out.1.step HX.out.1 HY.out.1 a b 1 ha.out hb.out (by omega) (by omega))
     rw [show 1/1000000000=0 from rfl,show 1%1000000000=1 from rfl] at hstep
     clear ha0 hb0
     have hk1:k≤m:=by rw [hM.out];have:=hinv.out.1.top;rw [hlx.out,hly.out] at this;omega
     go_wp2_with (at_builtin;refine wpList_append_own _ rfl (.tmp 51) (.tmp 54) 98 rfl w.heap.size 137 i0 (.int .u64 0) 1 8 underlying36 hi hz0 hz1 hz2 rfl (by decide) _ _ _ rfl ((hacc.out.own).alloc _) ⟨_,0,none⟩ 1 1 [.int .u64 1] rfl rfl (cell_one_new _ _ _) (by intro u hu;simp at hu;subst hu;rfl) hlen.out.1 hlen.out.2.1 (by simp;exact hlen.out.2.2) ?_)
     intro v5 w5 hown5 hgrow5 _
     have hnext:=hiD (hacc.out.next (x:=1) rfl hown5 hgrow5)
     clear hown5 hgrow5
     go_wp2_with fail
     go_roundw
     case rel=>exact ⟨k+1,0,_,rfl,by go_num,hiD ⟨hstep.out,by omega⟩,hnext⟩
     case measure=>simp [intOf];omega
theorem natAdd_nat (u v:Value) (a b K:Nat) (w:World) (hK:K≤most) (ha:a<B9^K) (hb:b<B9^K) (hu:Nat9 w u a) (hv:Nat9 w v b):Calls Tryz.prog 120 #[u,v] w (Post9 (a+b) w):=by
 obtain ⟨p,n,c,x,rfl,h1,h2,h3,h4⟩:=hu
 obtain ⟨q,m,d,y,rfl,g1,g2,g3,g4⟩:=hv
 have hn:=pow9 h3 h4 ha h2
 have hm:=pow9 g3 g4 hb g2
 rw [← h4,← g4]
 by_cases hnm:m≤n
 ·exact natAdd_ge p n c x q m d y w (by omega) (by omega) hnm h2 g2 h3 g3
 ·exact natAdd_lt p n c x q m d y w (by omega) (by omega) (by omega) h2 g2 h3 g3
end Go.Proofs.YtlcpcpmlfegejaaGreatDoor
namespace Go.Proofs.YtlcpcpmlfegejaaGreatDoor
open Go.RowKit Big
section
structure Twa (B:Nat) (s:Bool) (u1 v1:Value) (t:Bool) (u2 v2:Value) (w0 W:World):Prop where
 size:B+3≤W.heap.size
 below:Below w0.heap.size w0 W
 x:W.heap[B]?=some (.cells #[.bool s,u1,v1] 100 (0,0))
 y:W.heap[B+1]?=some (.cells #[.bool t,u2,v2] 100 (0,0))
 z:∃ z0 z1 z2,W.heap[B+1+1]?=some (.cells #[z0,z1,z2] 100 (0,0))∧NoInt z0∧NoInt z1∧NoInt z2
variable {B : Nat} {s : Bool} {u1 v1 : Value} {t : Bool} {u2 v2 : Value} {w0 W W' : World}
theorem Twa.next (h:Twa B s u1 v1 t u2 v2 w0 W) (hb:Below W.heap.size W W'):Twa B s u1 v1 t u2 v2 w0 W':=by
 have hs:=h.size
 exact ⟨Nat.le_trans hs hb.size,h.below.trans (hb.mono h.below.size),(hb.block _ (by omega)).trans h.x,(hb.block _ (by omega)).trans h.y,h.z.elim fun z0 k=>k.elim fun z1 k=>k.elim fun z2 k=>⟨z0,z1,z2,(hb.block _ (by omega)).trans k.1,k.2⟩⟩
theorem Twa.drew (h:Twa B s u1 v1 t u2 v2 w0 W):Twa B s u1 v1 t u2 v2 w0 W.drew:=⟨h.size,h.below.drew,h.x,h.y,h.z⟩
theorem Twa.start (w:World) (s:Bool) (u1 v1:Value) (t:Bool) (u2 v2:Value) :
  Twa w.heap.size s u1 v1 t u2 v2 w (((w.alloc (.cells #[.bool s,u1,v1] 100)).alloc (.cells #[.bool t,u2,v2] 100)).alloc (.cells #[.bool false,.slice none 0 0,.slice none 0 0] 100)):=by
 have hb:∀ (W:World) (o:Obj),Below W.heap.size W (W.alloc o):=fun W o=>(Below.refl _ _).alloc (Nat.le_refl _) o
 refine ⟨by simp,((hb _ _).trans ((hb _ _).mono (by simp))).trans ((hb _ _).mono (by simp;omega)),?_,?_,⟨.bool false,.slice none 0 0,.slice none 0 0,?_,noInt_bool _,noInt_slice _ _ _,noInt_slice _ _ _⟩⟩
 ·rw [heap_old _ _ _ (by simp;omega),heap_old _ _ _ (by simp),heap_new]
 ·rw [heap_old _ _ _ (by simp),show w.heap.size+1=(w.alloc (.cells #[.bool s,u1,v1] 100)).heap.size from by simp,heap_new]
 ·rw [show w.heap.size+1+1=((w.alloc (.cells #[.bool s,u1,v1] 100)).alloc (.cells #[.bool t,u2,v2] 100)).heap.size from by simp,heap_new]
theorem Twa.all (h:Twa B s u1 v1 t u2 v2 w0 W):Twa B s u1 v1 t u2 v2 w0 W∧W.cell? ⟨B,0,none⟩=some (.bool s)∧W.cell? ⟨B,1,none⟩=some u1∧W.cell? ⟨B,2,none⟩=some v1 ∧
  W.cell? ⟨B+1,0,none⟩=some (.bool t)∧W.cell? ⟨B+1,1,none⟩=some u2∧W.cell? ⟨B+1,2,none⟩=some v2 :=
 ⟨h,ceh h.x 0,ceh h.x 1,ceh h.x 2,ceh h.y 0,ceh h.y 1,ceh h.y 2⟩
theorem Twa.slots (h:Twa B s u1 v1 t u2 v2 w0 W):∃ z0 z1 z2,W.cell? ⟨B+1+1,0,none⟩=some z0∧W.cell? ⟨B+1+1,1,none⟩=some z1∧W.cell? ⟨B+1+1,2,none⟩=some z2 ∧
  W.frozen? ⟨B+1+1,0,none⟩=false∧W.frozen? ⟨B+1+1,1,none⟩=false∧W.frozen? ⟨B+1+1,2,none⟩=false:=by
 obtain ⟨z0,z1,z2,hz,-⟩:=h.z
 exact ⟨z0,z1,z2,ceh hz 0,ceh hz 1,ceh hz 2,foh hz 0,foh hz 1,foh hz 2⟩
theorem Twa.put1 (h:Twa B s u1 v1 t u2 v2 w0 W) (hB:w0.heap.size≤B) (k:Nat) (hk:k<3) (a:Value) (ha:NoInt a):Twa B s u1 v1 t u2 v2 w0 (W.setCell ⟨B+1+1,k,none⟩ a):=by
 obtain ⟨z0,z1,z2,hz,n0,n1,n2⟩:=h.z
 refine ⟨by rw [World.size_setCell];exact h.size,h.below.setCell (by simp;omega) _,(Below.heap_setCell _ _ _ _ (by simp;omega)).trans h.x,(Below.heap_setCell _ _ _ _ (by simp)).trans h.y,?_⟩
 have h1:=heap_set (B+1+1) k _ 100 a hz
 match k,hk with
 | 0,_=>exact ⟨_,_,_,h1,ha,n1,n2⟩
 | 1,_=>exact ⟨_,_,_,h1,n0,ha,n2⟩
 | 2,_=>exact ⟨_,_,_,h1,n0,n1,ha⟩
theorem Twa.put3 (h:Twa B s u1 v1 t u2 v2 w0 W) (hB:w0.heap.size≤B) (a:Bool) (p q:Option Addr) (n c m d:Nat):Twa B s u1 v1 t u2 v2 w0 (((W.setCell ⟨B+1+1,0,none⟩ (.bool a)).setCell ⟨B+1+1,1,none⟩ (.slice p n c)).setCell ⟨B+1+1,2,none⟩ (.slice q m d)) :=
 ((h.put1 hB 0 (by omega) _ (noInt_bool _)).put1 hB 1 (by omega) _ (noInt_slice _ _ _)).put1 hB 2 (by omega) _ (noInt_slice _ _ _)
theorem Twa.rd (h:Twa B s u1 v1 t u2 v2 w0 W) {p:Option Addr} {n:Nat} {l:List Nat} (hr:Rd W p n l) (k:Nat) (a:Value):Rd (W.setCell ⟨B+1+1,k,none⟩ a) p n l:=by
 refine ⟨hr.len,?_⟩
 rcases hr.cell with h0|⟨b,off,hp,hlt,hc⟩
 ·exact .inl h0
 ·by_cases hn:n=0
  ·exact .inl hn
  refine .inr ⟨b,off,hp,by rw [World.size_setCell];exact hlt,fun j hj=>?_⟩
  have hne:b≠B+1+1:=by
   rintro rfl
   obtain ⟨z0,z1,z2,hz,n0,n1,n2⟩:=h.z
   have h1:=hc 0 (by omega)
   rw [ceh hz] at h1
   match hoff:off+0,h1 with
   | 0,h1=>simp at h1;exact n0 _ _ h1
   | 1,h1=>simp at h1;exact n1 _ _ h1
   | 2,h1=>simp at h1;exact n2 _ _ h1
   | k+3,h1=>simp at h1
  rw [← hc j hj]
  exact World.cell?_of_block (w:=W) (Below.heap_setCell _ _ _ _ hne)
theorem Twa.nat1 (h:Twa B s u1 v1 t u2 v2 w0 W) {v:Value} {x:Nat} (hx:Nat9 W v x) (k:Nat) (a:Value):Nat9 (W.setCell ⟨B+1+1,k,none⟩ a) v x:=by
 obtain ⟨p,n,c,l,h1,h2,h3,h4⟩:=hx
 exact ⟨p,n,c,l,h1,h2,h.rd h3 k a,h4⟩
theorem Twa.nat3 (h:Twa B s u1 v1 t u2 v2 w0 W) (hB:w0.heap.size≤B) {v:Value} {x:Nat} (hx:Nat9 W v x) (a:Bool) (p q:Option Addr) (n c m d:Nat):Nat9 (((W.setCell ⟨B+1+1,0,none⟩ (.bool a)).setCell ⟨B+1+1,1,none⟩ (.slice p n c)).setCell ⟨B+1+1,2,none⟩ (.slice q m d)) v x :=
 ((h.put1 hB 0 (by omega) _ (noInt_bool _)).put1 hB 1 (by omega) _ (noInt_slice _ _ _)).nat1 ((h.put1 hB 0 (by omega) _ (noInt_bool _)).nat1 (h.nat1 hx _ _) _ _) _ _
end
section
variable {W : World}
end
section
variable {B : Nat} {w0 W W' : World}
end
end Go.Proofs.YtlcpcpmlfegejaaGreatDoor
set_option maxHeartbeats 3200000
set_option maxRecDepth 100000
namespace Go.Proofs.YtlcpcpmlfegejaaGreatDoor
open Go.RowKit Big
def sgnQ (q:Rat):Int:=if q.num<0 then -1 else if q.num=0 then 0 else 1
theorem sgn_any (x:Value) (q:Rat) (w:World) (hx:QAt w x q):Calls Tryz.prog 152 #[x] w fun e w'=>e=.returned (.int .i64 (sgnQ q))∧Below w.heap.size w w':=by
 obtain ⟨p,n,c,p2,n2,c2,rfl,hu,-⟩:=hx.slices
 have hz:=hu.zero_iff (n:=n)
 by_cases h0:q.num=0
 ·have hs:Hid (sgnQ q=0):=hiD (by unfold sgnQ;rw [h0];rfl)
  have hn:n=0:=hz.2 (by rw [h0];rfl)
  subst hn
  have hd:decide (q.num<0)=false:=by rw [h0];rfl
  rw [hd]
  clear hu hz h0 hx hd
  go_enter Tryz.func152,Tryz.ntmps152
  go_wp2_with fail
  go_ret
  exact ⟨by rw [hs.out];rfl,below_alloc9 _ _⟩
 ·have hn0:((n:Int)==0)=false:=by simp;omega
  by_cases h1:q.num<0
  ·have hs:Hid (sgnQ q=-1):=hiD (by unfold sgnQ;rw [if_pos h1])
   have hd:decide (q.num<0)=true:=by simpa using h1
   rw [hd]
   clear hu hz h0 h1 hx hd
   go_enter Tryz.func152,Tryz.ntmps152
   go_wp2_with fail
   go_ret
   exact ⟨by rw [hs.out];rfl,below_alloc9 _ _⟩
  ·have hs:Hid (sgnQ q=1):=hiD (by unfold sgnQ;rw [if_neg h1,if_neg h0])
   have hd:decide (q.num<0)=false:=by simpa using h1
   rw [hd]
   clear hu hz h0 h1 hx hd
   go_enter Tryz.func152,Tryz.ntmps152
   go_wp2_with fail
   go_ret
   exact ⟨by rw [hs.out];rfl,below_alloc9 _ _⟩
theorem opp_any (x:Value) (q:Rat) (w:World) (hx:QAt w x q):Calls Tryz.prog 183 #[x] w (QPost (-q) w):=by
 obtain ⟨p,n,c,p2,n2,c2,rfl,hu,hv⟩:=hx.slices
 have hz:=hu.zero_iff (n:=n)
 have hpost:∀ f W,f=decide ((-q).num<0)→Below w.heap.size w W→QPost (-q) w (.returned (.agg #[.bool f,.slice p n c,.slice p2 n2 c2])) W:=by
  rintro f W rfl hW
  refine ⟨_,rfl,⟨_,_,rfl,?_,?_⟩,hW⟩
  ·rw [Rat.neg_num,Int.natAbs_neg];exact hu.below hW
  ·rw [Rat.neg_den];exact hv.imp (·.below hW) fun h=>⟨h.1.below hW,h.2⟩
 have Hpost:=hiD hpost
 have hW:∀ o1 o2,Hid (Below w.heap.size w ((w.alloc o1).alloc o2)):=fun o1 o2=>hiD ((below_alloc9 w o1).trans ((below_alloc9 _ o2).mono (below_alloc9 w o1).size))
 by_cases h1:q.num<0
 ·have hd:decide (q.num<0)=true:=by simpa using h1
  have hf:Hid (false=decide ((-q).num<0)):=hiD (by rw [Rat.neg_num];symm;simp;omega)
  rw [hd]
  clear hu hv hz hx hpost h1 hd
  go_enter Tryz.func183,Tryz.ntmps183
  go_wp2_with fail
  refine bodyPost_ret (v:=.agg #[.bool false,.slice p n c,.slice p2 n2 c2]) (by simp [results,Tryz.results183,go_sem]) rfl ?_
  exact Hpost.out _ _ hf.out (hW _ _).out
 ·have hd:decide (q.num<0)=false:=by simpa using h1
  rw [hd]
  by_cases h0:q.num=0
  ·have hn:n=0:=hz.2 (by rw [h0];rfl)
   subst hn
   have hf:Hid (false=decide ((-q).num<0)):=hiD (by rw [Rat.neg_num,h0];rfl)
   clear hu hv hz hx hpost h1 h0 hd
   go_enter Tryz.func183,Tryz.ntmps183
   go_wp2_with fail
   refine bodyPost_ret (v:=.agg #[.bool false,.slice p 0 c,.slice p2 n2 c2]) (by simp [results,Tryz.results183,go_sem]) rfl ?_
   exact Hpost.out _ _ hf.out (hW _ _).out
  ·have hn0:(0:Int)<n:=by omega
   have hf:Hid (true=decide ((-q).num<0)):=hiD (by rw [Rat.neg_num];symm;simp;omega)
   clear hu hv hz hx hpost h1 h0 hd
   go_enter Tryz.func183,Tryz.ntmps183
   go_wp2_with fail
   refine bodyPost_ret (v:=.agg #[.bool true,.slice p n c,.slice p2 n2 c2]) (by simp [results,Tryz.results183,go_sem];omega) rfl ?_
   exact Hpost.out _ _ hf.out (hW _ _).out
theorem ratv_int (n:Int):ratv (decide (n<0)) n.natAbs 1=(n:Rat):=by
 have h:=ratv_self (n:Rat)
 rwa [Rat.num_intCast,Rat.den_intCast] at h
theorem intq_any (z:Int) (w:World) (h1:-9223372036854775808≤z) (h2:z≤9223372036854775807):Calls Tryz.prog 74 #[.int .i64 z] w (QPost (z:Rat) w):=by
 have hres:=hiD (Resa.start w)
 have hq:=hiD (ratv_int z)
 have hno:∀ W,Hid (Calls Tryz.prog 117 #[.int .u64 ((z.natAbs:Nat):Int)] W (Post9 z.natAbs W)):=fun W=>hiD (natOf_any _ W (by omega))
 have hone:∀ W,Hid (Calls Tryz.prog 118 #[] W (Post9 1 W)):=fun W=>hiD (one_any W)
 have hmk:∀ W u v,Nat9 W u z.natAbs→Nat9 W v 1→Hid (Calls Tryz.prog 114 #[.bool (decide (z<0)),u,v] W (QPost (z:Rat) W)):=fun W u v hu hv=>hiD (by
  have h:=make_any (decide (z<0)) u v z.natAbs 1 3 W (by omega) (by rw [B9_eq];omega) (by rw [B9_eq];omega) hu hv
  rw [hq.out] at h;exact h)
 by_cases hz:z<0
 ·obtain ⟨m,hm⟩:∃ m:Nat,z=-(m:Int)-1:=⟨(-z-1).toNat,by omega⟩
  have hab:z.natAbs=m+1:=by omega
  have hd:decide (z<0)=true:=by simpa using hz
  rw [hab] at hno
  rw [hd] at hmk
  rw [hab] at hmk
  have hm2:(m:Int)≤9223372036854775807:=by omega
  have hmz:-(z+1)=(m:Int):=by omega
  have hm3:((m+1:Nat):Int)=(m:Int)+1:=by omega
  rw [hm3] at hno
  clear hq
  go_enter Tryz.func74,Tryz.ntmps74
  go_wp2_with fail
  refine (hno _).out.mono ?_
  rintro e w1 ⟨v1,rfl,hv1,hb1,-⟩
  obtain ⟨p1,n1,c1,rfl⟩:=hv1.slice
  have hr1:=hiD (hres.out.next hb1)
  have Hv1:=hiD hv1
  clear hv1 hb1
  go_wp2_with fail
  refine (hone _).out.mono ?_
  rintro e w2 ⟨v2,rfl,hv2,hb2,-⟩
  obtain ⟨p2,n2,c2,rfl⟩:=hv2.slice
  have hr2:=hiD (hr1.out.next hb2)
  have hm2':=hmk w2 _ _ (Hv1.out.below hb2) hv2
  clear hv2 hb2
  go_wp2_with fail
  refine hm2'.out.mono ?_
  rintro e w3 ⟨x3,rfl,hx3,hb3⟩
  obtain ⟨p3,n3,c3,p4,n4,c4,rfl,hu3,hv3⟩:=hx3.slices
  have hr3:=hiD (hr2.out.next hb3)
  obtain ⟨z0,z1,z2,l0,l1,l2,f0,f1,f2⟩:=hr3.out.slots
  obtain ⟨sb,hsb⟩:∃ sb,Hid (sb=decide ((z:Rat).num<0)):=⟨_,hiD rfl⟩
  rw [← hsb.out]
  have q1:=hiD (hr3.out.nat3 (Nat.le_refl _) hu3 sb p3 p4 n3 c3 n4 c4)
  have q2:=hiD (hv3.imp (fun h=>hr3.out.nat3 (Nat.le_refl _) h sb p3 p4 n3 c3 n4 c4) fun h=>And.intro (hr3.out.nat3 (Nat.le_refl _) h.1 sb p3 p4 n3 c3 n4 c4) h.2)
  have q3:=hiD (hr3.out.put3 (Nat.le_refl _) sb p3 p4 n3 c3 n4 c4).below
  clear hu3 hv3 hb3 hm2' hx3
  go_wp2_with fail
  refine bodyPost_ret (v:=.agg #[.bool sb,.slice p3 n3 c3,.slice p4 n4 c4]) (by simp [results,Tryz.results74,go_sem,l0,l1,l2]) rfl ?_
  exact ⟨_,rfl,⟨_,_,by rw [hsb.out],q1.out,q2.out⟩,q3.out⟩
 ·obtain ⟨m,rfl⟩:∃ m:Nat,z=(m:Int):=⟨z.toNat,by omega⟩
  have hd:decide ((m:Int)<0)=false:=by simp
  rw [hd] at hmk
  have hab:((m:Int)).natAbs=m:=by omega
  rw [hab] at hno hmk
  clear hq
  go_enter Tryz.func74,Tryz.ntmps74
  go_wp2_with fail
  refine (hno _).out.mono ?_
  rintro e w1 ⟨v1,rfl,hv1,hb1,-⟩
  obtain ⟨p1,n1,c1,rfl⟩:=hv1.slice
  have hr1:=hiD (hres.out.next hb1)
  have Hv1:=hiD hv1
  clear hv1 hb1
  go_wp2_with fail
  refine (hone _).out.mono ?_
  rintro e w2 ⟨v2,rfl,hv2,hb2,-⟩
  obtain ⟨p2,n2,c2,rfl⟩:=hv2.slice
  have hr2:=hiD (hr1.out.next hb2)
  have hm2':=hmk w2 _ _ (Hv1.out.below hb2) hv2
  clear hv2 hb2
  go_wp2_with fail
  refine hm2'.out.mono ?_
  rintro e w3 ⟨x3,rfl,hx3,hb3⟩
  obtain ⟨p3,n3,c3,p4,n4,c4,rfl,hu3,hv3⟩:=hx3.slices
  have hr3:=hiD (hr2.out.next hb3)
  obtain ⟨z0,z1,z2,l0,l1,l2,f0,f1,f2⟩:=hr3.out.slots
  obtain ⟨sb,hsb⟩:∃ sb,Hid (sb=decide (((m:Int):Rat).num<0)):=⟨_,hiD rfl⟩
  rw [← hsb.out]
  have q1:=hiD (hr3.out.nat3 (Nat.le_refl _) hu3 sb p3 p4 n3 c3 n4 c4)
  have q2:=hiD (hv3.imp (fun h=>hr3.out.nat3 (Nat.le_refl _) h sb p3 p4 n3 c3 n4 c4) fun h=>And.intro (hr3.out.nat3 (Nat.le_refl _) h.1 sb p3 p4 n3 c3 n4 c4) h.2)
  have q3:=hiD (hr3.out.put3 (Nat.le_refl _) sb p3 p4 n3 c3 n4 c4).below
  clear hu3 hv3 hb3 hm2' hx3
  go_wp2_with fail
  refine bodyPost_ret (v:=.agg #[.bool sb,.slice p3 n3 c3,.slice p4 n4 c4]) (by simp [results,Tryz.results74,go_sem,l0,l1,l2]) rfl ?_
  exact ⟨_,rfl,⟨_,_,by rw [hsb.out],q1.out,q2.out⟩,q3.out⟩
end Go.Proofs.YtlcpcpmlfegejaaGreatDoor
set_option maxHeartbeats 3200000
set_option maxRecDepth 100000
namespace Go.Proofs.YtlcpcpmlfegejaaGreatDoor
open Go.RowKit Big
theorem quot_parts (a b:Rat):ratv (decide (a.num<0) != decide (b.num<0)) (a.num.natAbs*b.den) (a.den*b.num.natAbs)=a/b:=by
 by_cases h:b.num.natAbs=0
 ·have hb:b=0:=Rat.num_eq_zero.1 (by omega)
  rw [h,Nat.mul_zero,ratv_den0,hb];grind
 ·rw [ratv_quo a.den_pos b.den_pos (by omega),ratv_self,ratv_self]
theorem Twa.fin {B:Nat} {s:Bool} {u1 v1:Value} {t:Bool} {u2 v2:Value} {w0 W:World} {q:Rat} {sb:Bool} {p p2:Option Addr} {n c n2 c2:Nat} (h:Twa B s u1 v1 t u2 v2 w0 W) (hB:w0.heap.size≤B) (hs:sb=decide (q.num<0))
  (h1:Nat9 W (.slice p n c) q.num.natAbs) (h2:Nat9 W (.slice p2 n2 c2) q.den∨(Nat9 W (.slice p2 n2 c2) 0∧q.den=1)) :
  QPost q w0 (.returned (.agg #[.bool sb,.slice p n c,.slice p2 n2 c2])) (((W.setCell ⟨B+1+1,0,none⟩ (.bool sb)).setCell ⟨B+1+1,1,none⟩ (.slice p n c)).setCell ⟨B+1+1,2,none⟩ (.slice p2 n2 c2)) :=
 ⟨_,rfl,⟨_,_,by rw [hs],h.nat3 hB h1 sb p p2 n c n2 c2,h2.imp (fun h2=>h.nat3 hB h2 sb p p2 n c n2 c2) fun h2=>⟨h.nat3 hB h2.1 sb p p2 n c n2 c2,h2.2⟩⟩,(h.put3 hB sb p p2 n c n2 c2).below⟩
theorem quot_any (x y:Value) (a b:Rat) (K L:Nat) (w:World) (hK:K+L≤900000) (hab:QLt K a) (hbb:QLt L b) (hx:QAt w x a) (hy:QAt w y b):Calls Tryz.prog 73 #[x,y] w (QPost (a/b) w):=by
 have hdx0:Hid (∀ W,Below w.heap.size w W→Calls Tryz.prog 116 #[x] W (Some9 a.den W)):=hiD fun W hW=>den_any x a W (hx.below hW)
 have hdy0:Hid (∀ W,Below w.heap.size w W→Calls Tryz.prog 116 #[y] W (Some9 b.den W)):=hiD fun W hW=>den_any y b W (hy.below hW)
 obtain ⟨u1,v1,rfl,hu1,hv1⟩:=hx
 obtain ⟨u2,v2,rfl,hu2,hv2⟩:=hy
 obtain ⟨s,hs⟩:∃ s,Hid (s=decide (a.num<0)):=⟨_,hiD rfl⟩
 obtain ⟨t,ht⟩:∃ t,Hid (t=decide (b.num<0)):=⟨_,hiD rfl⟩
 rw [← hs.out] at hdx0 ⊢
 rw [← ht.out] at hdy0 ⊢
 have hdx:=hdx0
 have hdy:=hdy0
 clear hdx0 hdy0
 obtain ⟨sb,hsb⟩:∃ sb,Hid (sb=decide ((a/b).num<0)):=⟨_,hiD rfl⟩
 have hm1:Hid (∀ W p q,Nat9 W p a.num.natAbs→Nat9 W q b.den→Calls Tryz.prog 115 #[p,q] W (Post9 (a.num.natAbs*b.den) W)):=hiD fun W p q h1 h2=>natMul_nat _ _ _ _ K L W (by unfold most;omega) (by unfold most;omega) hab.1 hbb.2 h1 h2
 have hm2:Hid (∀ W p q,Nat9 W p a.den→Nat9 W q b.num.natAbs→Calls Tryz.prog 115 #[p,q] W (Post9 (a.den*b.num.natAbs) W)):=hiD fun W p q h1 h2=>natMul_nat _ _ _ _ K L W (by unfold most;omega) (by unfold most;omega) hab.2 hbb.1 h1 h2
 have hmk:Hid (∀ W f p q,f=(s != t)→Nat9 W p (a.num.natAbs*b.den)→Nat9 W q (a.den*b.num.natAbs)→Calls Tryz.prog 114 #[.bool f,p,q] W (QPostB (a/b) sb W)):=hiD fun W f p q hf h1 h2=>by
  have h:=make_any f p q _ _ (K+L) W hK (pow9_mul hab.1 hbb.2) (pow9_mul hab.2 hbb.1) h1 h2
  have he:ratv f (a.num.natAbs*b.den) (a.den*b.num.natAbs)=a/b:=by rw [hf,hs.out,ht.out];exact quot_parts a b
  rw [he] at h
  exact h.mono fun e w' h=>h.b hsb.out
 have htwo:=Twa.start w s u1 v1 t u2 v2
 have Htwo:=hiD htwo
 obtain ⟨-,c0,c1,c2,c3,c4,c5⟩:=htwo.all
 clear htwo hv1 hv2 hab hbb
 go_enter Tryz.func73,Tryz.ntmps73
 go_wp2_with fail
 go_region_held3 (fun w'=>Twa w.heap.size s u1 v1 t u2 v2 w w'∧w'.cell? ⟨w.heap.size,0,none⟩=some (.bool s)∧w'.cell? ⟨w.heap.size,1,none⟩=some u1∧w'.cell? ⟨w.heap.size,2,none⟩=some v1∧w'.cell? ⟨w.heap.size+1,0,none⟩=some (.bool t)∧w'.cell? ⟨w.heap.size+1,1,none⟩=some u2∧w'.cell? ⟨w.heap.size+1,2,none⟩=some v2)
  (first|exact Twa.all (Twa.drew Htwo.out)|exact Twa.all Htwo.out|(go_split_ands;exact Twa.all (Twa.next (by assumption) hb1))|(go_split_ands;exact Twa.all (Twa.next (by assumption) hb2))|(go_split_ands;exact Twa.all (Twa.next (by assumption) hb3))|(go_split_ands;exact Twa.all (Twa.next (by assumption) hb4))|(go_split_ands;exact Twa.all (Twa.next (by assumption) hb5))|(go_split_ands;exact Twa.all (Twa.put3 (by assumption) (Nat.le_refl _) _ _ _ _ _ _ _))|go_keep)
  (first|(go_at_call_of 116 (Value.agg #[Value.bool t,u2,v2]);go_split_ands;refine (hdy.out _ (Twa.below (by assumption))).mono ?_;rintro e w1 ⟨py,ny,cy,rfl,hvy,hb1⟩)|(go_at_call_of 115 (u1);go_split_ands;refine (hm1.out _ _ _ (hu1.below (Twa.below (by assumption))) hvy).mono ?_;rintro e w2 ⟨vt,rfl,hvt,hb2,-⟩;obtain ⟨pt,nt,ct,rfl⟩:=hvt.slice)|(go_at_call_of 116 (Value.agg #[Value.bool s,u1,v1]);go_split_ands;refine (hdx.out _ (Twa.below (by assumption))).mono ?_;rintro e w3 ⟨px,nx,cx,rfl,hvx,hb3⟩)|(go_at_call_of 115 (Value.slice px nx cx);go_split_ands;refine (hm2.out _ _ _ hvx (hu2.below (Twa.below (by assumption)))).mono ?_;rintro e w4 ⟨vb,rfl,hvb,hb4,-⟩;obtain ⟨pb,nb,cb,rfl⟩:=hvb.slice)|(go_at_call 114;go_split_ands;refine (hmk.out _ _ _ _ rfl ((hvt.below hb3).below hb4) hvb).mono ?_;rintro e w5 ⟨pr,nr,cr,pq,nq,cq,rfl,hr1,hr2,hb5⟩;have htw:=Twa.next (by assumption) hb5;obtain ⟨z0,z1,z2,k0,k1,k2,f0,f1,f2⟩:=Twa.slots htw))
 go_wp2_with fail
 have hfin:=hiD (htw.fin (Nat.le_refl _) hsb.out hr1 hr2)
 refine bodyPost_ret (v:=.agg #[.bool sb,.slice pr nr cr,.slice pq nq cq]) (by simp [results,Tryz.results73,go_sem,k0,k1,k2]) rfl ?_
 exact hfin.out
end Go.Proofs.YtlcpcpmlfegejaaGreatDoor
