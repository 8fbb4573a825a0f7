/- Contracts. -/
import Derived.Test.YtfjnipkpfbkegaaGreatDoorGLa
import Derived.Test.YtfjnipkpfbkegaaGreatDoorGLc
set_option maxHeartbeats 4000000
set_option maxRecDepth 100000
namespace Go.Proofs.YtfjnipkpfbkegaaGreatDoor
open Go.RowKit Big
open Go.Lib
theorem yhD (s:ByteArray) (w:World) (hs:(s.size:Int)≤1000) (hc:yF s.data.toList=0) (HC:Hid (jU (s.data.toList.take (zG s.data.toList))=none∨∀ hlt:zG s.data.toList<s.size,s[zG s.data.toList]'hlt≠94)):Calls Tryz.prog 35 #[.string s] w (yaZ (uW s.data.toList) w):=by
 obtain ⟨B,HBE⟩:∃ B,Hid (w.heap.size=B):=⟨_,yA rfl⟩
 have HBL:Hid (w.heap.size≤B):=yA (Nat.le_of_eq HBE.out)
 have HK0:Hid (Keep w (w.alloc (.cells #[.int .i64 0,.bool false,.slice none 0 0,.slice none 0 0,.string ⟨#[]⟩,.int .i64 0,.int .i64 0,.bool false,.int .i64 0,.int .i64 0,.int .i64 0,.int .i64 0,.int .i64 0,.int .i64 0,.int .i64 0,.bool false,.int .i64 0,.int .i64 0,.bool false,.int .i64 0,.bool false] 48)) [(B,#[.int .i64 0,.bool false,.slice none 0 0,.slice none 0 0,.string ⟨#[]⟩,.int .i64 0,.int .i64 0,.bool false,.int .i64 0,.int .i64 0,.int .i64 0,.int .i64 0,.int .i64 0,.int .i64 0,.int .i64 0,.bool false,.int .i64 0,.int .i64 0,.bool false,.int .i64 0,.bool false],48)]):=yA (by rw [← HBE.out];exact (Keep.nil w).more _ _)
 obtain ⟨l,HLL⟩:∃ l,Hid (s.data.toList=l):=⟨_,yA rfl⟩
 have HLN:Hid (l.length=s.size):=yA (by rw [← HLL.out];simp)
 obtain ⟨n,HN⟩:∃ n,Hid (zG l=n):=⟨_,yA rfl⟩
 have HNU:Hid (∀ W,Calls Tryz.prog 61 #[.string s] W fun e w'=>e=.returned (.int .i64 0)∧W=w'):=yA (fun W=>by
  have h:=yaQ s W (by omega)
  have e:ycg s.data.toList=0:=by unfold ycg;rw [if_pos hc]
  rwa [e] at h)
 have HLE:Hid (∀ W,Calls Tryz.prog 63 #[.string s] W fun e w'=>e=.returned (.int .i64 (n:Int))∧W=w'):=yA (fun W=>by
  have h:=ybp s W (by omega)
  rwa [HLL.out,HN.out] at h)
 have hns:(n:Int)≤s.size:=by have:=ybU l;rw [HN.out,HLN.out] at this;omega
 obtain ⟨T,hs1⟩:∃ T,s.extract 0 n=T:=⟨_,rfl⟩
 have HTD:Hid (T.data.toList=l.take n):=yA (by rw [← hs1,extract_upto,HLL.out])
 have HTS:Hid ((T.size:Int)≤1000):=yA (by
  have:T.data.toList.length=T.size:=by simp
  rw [HTD.out,List.length_take] at this
  have h2:=HLN.out
  omega)
 obtain ⟨fo,HFO⟩:∃ fo,Hid (jU (l.take n)=fo):=⟨_,yA rfl⟩
 have HFI:Hid (∀ W,Calls Tryz.prog 64 #[.string T] W (ycs fo W)):=yA (fun W=>by
  have h:=ydp T W (by have:=HTS.out;omega)
  rwa [HTD.out,HFO.out] at h)
 rw [HLL.out]
 rw [HLL.out] at hc
 clear HTD HTS hc
 go_enter Tryz.func35,Tryz.ntmps35
 go_wp2_with fail
 refine (HNU.out _).mono ?_
 rintro e w' ⟨rfl,rfl⟩
 go_wp2_with fail
 refine (HLE.out _).mono ?_
 rintro e w' ⟨rfl,rfl⟩
 go_wp2_with fail
 refine (HFI.out _).mono ?_
 rintro e w5 ⟨SW,so,sb,pre,a0,a1,a2,a3,a4,a5,a6,off,z,p,qb,qx,qn,qc,qy,qm,qd,rfl,hb5,hf5⟩
 have HK5:=yA (HK0.out.next hb5)
 have HF5:Hid (∀ s r,fo=some (s,r)→s=⟨SW.data.toList,so,sb,pre,[a0,a1,a2,a3,a4,a5,a6],off,z,p⟩∧zH w5 (.agg #[.bool qb,.slice qx qn qc,.slice qy qm qd]) r):=yA hf5
 clear hb5 hf5 HK0
 rw [HBE.out]
 go_upto_region 8 with fail
 obtain ⟨W6,HW6⟩:∃ W6,Hid ((w5.alloc (.cells #[.string SW,.int .i64 so,.int .i64 sb,.bool pre,.int .i64 a0,.int .i64 a1,.int .i64 a2,.int .i64 a3,.int .i64 a4,.int .i64 a5,.int .i64 a6,.bool off,.int .i64 z,.int .i64 p] 46)).alloc (.cells #[.bool qb,.slice qx qn qc,.slice qy qm qd] 44)=W6):=⟨_,yA rfl⟩
 have HK6:Hid (Keep w W6 [(w5.heap.size+1,#[.bool qb,.slice qx qn qc,.slice qy qm qd],44),(w5.heap.size,#[.string SW,.int .i64 so,.int .i64 sb,.bool pre,.int .i64 a0,.int .i64 a1,.int .i64 a2,.int .i64 a3,.int .i64 a4,.int .i64 a5,.int .i64 a6,.bool off,.int .i64 z,.int .i64 p],46),(B,#[.int .i64 0,.bool false,.slice none 0 0,.slice none 0 0,.string ⟨#[]⟩,.int .i64 0,.int .i64 0,.bool false,.int .i64 0,.int .i64 0,.int .i64 0,.int .i64 0,.int .i64 0,.int .i64 0,.int .i64 0,.bool false,.int .i64 0,.int .i64 0,.bool false,.int .i64 0,.bool false],48)]):=yA (by
  rw [← HW6.out]
  have h:=(HK5.out.more #[.string SW,.int .i64 so,.int .i64 sb,.bool pre,.int .i64 a0,.int .i64 a1,.int .i64 a2,.int .i64 a3,.int .i64 a4,.int .i64 a5,.int .i64 a6,.bool off,.int .i64 z,.int .i64 p] 46).more #[.bool qb,.slice qx qn qc,.slice qy qm qd] 44
  rwa [show (w5.alloc (.cells #[.string SW,.int .i64 so,.int .i64 sb,.bool pre,.int .i64 a0,.int .i64 a1,.int .i64 a2,.int .i64 a3,.int .i64 a4,.int .i64 a5,.int .i64 a6,.bool off,.int .i64 z,.int .i64 p] 46)).heap.size=w5.heap.size+1 from by simp] at h)
 have HQ6:Hid (∀ v r,zH w5 v r→zH W6 v r):=yA (fun v r h=>by rw [← HW6.out];exact (h.below (zK _ _)).below (zK _ _))
 have HBX:Hid (BX 48 21 (W6.alloc (.cells #[.int .i64 0,.bool false,.slice none 0 0,.slice none 0 0,.string ⟨#[]⟩,.int .i64 0,.int .i64 0,.bool false,.int .i64 0,.int .i64 0,.int .i64 0,.int .i64 0,.int .i64 0,.int .i64 0,.int .i64 0,.bool false,.int .i64 0,.int .i64 0,.bool false,.int .i64 0,.bool false] 48)) W6.heap.size):=yA (uT (yV _ _))
 have hc1:=HK6.out.one _ (List.mem_cons_self ..)
 have c0:=yB hc1 0
 have c1:=yB hc1 1
 have c2:=yB hc1 2
 have hd1:=HK6.out.one (w5.heap.size,#[.string SW,.int .i64 so,.int .i64 sb,.bool pre,.int .i64 a0,.int .i64 a1,.int .i64 a2,.int .i64 a3,.int .i64 a4,.int .i64 a5,.int .i64 a6,.bool off,.int .i64 z,.int .i64 p],46) (by simp)
 have d0:=yB hd1 0
 have d1:=yB hd1 1
 have d2:=yB hd1 2
 have d3:=yB hd1 3
 have d4:=yB hd1 4
 have d5:=yB hd1 5
 have d6:=yB hd1 6
 have d7:=yB hd1 7
 have d8:=yB hd1 8
 have d9:=yB hd1 9
 have d10:=yB hd1 10
 have d11:=yB hd1 11
 have d12:=yB hd1 12
 have d13:=yB hd1 13
 rw [HW6.out]
 clear hc1 hd1 HW6
 go_wp2_with (refine zO rfl 48 21 (.tmp 14) (.tmp 57) rfl W6.heap.size [.int .i64 0,.bool qb,.slice qx qn qc,.slice qy qm qd,.string SW,.int .i64 so,.int .i64 sb,.bool pre,.int .i64 a0,.int .i64 a1,.int .i64 a2,.int .i64 a3,.int .i64 a4,.int .i64 a5,.int .i64 a6,.bool off,.int .i64 z,.int .i64 p,.bool true,.int .i64 1,.bool false] rfl rfl HBX.out rfl (by kernel_rfl) (GC _ _ _ _ _ _ _ _ _ _ _ _ _ _ _ _ _ _ _ _ _ _ _ _ _) (by simp [Value.oneCell']) ?_)
 intro W8 h8 st8
 obtain ⟨g14,HG⟩:∃ g,Hid (W6.heap.size=g):=⟨_,yA rfl⟩
 have HBG:Hid (B<g14):=yA (by rw [← HG.out];exact HK6.out.lt (x:=(B,#[.int .i64 0,.bool false,.slice none 0 0,.slice none 0 0,.string ⟨#[]⟩,.int .i64 0,.int .i64 0,.bool false,.int .i64 0,.int .i64 0,.int .i64 0,.int .i64 0,.int .i64 0,.int .i64 0,.int .i64 0,.bool false,.int .i64 0,.int .i64 0,.bool false,.int .i64 0,.bool false],48)) (by simp))
 have HK8:Hid (Keep w W8 [(g14,#[.int .i64 0,.bool qb,.slice qx qn qc,.slice qy qm qd,.string SW,.int .i64 so,.int .i64 sb,.bool pre,.int .i64 a0,.int .i64 a1,.int .i64 a2,.int .i64 a3,.int .i64 a4,.int .i64 a5,.int .i64 a6,.bool off,.int .i64 z,.int .i64 p,.bool true,.int .i64 1,.bool false],48),(B,#[.int .i64 0,.bool false,.slice none 0 0,.slice none 0 0,.string ⟨#[]⟩,.int .i64 0,.int .i64 0,.bool false,.int .i64 0,.int .i64 0,.int .i64 0,.int .i64 0,.int .i64 0,.int .i64 0,.int .i64 0,.bool false,.int .i64 0,.int .i64 0,.bool false,.int .i64 0,.bool false],48)]):=yA (by
  have h:=st8.keep w [(B,#[.int .i64 0,.bool false,.slice none 0 0,.slice none 0 0,.string ⟨#[]⟩,.int .i64 0,.int .i64 0,.bool false,.int .i64 0,.int .i64 0,.int .i64 0,.int .i64 0,.int .i64 0,.int .i64 0,.int .i64 0,.bool false,.int .i64 0,.int .i64 0,.bool false,.int .i64 0,.bool false],48)] (by rw [HG.out];have:=HBG.out;have:=HBL.out;omega) (by
   intro x hx
   rw [List.mem_singleton.1 hx,HG.out]
   have:=HBG.out
   dsimp only;omega) ((HK6.out.next (zK W6 (.cells #[.int .i64 0,.bool false,.slice none 0 0,.slice none 0 0,.string ⟨#[]⟩,.int .i64 0,.int .i64 0,.bool false,.int .i64 0,.int .i64 0,.int .i64 0,.int .i64 0,.int .i64 0,.int .i64 0,.int .i64 0,.bool false,.int .i64 0,.int .i64 0,.bool false,.int .i64 0,.bool false] 48))).sub (fun x hx=>by rw [List.mem_singleton.1 hx];simp))
  refine ⟨h.below,fun x hx=>?_⟩
  rcases List.mem_cons.1 hx with rfl|hx
  ·rw [← HG.out];exact h8
  ·exact h.all x hx)
 have HQ8:Hid (∀ v r,zH w5 v r→zH W8 v r):=yA (fun v r h=>st8.nums v r ((HQ6.out v r h).below (zK _ _)))
 have HBB:Hid (BX 48 21 W8 B):=yA (uT (HK8.out.one (B,#[.int .i64 0,.bool false,.slice none 0 0,.slice none 0 0,.string ⟨#[]⟩,.int .i64 0,.int .i64 0,.bool false,.int .i64 0,.int .i64 0,.int .i64 0,.int .i64 0,.int .i64 0,.int .i64 0,.int .i64 0,.bool false,.int .i64 0,.int .i64 0,.bool false,.int .i64 0,.bool false],48) (by simp)))
 have ya6:Hid (BX 48 21 W8 g14):=yA (by have h:=st8.box;rwa [HG.out] at h)
 have HRG:Hid (W8.rangeAt g14 0 [.int .i64 0,.bool qb,.slice qx qn qc,.slice qy qm qd,.string SW,.int .i64 so,.int .i64 sb,.bool pre,.int .i64 a0,.int .i64 a1,.int .i64 a2,.int .i64 a3,.int .i64 a4,.int .i64 a5,.int .i64 a6,.bool off,.int .i64 z,.int .i64 p,.bool true,.int .i64 1,.bool false]):=yA (fun j v hj=>by
  rw [Nat.zero_add,yB (HK8.out.one _ (List.mem_cons_self ..))];simpa using hj)
 rw [HG.out]
 obtain ⟨ok,HOK⟩:∃ ok,Hid (fo.isSome=ok):=⟨_,yA rfl⟩
 rw [HOK.out]
 clear h8 st8 HK6 HQ6 HBX HG c0 c1 c2 d0 d1 d2 d3 d4 d5 d6 d7 d8 d9 d10 d11 d12 d13
 have ya5:ok=false∨(ok=true∧((n:Int)==(s.size:Int))=true)∨(ok=true∧((n:Int)==(s.size:Int))=false):=by
  cases ok<;>cases ((n:Int)==(s.size:Int))<;>simp
 rcases ya5 with rfl|⟨rfl,hnz⟩|⟨rfl,hnz⟩
 ·have HOT:Hid (uW l=none):=yA (yaD (by rw [HN.out,HFO.out];exact Option.isNone_iff_eq_none.1 (by have:=HOK.out;cases fo<;>simp_all)))
  go_upto_region 10 with fail
  go_wp2_with (first|(refine wpList_load_mid rfl 48 (.tmp 14) rfl g14 0 rfl [.int .i64 0,.bool qb,.slice qx qn qc,.slice qy qm qd,.string SW,.int .i64 so,.int .i64 sb,.bool pre,.int .i64 a0,.int .i64 a1,.int .i64 a2,.int .i64 a3,.int .i64 a4,.int .i64 a5,.int .i64 a6,.bool off,.int .i64 z,.int .i64 p,.bool true,.int .i64 1,.bool false] _ HRG.out Tryz.underlying48 rfl (by kernel_rfl) ?_)|(refine zO rfl 48 21 (.tmp 2) (.tmp 72) rfl B [.int .i64 0,.bool qb,.slice qx qn qc,.slice qy qm qd,.string SW,.int .i64 so,.int .i64 sb,.bool pre,.int .i64 a0,.int .i64 a1,.int .i64 a2,.int .i64 a3,.int .i64 a4,.int .i64 a5,.int .i64 a6,.bool off,.int .i64 z,.int .i64 p,.bool true,.int .i64 1,.bool false] rfl rfl HBB.out rfl (by kernel_rfl) (GC _ _ _ _ _ _ _ _ _ _ _ _ _ _ _ _ _ _ _ _ _ _ _ _ _) (by simp [Value.oneCell']) ?_))
  intro W9 h9 st9
  have HBF:=yA (st9.keep w [] HBL.out (fun x hx=>by cases hx) (HK8.out.sub (fun x hx=>by cases hx))).below
  have HQ9:Hid (∀ v r,zH W8 v r→zH W9 v r):=yA st9.nums
  have H9:=yA h9
  clear h9 st9
  go_wp2_with fail
  refine bodyPost_ret (v:=.tuple #[.agg #[.int .i64 0,.bool qb,.slice qx qn qc,.slice qy qm qd,.string SW,.int .i64 so,.int .i64 sb,.bool pre,.int .i64 a0,.int .i64 a1,.int .i64 a2,.int .i64 a3,.int .i64 a4,.int .i64 a5,.int .i64 a6,.bool off,.int .i64 z,.int .i64 p,.bool true,.int .i64 1,.bool false],.int .i64 (n:Int),.bool false]) (vI Tryz.results35 rfl (vL (cs:=[.int .i64 0,.bool qb,.slice qx qn qc,.slice qy qm qd,.string SW,.int .i64 so,.int .i64 sb,.bool pre,.int .i64 a0,.int .i64 a1,.int .i64 a2,.int .i64 a3,.int .i64 a4,.int .i64 a5,.int .i64 a6,.bool off,.int .i64 z,.int .i64 p,.bool true,.int .i64 1,.bool false]) H9.out Tryz.underlying48 rfl (by kernel_rfl))) rfl ?_
  exact ⟨qb,qx,qn,qc,qy,qm,qd,SW,so,sb,pre,a0,a1,a2,a3,a4,a5,a6,off,z,p,true,1,false,n,by rw [HOT.out];rfl,HBF.out,fun f m h=>by rw [HOT.out] at h;cases h⟩
 ·obtain ⟨S,r,rfl⟩:∃ S r,fo=some (S,r):=by
   have h:=HOK.out
   cases fo with
   | none=>cases h
   | some x=>exact ⟨x.1,x.2,rfl⟩
  obtain ⟨hS,hq⟩:=HF5.out _ _ rfl
  have HQR:=yA (HQ8.out _ _ hq)
  have HSE:=yA hS
  have HOT:Hid (uW l=some (⟨r,S,true,1,false⟩,n)):=yA (by
   have h:=GQ (l:=l) (s:=S) (q:=r) (by rw [HN.out,HFO.out]) (by
    intro t e
    have:=congrArg List.length e
    rw [List.length_drop,HN.out,HLN.out] at this
    simp only [beq_iff_eq] at hnz
    simp at this
    omega)
   rwa [HN.out] at h)
  clear hS hq
  go_upto_region 10 with fail
  go_wp2_with (first|(refine wpList_load_mid rfl 48 (.tmp 14) rfl g14 0 rfl [.int .i64 0,.bool qb,.slice qx qn qc,.slice qy qm qd,.string SW,.int .i64 so,.int .i64 sb,.bool pre,.int .i64 a0,.int .i64 a1,.int .i64 a2,.int .i64 a3,.int .i64 a4,.int .i64 a5,.int .i64 a6,.bool off,.int .i64 z,.int .i64 p,.bool true,.int .i64 1,.bool false] _ HRG.out Tryz.underlying48 rfl (by kernel_rfl) ?_)|(refine zO rfl 48 21 (.tmp 2) (.tmp 72) rfl B [.int .i64 0,.bool qb,.slice qx qn qc,.slice qy qm qd,.string SW,.int .i64 so,.int .i64 sb,.bool pre,.int .i64 a0,.int .i64 a1,.int .i64 a2,.int .i64 a3,.int .i64 a4,.int .i64 a5,.int .i64 a6,.bool off,.int .i64 z,.int .i64 p,.bool true,.int .i64 1,.bool false] rfl rfl HBB.out rfl (by kernel_rfl) (GC _ _ _ _ _ _ _ _ _ _ _ _ _ _ _ _ _ _ _ _ _ _ _ _ _) (by simp [Value.oneCell']) ?_))
  intro W9 h9 st9
  have HBF:=yA (st9.keep w [] HBL.out (fun x hx=>by cases hx) (HK8.out.sub (fun x hx=>by cases hx))).below
  have HQ9:Hid (∀ v r,zH W8 v r→zH W9 v r):=yA st9.nums
  have H9:=yA h9
  clear h9 st9
  go_wp2_with fail
  refine bodyPost_ret (v:=.tuple #[.agg #[.int .i64 0,.bool qb,.slice qx qn qc,.slice qy qm qd,.string SW,.int .i64 so,.int .i64 sb,.bool pre,.int .i64 a0,.int .i64 a1,.int .i64 a2,.int .i64 a3,.int .i64 a4,.int .i64 a5,.int .i64 a6,.bool off,.int .i64 z,.int .i64 p,.bool true,.int .i64 1,.bool false],.int .i64 (n:Int),.bool true]) (vI Tryz.results35 rfl (vL (cs:=[.int .i64 0,.bool qb,.slice qx qn qc,.slice qy qm qd,.string SW,.int .i64 so,.int .i64 sb,.bool pre,.int .i64 a0,.int .i64 a1,.int .i64 a2,.int .i64 a3,.int .i64 a4,.int .i64 a5,.int .i64 a6,.bool off,.int .i64 z,.int .i64 p,.bool true,.int .i64 1,.bool false]) H9.out Tryz.underlying48 rfl (by kernel_rfl))) rfl ?_
  exact ⟨qb,qx,qn,qc,qy,qm,qd,SW,so,sb,pre,a0,a1,a2,a3,a4,a5,a6,off,z,p,true,1,false,n,by rw [HOT.out];rfl,HBF.out,fun f m h=>by
   rw [HOT.out] at h
   cases h
   exact ⟨rfl,by rw [HSE.out],HQ9.out _ _ HQR.out⟩⟩
 ·obtain ⟨S,r,rfl⟩:∃ S r,fo=some (S,r):=by
   have h:=HOK.out
   cases fo with
   | none=>cases h
   | some x=>exact ⟨x.1,x.2,rfl⟩
  obtain ⟨hS,hq⟩:=HF5.out _ _ rfl
  have HQR:=yA (HQ8.out _ _ hq)
  have HSE:=yA hS
  clear hS hq
  have hnn:(n:Int)≠(s.size:Int):=by simpa using hnz
  have hlt:n<s.size:=by omega
  have yfS:(n:Int)<s.size:=by omega
  have HSN:Hid (∀ (j:Nat) (h:j<s.size),l.drop j=s[j]'h::l.drop (j+1)):=yA (fun j h=>by
   have e:s[j]'h=s.data.toList[j]'(by simpa using h):=rfl
   have hl:=HLL.out
   subst hl
   rw [List.drop_eq_getElem_cons (by simpa using h),e])
  by_cases h94:s[n]'hlt=94
  ·refine absurd h94 ?_
   have h:=HC.out
   rw [HLL.out,HN.out] at h
   rcases h with h|h
   ·rw [HFO.out] at h;cases h
   ·exact h hlt
  ·have t94:(((s[n]'hlt).toNat:Int) != 94)=true:=by
    rw [bne_iff_ne];intro e;exact h94 (UInt8.toNat_inj.1 (by omega:(s[n]'hlt).toNat=94))
   have HOT:Hid (uW l=some (⟨r,S,true,1,false⟩,n)):=yA (by
    have h:=GQ (l:=l) (s:=S) (q:=r) (by rw [HN.out,HFO.out]) (by
     intro t e
     rw [HN.out,HSN.out n hlt] at e
     injection e with e1 e2
     exact h94 e1)
    rwa [HN.out] at h)
   clear h94
   go_upto_region 10 with fail
   go_wp2_with (first|(refine wpList_load_mid rfl 48 (.tmp 14) rfl g14 0 rfl [.int .i64 0,.bool qb,.slice qx qn qc,.slice qy qm qd,.string SW,.int .i64 so,.int .i64 sb,.bool pre,.int .i64 a0,.int .i64 a1,.int .i64 a2,.int .i64 a3,.int .i64 a4,.int .i64 a5,.int .i64 a6,.bool off,.int .i64 z,.int .i64 p,.bool true,.int .i64 1,.bool false] _ HRG.out Tryz.underlying48 rfl (by kernel_rfl) ?_)|(refine zO rfl 48 21 (.tmp 2) (.tmp 72) rfl B [.int .i64 0,.bool qb,.slice qx qn qc,.slice qy qm qd,.string SW,.int .i64 so,.int .i64 sb,.bool pre,.int .i64 a0,.int .i64 a1,.int .i64 a2,.int .i64 a3,.int .i64 a4,.int .i64 a5,.int .i64 a6,.bool off,.int .i64 z,.int .i64 p,.bool true,.int .i64 1,.bool false] rfl rfl HBB.out rfl (by kernel_rfl) (GC _ _ _ _ _ _ _ _ _ _ _ _ _ _ _ _ _ _ _ _ _ _ _ _ _) (by simp [Value.oneCell']) ?_))
   intro W9 h9 st9
   have HBF:=yA (st9.keep w [] HBL.out (fun x hx=>by cases hx) (HK8.out.sub (fun x hx=>by cases hx))).below
   have HQ9:Hid (∀ v r,zH W8 v r→zH W9 v r):=yA st9.nums
   have H9:=yA h9
   clear h9 st9
   go_wp2_with fail
   refine bodyPost_ret (v:=.tuple #[.agg #[.int .i64 0,.bool qb,.slice qx qn qc,.slice qy qm qd,.string SW,.int .i64 so,.int .i64 sb,.bool pre,.int .i64 a0,.int .i64 a1,.int .i64 a2,.int .i64 a3,.int .i64 a4,.int .i64 a5,.int .i64 a6,.bool off,.int .i64 z,.int .i64 p,.bool true,.int .i64 1,.bool false],.int .i64 (n:Int),.bool true]) (vI Tryz.results35 rfl (vL (cs:=[.int .i64 0,.bool qb,.slice qx qn qc,.slice qy qm qd,.string SW,.int .i64 so,.int .i64 sb,.bool pre,.int .i64 a0,.int .i64 a1,.int .i64 a2,.int .i64 a3,.int .i64 a4,.int .i64 a5,.int .i64 a6,.bool off,.int .i64 z,.int .i64 p,.bool true,.int .i64 1,.bool false]) H9.out Tryz.underlying48 rfl (by kernel_rfl))) rfl ?_
   exact ⟨qb,qx,qn,qc,qy,qm,qd,SW,so,sb,pre,a0,a1,a2,a3,a4,a5,a6,off,z,p,true,1,false,n,by rw [HOT.out];rfl,HBF.out,fun f m h=>by
    rw [HOT.out] at h
    cases h
    exact ⟨rfl,by rw [HSE.out],HQ9.out _ _ HQR.out⟩⟩
theorem ymL (s:ByteArray) (w:World) (hs:(s.size:Int)≤1000) (hc:yF s.data.toList=0):Calls Tryz.prog 35 #[.string s] w (yaZ (uW s.data.toList) w):=by
 by_cases h:jU (s.data.toList.take (zG s.data.toList))=none∨∀ hlt:zG s.data.toList<s.size,s[zG s.data.toList]'hlt≠94
 ·exact yhD s w hs hc (yA h)
 ·obtain ⟨h1,h2⟩:=not_or.1 h
  obtain ⟨x,hx⟩:=Option.ne_none_iff_exists'.1 h1
  obtain ⟨S,r⟩:=x
  obtain ⟨hlt,h94⟩:=Classical.not_forall.1 h2
  have h94:=Classical.not_not.1 h94
  by_cases h3:zG s.data.toList+1<s.size
  ·by_cases h45:s[zG s.data.toList+1]'h3=45
   ·exact ygo s w hs hc (yA ⟨S,r,hx,hlt,h94,h3,h45⟩)
   ·exact ygn s w hs hc (yA ⟨S,r,hx,hlt,h94,h3,h45⟩)
  ·exact ygm s w hs hc (yA ⟨S,r,hx,hlt,h94,Nat.le_antisymm hlt (Nat.not_lt.1 h3)⟩)
theorem ypg (s:ByteArray) (w:World) (hs:(s.size:Int)≤1000):Calls Tryz.prog 35 #[.string s] w (yaZ (uL s.data.toList) w):=by
 unfold uL
 by_cases h:0<yF s.data.toList
 ·rw [if_pos h];exact yo6 s w hs h
 ·rw [if_neg h];exact ymL s w hs (by omega)
theorem yiC (f o:ByteArray) (p0 p1 p2 p3 p4 p5 p6:Int):∀ v ∈ ([.string f,.string o,.int .i64 p0,.int .i64 p1,.int .i64 p2,.int .i64 p3,.int .i64 p4,.int .i64 p5,.int .i64 p6]:List Value),vP v:=by
 intro v hv
 simp only [List.mem_cons,List.not_mem_nil,or_false] at hv
 rcases hv with rfl|rfl|rfl|rfl|rfl|rfl|rfl|rfl|rfl
 ·exact ynF _
 ·exact ynF _
 all_goals exact yD _
theorem ycv {W:World} {g:Nat} (h:W.heap[g]?=some (.cells #[.string ⟨#[]⟩,.string ⟨#[]⟩,.int .i64 0,.int .i64 0,.int .i64 0,.int .i64 0,.int .i64 0,.int .i64 0,.int .i64 0] 24 (0,0))):BX 24 9 W g:=by
 refine ⟨_,h,rfl,?_⟩
 intro j v hj
 exact yiC ⟨#[]⟩ ⟨#[]⟩ 0 0 0 0 0 0 0 v (List.mem_of_getElem? (i:=j) (by simpa using hj))
theorem GR {fn:Func} {tmps:Array Value} {W:World} {B T a b:Nat} {cs:Array Value} (hr:fn.results=#[.cell a T,.tmp b]) (ha:tmps.getD a undef=.pointer (some ⟨B,0,none⟩)) (hl:(loadVar T ⟨B,0,none⟩).run Tryz.prog W=.ok (.agg cs) W):(results fn tmps).run Tryz.prog W=.ok (.tuple #[.agg cs,tmps.getD b undef]) W:=by
 unfold results
 rw [hr]
 have ha2:tmps[a]?.getD undef=.pointer (some ⟨B,0,none⟩):=by simpa using ha
 simp [Array.mapM_eq_mapM_toList,ha2,asAddr,Result.andThen,hl]
theorem yk0 (s:ByteArray) (w:World) (hs:(1000:Int)<s.size):Calls Tryz.prog 6 #[.string s] w (zS (ybL s.data.toList) w):=by
 have HD:Hid (ybL s.data.toList=(vZ,4)):=yA (by
  have e:s.data.toList.length=s.size:=by simp
  unfold ybL;rw [if_pos (by omega)])
 have HK0:Hid (Keep w (w.alloc (.cells #[.string ⟨#[]⟩,.string ⟨#[]⟩,.int .i64 0,.int .i64 0,.int .i64 0,.int .i64 0,.int .i64 0,.int .i64 0,.int .i64 0] 24)) [(w.heap.size,#[.string ⟨#[]⟩,.string ⟨#[]⟩,.int .i64 0,.int .i64 0,.int .i64 0,.int .i64 0,.int .i64 0,.int .i64 0,.int .i64 0],24)]):=yA ((Keep.nil w).more #[.string ⟨#[]⟩,.string ⟨#[]⟩,.int .i64 0,.int .i64 0,.int .i64 0,.int .i64 0,.int .i64 0,.int .i64 0,.int .i64 0] 24)
 have HBX:=yA (ycv (HK0.out.one _ (List.mem_cons_self ..)))
 go_enter Tryz.func6,Tryz.ntmps6
 go_wp2_with (refine zO rfl 24 9 (.tmp 2) (.tmp 13) rfl w.heap.size [.string ⟨#[]⟩,.string ⟨#[]⟩,.int .i64 0,.int .i64 0,.int .i64 0,.int .i64 0,.int .i64 0,.int .i64 0,.int .i64 0] rfl rfl HBX.out rfl (by kernel_rfl) (yiC _ _ _ _ _ _ _ _ _) (by simp [Value.oneCell']) ?_)
 intro W9 h9 st9
 have H9:=yA h9
 have HB9:=yA (st9.keep w [] (Nat.le_refl _) (fun x hx=>by cases hx) (HK0.out.sub (fun x hx=>by cases hx))).below
 clear h9 st9
 go_wp2_with fail
 refine bodyPost_ret (v:=.tuple #[.agg #[.string ⟨#[]⟩,.string ⟨#[]⟩,.int .i64 0,.int .i64 0,.int .i64 0,.int .i64 0,.int .i64 0,.int .i64 0,.int .i64 0],.int .i64 4]) (GR Tryz.results6 rfl (vL (cs:=[.string ⟨#[]⟩,.string ⟨#[]⟩,.int .i64 0,.int .i64 0,.int .i64 0,.int .i64 0,.int .i64 0,.int .i64 0,.int .i64 0]) H9.out Tryz.underlying24 rfl (by kernel_rfl))) rfl ?_
 rw [HD.out]
 exact ⟨⟨#[]⟩,⟨#[]⟩,0,0,0,0,0,0,0,rfl,rfl,HB9.out⟩
theorem yk1 (s:ByteArray) (w:World) (hs:(s.size:Int)≤1000) (HN:Hid (zB s.data.toList 1 [] (s.size+1)=none)) (H15:Hid (∀ W,Calls Tryz.prog 15 #[.string s] W (ycL (zB s.data.toList 1 [] (s.size+1)) W))):Calls Tryz.prog 6 #[.string s] w (zS (ybL s.data.toList) w):=by
 have HD:Hid (ybL s.data.toList=(vZ,10)):=yA (by
  have e:s.data.toList.length=s.size:=by simp
  unfold ybL;rw [if_neg (by omega),e,HN.out])
 have HK0:Hid (Keep w (w.alloc (.cells #[.string ⟨#[]⟩,.string ⟨#[]⟩,.int .i64 0,.int .i64 0,.int .i64 0,.int .i64 0,.int .i64 0,.int .i64 0,.int .i64 0] 24)) [(w.heap.size,#[.string ⟨#[]⟩,.string ⟨#[]⟩,.int .i64 0,.int .i64 0,.int .i64 0,.int .i64 0,.int .i64 0,.int .i64 0,.int .i64 0],24)]):=yA ((Keep.nil w).more #[.string ⟨#[]⟩,.string ⟨#[]⟩,.int .i64 0,.int .i64 0,.int .i64 0,.int .i64 0,.int .i64 0,.int .i64 0,.int .i64 0] 24)
 have HF:=yA (H15.out)
 rw [HN.out] at HF
 go_enter Tryz.func6,Tryz.ntmps6
 go_wp2_with fail
 refine (HF.out _).mono ?_
 rintro e w2 ⟨hb2,rfl⟩
 have HK2:=yA (HK0.out.next hb2)
 clear hb2
 have HBX:=yA (ycv (HK2.out.one _ (List.mem_cons_self ..)))
 go_wp2_with (refine zO rfl 24 9 (.tmp 2) (.tmp 21) rfl w.heap.size [.string ⟨#[]⟩,.string ⟨#[]⟩,.int .i64 0,.int .i64 0,.int .i64 0,.int .i64 0,.int .i64 0,.int .i64 0,.int .i64 0] rfl rfl HBX.out rfl (by kernel_rfl) (yiC _ _ _ _ _ _ _ _ _) (by simp [Value.oneCell']) ?_)
 intro W9 h9 st9
 have H9:=yA h9
 have HB9:=yA (st9.keep w [] (Nat.le_refl _) (fun x hx=>by cases hx) (HK2.out.sub (fun x hx=>by cases hx))).below
 clear h9 st9
 go_wp2_with fail
 refine bodyPost_ret (v:=.tuple #[.agg #[.string ⟨#[]⟩,.string ⟨#[]⟩,.int .i64 0,.int .i64 0,.int .i64 0,.int .i64 0,.int .i64 0,.int .i64 0,.int .i64 0],.int .i64 10]) (GR Tryz.results6 rfl (vL (cs:=[.string ⟨#[]⟩,.string ⟨#[]⟩,.int .i64 0,.int .i64 0,.int .i64 0,.int .i64 0,.int .i64 0,.int .i64 0,.int .i64 0]) H9.out Tryz.underlying24 rfl (by kernel_rfl))) rfl ?_
 rw [HD.out]
 exact ⟨⟨#[]⟩,⟨#[]⟩,0,0,0,0,0,0,0,rfl,rfl,HB9.out⟩
end Go.Proofs.YtfjnipkpfbkegaaGreatDoor
