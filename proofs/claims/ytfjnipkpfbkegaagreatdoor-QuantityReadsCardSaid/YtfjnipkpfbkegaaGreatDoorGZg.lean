/- Contracts. -/
import Derived.Test.YtfjnipkpfbkegaaGreatDoorGZa
set_option maxHeartbeats 16000000
set_option maxRecDepth 100000
namespace Go.Proofs.YtfjnipkpfbkegaaGreatDoor
open Go.RowKit Big
open Go.Lib
theorem yjA:∀ (F:Nat) (l:List UInt8) (dir:Int) (acc fs:List (Int × FacR)),zB l dir acc F=some fs→fs.length≤acc.length+F:=by
 intro F
 induction F with
 | zero=>intro l dir acc fs h;cases h
 | succ F ih =>
  intro l dir acc fs h
  unfold zB at h
  split at h
  ·cases h
  ·split at h
   ·cases h;simp only [List.length_append,List.length_singleton];omega
   ·split at h
    ·have:=ih _ _ _ _ h;simp only [List.length_append,List.length_singleton] at this;omega
    ·have:=ih _ _ _ _ h;simp only [List.length_append,List.length_singleton] at this;omega
    ·cases h
def ykB (n:Nat) (x:Int × FacR):Bool:=x.2.s.off&&(decide (1<n) || x.2.ra)
theorem ymM (fs:List (Int × FacR)):ycV fs=fs.any (ykB fs.length):=rfl
theorem yph {α:Type} {p:α→Bool} {l:List α} {k:Nat} (h:k<l.length):(l.take (k+1)).any p=((l.take k).any p || p l[k]):=by
 rw [List.take_succ_eq_append_getElem h,List.any_append]
 simp
theorem yrS {α:Type} {p:α→Bool} {l:List α} {k:Nat} (h:k<l.length) (hp:p l[k]=true):l.any p=true:=List.any_eq_true.2 ⟨_,List.getElem_mem h,hp⟩
def yhc (q o:Rat) (ps:List Int) (w:World) (e:Ending) (w':World):Prop:=∃ (b1:Bool) (x1:Option Addr) (n1 c1:Nat) (y1:Option Addr) (m1 d1:Nat) (b2:Bool) (x2:Option Addr) (n2 c2:Nat) (y2:Option Addr) (m2 d2:Nat) (p0 p1 p2 p3 p4 p5 p6:Int),e=.returned (.agg #[.bool b1,.slice x1 n1 c1,.slice y1 m1 d1,.bool b2,.slice x2 n2 c2,.slice y2 m2 d2,.int .i64 p0,.int .i64 p1,.int .i64 p2,.int .i64 p3,.int .i64 p4,.int .i64 p5,.int .i64 p6])∧[p0,p1,p2,p3,p4,p5,p6]=ps∧zH w' (.agg #[.bool b1,.slice x1 n1 c1,.slice y1 m1 d1]) q∧zH w' (.agg #[.bool b2,.slice x2 n2 c2,.slice y2 m2 d2]) o∧Below w.heap.size w w'
theorem yk2 (s:ByteArray) (w:World) (hs:(s.size:Int)≤1000) (fs:List (Int × FacR)) (HN:Hid (zB s.data.toList 1 [] (s.size+1)=some fs)) (H15:Hid (∀ W,Calls Tryz.prog 15 #[.string s] W (ycL (zB s.data.toList 1 [] (s.size+1)) W))) (H18:Hid (∀ W base v css,FacsR W base v css fs→fs.length≤12→fs.all (fun x=>zP x.2.e)=true→Calls Tryz.prog 18 #[v] W (yhc (jV 1 jG fs).1 (GU 0 fs) (jV 1 jG fs).2 W))) (HL1:Hid (fs.all (fun x=>zP x.2.e)=true→fs.length≤12→uK 745 (jV 1 jG fs).1)) (HL2:Hid (uK 745 (GU 0 fs))):Calls Tryz.prog 6 #[.string s] w (zS (ybK fs) w):=by
 have hl:(fs.length:Int)≤1001:=by have:=yjA _ _ _ _ _ HN.out;simp only [List.length_nil] at this;omega
 have HK0:Hid (Keep w (w.alloc (.cells #[.string ⟨#[]⟩,.string ⟨#[]⟩,.int .i64 0,.int .i64 0,.int .i64 0,.int .i64 0,.int .i64 0,.int .i64 0,.int .i64 0] 24)) [(w.heap.size,#[.string ⟨#[]⟩,.string ⟨#[]⟩,.int .i64 0,.int .i64 0,.int .i64 0,.int .i64 0,.int .i64 0,.int .i64 0,.int .i64 0],24)]):=yA ((Keep.nil w).more #[.string ⟨#[]⟩,.string ⟨#[]⟩,.int .i64 0,.int .i64 0,.int .i64 0,.int .i64 0,.int .i64 0,.int .i64 0,.int .i64 0] 24)
 have HF:=yA (H15.out)
 rw [HN.out] at HF
 go_enter Tryz.func6,Tryz.ntmps6
 go_wp2_with fail
 refine (HF.out _).mono ?_
 rintro e w2 ⟨hb2,v,css,rfl,hfs⟩
 obtain ⟨po,cap,hv⟩:∃ po cap,v=.slice po fs.length cap:=by
  rcases hfs.row.1.2 with ⟨h1,h2⟩|⟨g,cap,cur,h1,-⟩
  ·exact ⟨none,0,by rw [h1,h2]⟩
  ·exact ⟨_,_,h1⟩
 subst hv
 obtain ⟨BB,HBB⟩:∃ BB,Hid ((w.alloc (.cells #[.string ⟨#[]⟩,.string ⟨#[]⟩,.int .i64 0,.int .i64 0,.int .i64 0,.int .i64 0,.int .i64 0,.int .i64 0,.int .i64 0] 24)).heap.size=BB):=⟨_,yA rfl⟩
 have H0:=yA (And.intro (HK0.out.next hb2) (And.intro hfs (show (fs.take 0).any (ykB fs.length)=false from rfl)))
 rw [HBB.out] at H0
 clear hb2 hfs HF HK0 HBB
 go_wp2_with fail
 go_loopw [24] (fun i wr=>∃ k:Nat,k≤fs.length∧i=.int .i64 (k:Int)∧Hid (Keep w wr [(w.heap.size,#[.string ⟨#[]⟩,.string ⟨#[]⟩,.int .i64 0,.int .i64 0,.int .i64 0,.int .i64 0,.int .i64 0,.int .i64 0,.int .i64 0],24)]∧FacsR wr BB (.slice po fs.length cap) css fs∧(fs.take k).any (ykB fs.length)=false)) (fun i _=>fs.length-(intOf i).toNat)
 case atStart=>exact ⟨0,Nat.zero_le _,rfl,H0⟩
 case round =>
  obtain ⟨k,hk,rfl,yI⟩:=hrel
  clear H0
  by_cases hlt:k<fs.length
  ·have yfS:(k:Int)<fs.length:=by omega
   obtain ⟨g,cap',qb,qx,qn,qc,qy,qm,qd,SW,so,sb,pre,a0,a1,a2,a3,a4,a5,a6,off,z,p,isw,ex,ra,hv,hg,hra,hf,hq⟩:=yI.out.2.1.cells hlt
   cases hv
   obtain ⟨d,HDD⟩:∃ d,Hid (fs[k].1=d):=⟨_,yA rfl⟩
   rw [HDD.out] at hra
   have HRA:=yA hra
   have Hf:=yA hf
   have HBN:Hid (BX 48 21 (wr.alloc (.cells #[.int .i64 0,.bool false,.slice none 0 0,.slice none 0 0,.string ⟨#[]⟩,.int .i64 0,.int .i64 0,.bool false,.int .i64 0,.int .i64 0,.int .i64 0,.int .i64 0,.int .i64 0,.int .i64 0,.int .i64 0,.bool false,.int .i64 0,.int .i64 0,.bool false,.int .i64 0,.bool false] 48)) wr.heap.size):=yA (uT (yV _ _))
   clear hra hf hq
   go_wp2_with (first|(refine wpList_load_mid rfl 48 (.tmp 26) rfl g (k*21) rfl [.int .i64 d,.bool qb,.slice qx qn qc,.slice qy qm qd,.string SW,.int .i64 so,.int .i64 sb,.bool pre,.int .i64 a0,.int .i64 a1,.int .i64 a2,.int .i64 a3,.int .i64 a4,.int .i64 a5,.int .i64 a6,.bool off,.int .i64 z,.int .i64 p,.bool isw,.int .i64 ex,.bool ra] _ HRA.out Tryz.underlying48 rfl (by kernel_rfl) ?_)|(refine zO rfl 48 21 (.tmp 7) (.tmp 27) rfl wr.heap.size [.int .i64 d,.bool qb,.slice qx qn qc,.slice qy qm qd,.string SW,.int .i64 so,.int .i64 sb,.bool pre,.int .i64 a0,.int .i64 a1,.int .i64 a2,.int .i64 a3,.int .i64 a4,.int .i64 a5,.int .i64 a6,.bool off,.int .i64 z,.int .i64 p,.bool isw,.int .i64 ex,.bool ra] rfl rfl HBN.out rfl (by kernel_rfl) (GC _ _ _ _ _ _ _ _ _ _ _ _ _ _ _ _ _ _ _ _ _ _ _ _ _) (by simp [Value.oneCell']) ?_))
   intro W8 h8 st8
   have HK8:=yA (st8.keep w [(w.heap.size,#[.string ⟨#[]⟩,.string ⟨#[]⟩,.int .i64 0,.int .i64 0,.int .i64 0,.int .i64 0,.int .i64 0,.int .i64 0,.int .i64 0],24)] yI.out.1.below.size (fun x hx=>by
    rw [List.mem_singleton.1 hx]
    have:=(yI.out.1.lt (x:=(w.heap.size,#[.string ⟨#[]⟩,.string ⟨#[]⟩,.int .i64 0,.int .i64 0,.int .i64 0,.int .i64 0,.int .i64 0,.int .i64 0,.int .i64 0],24)) (List.mem_cons_self ..))
    dsimp only at this ⊢;omega) (yI.out.1.next (zK wr (.cells #[.int .i64 0,.bool false,.slice none 0 0,.slice none 0 0,.string ⟨#[]⟩,.int .i64 0,.int .i64 0,.bool false,.int .i64 0,.int .i64 0,.int .i64 0,.int .i64 0,.int .i64 0,.int .i64 0,.int .i64 0,.bool false,.int .i64 0,.int .i64 0,.bool false,.int .i64 0,.bool false] 48))))
   have HS8:=yA (yI.out.2.1.below (st8.keep wr [] (Nat.le_refl _) (fun x hx=>by cases hx) ⟨zK _ _,fun x hx=>by cases hx⟩).below)
   have HBX:=yA (ycv (HK8.out.one _ (List.mem_cons_self ..)))
   have c15:=yB h8 15
   have c20:=yB h8 20
   simp only [List.getElem?_toArray,List.getElem?_cons_succ,List.getElem?_cons_zero] at c15 c20
   have HTK:=yA yI.out.2.2
   clear h8 st8 yI HRA HBN
   have HXB:Hid (ykB fs.length fs[k]=(off&&(decide ((1:Int)<fs.length) || ra))):=yA (by
    have e1:decide ((1:Int)<(fs.length:Int))=decide (1<fs.length):=by rw [Bool.eq_iff_iff];simp only [decide_eq_true_eq];omega
    rw [e1]
    unfold ykB
    rw [Hf.out])
   clear Hf
   obtain ⟨b1,hb1⟩:∃ b1,decide ((1:Int)<fs.length)=b1:=⟨_,rfl⟩
   rw [hb1] at HXB
   have hways:(off=true∧b1=true)∨(off=true∧b1=false∧ra=true)∨(off=true∧b1=false∧ra=false)∨off=false:=by
    cases off<;>cases b1<;>cases ra<;>simp
   rcases hways with ⟨rfl,rfl⟩|⟨rfl,rfl,rfl⟩|⟨rfl,rfl,rfl⟩|rfl
   case' inr.inr.inl|inr.inr.inr =>
    have hnx:Hid (Keep w W8 [(w.heap.size,#[.string ⟨#[]⟩,.string ⟨#[]⟩,.int .i64 0,.int .i64 0,.int .i64 0,.int .i64 0,.int .i64 0,.int .i64 0,.int .i64 0],24)]∧FacsR W8 BB (.slice (some ⟨g,0,none⟩) fs.length cap) css fs∧(fs.take (k+1)).any (ykB fs.length)=false):=yA ⟨HK8.out,HS8.out,by rw [yph hlt,HTK.out,HXB.out];rfl⟩
    clear HK8 HS8 HBX HTK HXB
    go_wp2_with fail
    go_roundw
    case rel=>exact ⟨k+1,by omega,by go_num,hnx⟩
    case measure=>simp [intOf];omega
   all_goals
    have HD:Hid (ybK fs=(vZ,10)):=yA (by
     unfold ybK
     rw [ymM,yrS hlt (by rw [HXB.out];rfl),if_pos rfl])
    go_wp2_with (refine zO rfl 24 9 (.tmp 2) (.tmp 40) rfl w.heap.size [.string ⟨#[]⟩,.string ⟨#[]⟩,.int .i64 0,.int .i64 0,.int .i64 0,.int .i64 0,.int .i64 0,.int .i64 0,.int .i64 0] rfl rfl HBX.out rfl (by kernel_rfl) (yiC _ _ _ _ _ _ _ _ _) (by simp [Value.oneCell']) ?_)
    intro W9 h9 st9
    have H9:=yA h9
    have HB9:=yA (st9.keep w [] (Nat.le_refl _) (fun x hx=>by cases hx) (HK8.out.sub (fun x hx=>by cases hx))).below
    clear h9 st9
    go_wp2_with fail
    refine bodyPost_ret (v:=.tuple #[.agg #[.string ⟨#[]⟩,.string ⟨#[]⟩,.int .i64 0,.int .i64 0,.int .i64 0,.int .i64 0,.int .i64 0,.int .i64 0,.int .i64 0],.int .i64 10]) (GR Tryz.results6 rfl (vL (cs:=[.string ⟨#[]⟩,.string ⟨#[]⟩,.int .i64 0,.int .i64 0,.int .i64 0,.int .i64 0,.int .i64 0,.int .i64 0,.int .i64 0]) H9.out Tryz.underlying24 rfl (by kernel_rfl))) rfl ?_
    rw [HD.out]
    exact ⟨⟨#[]⟩,⟨#[]⟩,0,0,0,0,0,0,0,rfl,rfl,HB9.out⟩
  ·obtain rfl:k=fs.length:=by omega
   have HNB:Hid (ycV fs=false):=yA (by
    have h:=yI.out.2.2
    rw [List.take_length] at h
    exact h)
   have H1:=yA yI.out
   have HKW:=yA yI.out.1
   clear yI
   by_cases h12:12<fs.length
   ·have h12i:(12:Int)<fs.length:=by omega
    have HD:Hid (ybK fs=(vZ,4)):=yA (by
     unfold ybK
     rw [if_neg (by rw [HNB.out];decide),if_pos h12])
    have HBX:=yA (ycv (HKW.out.one _ (List.mem_cons_self ..)))
    go_wp2_with (refine zO rfl 24 9 (.tmp 2) (.tmp 45) rfl w.heap.size [.string ⟨#[]⟩,.string ⟨#[]⟩,.int .i64 0,.int .i64 0,.int .i64 0,.int .i64 0,.int .i64 0,.int .i64 0,.int .i64 0] rfl rfl HBX.out rfl (by kernel_rfl) (yiC _ _ _ _ _ _ _ _ _) (by simp [Value.oneCell']) ?_)
    intro W9 h9 st9
    have H9:=yA h9
    have HB9:=yA (st9.keep w [] (Nat.le_refl _) (fun x hx=>by cases hx) (HKW.out.sub (fun x hx=>by cases hx))).below
    clear h9 st9
    go_wp2_with fail
    refine bodyPost_ret (v:=.tuple #[.agg #[.string ⟨#[]⟩,.string ⟨#[]⟩,.int .i64 0,.int .i64 0,.int .i64 0,.int .i64 0,.int .i64 0,.int .i64 0,.int .i64 0],.int .i64 4]) (GR Tryz.results6 rfl (vL (cs:=[.string ⟨#[]⟩,.string ⟨#[]⟩,.int .i64 0,.int .i64 0,.int .i64 0,.int .i64 0,.int .i64 0,.int .i64 0,.int .i64 0]) H9.out Tryz.underlying24 rfl (by kernel_rfl))) rfl ?_
    rw [HD.out]
    exact ⟨⟨#[]⟩,⟨#[]⟩,0,0,0,0,0,0,0,rfl,rfl,HB9.out⟩
   ·have h12i:¬ (12:Int)<fs.length:=by omega
    have H2:Hid (Keep w wr [(w.heap.size,#[.string ⟨#[]⟩,.string ⟨#[]⟩,.int .i64 0,.int .i64 0,.int .i64 0,.int .i64 0,.int .i64 0,.int .i64 0,.int .i64 0],24)]∧FacsR wr BB (.slice po fs.length cap) css fs∧(fs.take 0).all (fun x=>zP x.2.e)=true):=yA ⟨H1.out.1,H1.out.2.1,rfl⟩
    clear H1 HKW
    go_wp2_with fail
    go_loopw [48] (fun i wi=>∃ k:Nat,k≤fs.length∧i=.int .i64 (k:Int)∧Hid (Keep w wi [(w.heap.size,#[.string ⟨#[]⟩,.string ⟨#[]⟩,.int .i64 0,.int .i64 0,.int .i64 0,.int .i64 0,.int .i64 0,.int .i64 0,.int .i64 0],24)]∧FacsR wi BB (.slice po fs.length cap) css fs∧(fs.take k).all (fun x=>zP x.2.e)=true)) (fun i _=>fs.length-(intOf i).toNat)
    case atStart=>exact ⟨0,Nat.zero_le _,rfl,H2⟩
    case round =>
     obtain ⟨k,hk,rfl,yI⟩:=hrel
     clear H2
     by_cases hlt:k<fs.length
     ·have yfS:(k:Int)<fs.length:=by omega
      obtain ⟨g,cap',qb,qx,qn,qc,qy,qm,qd,SW,so,sb,pre,a0,a1,a2,a3,a4,a5,a6,off,z,p,isw,ex,ra,hv,hg,hra,hf,hq⟩:=yI.out.2.1.cells hlt
      cases hv
      obtain ⟨d,HDD⟩:∃ d,Hid (fs[k].1=d):=⟨_,yA rfl⟩
      rw [HDD.out] at hra
      have HRA:=yA hra
      have Hf:Hid (fs[k].2.e=ex):=yA (by rw [hf])
      obtain ⟨gb,HGB⟩:∃ gb,Hid (gb=0):=⟨0,yA rfl⟩
      have HBN:Hid (BX 48 21 (wr.alloc (.cells #[.int .i64 0,.bool false,.slice none 0 0,.slice none 0 0,.string ⟨#[]⟩,.int .i64 0,.int .i64 0,.bool false,.int .i64 0,.int .i64 0,.int .i64 0,.int .i64 0,.int .i64 0,.int .i64 0,.int .i64 0,.bool false,.int .i64 0,.int .i64 0,.bool false,.int .i64 0,.bool false] 48)) wr.heap.size):=yA (uT (yV _ _))
      clear hra hf hq
      go_wp2_with (first|(refine wpList_load_mid rfl 48 (.tmp 50) rfl g (k*21) rfl [.int .i64 d,.bool qb,.slice qx qn qc,.slice qy qm qd,.string SW,.int .i64 so,.int .i64 sb,.bool pre,.int .i64 a0,.int .i64 a1,.int .i64 a2,.int .i64 a3,.int .i64 a4,.int .i64 a5,.int .i64 a6,.bool off,.int .i64 z,.int .i64 p,.bool isw,.int .i64 ex,.bool ra] _ HRA.out Tryz.underlying48 rfl (by kernel_rfl) ?_)|(refine zO rfl 48 21 (.tmp 9) (.tmp 51) rfl wr.heap.size [.int .i64 d,.bool qb,.slice qx qn qc,.slice qy qm qd,.string SW,.int .i64 so,.int .i64 sb,.bool pre,.int .i64 a0,.int .i64 a1,.int .i64 a2,.int .i64 a3,.int .i64 a4,.int .i64 a5,.int .i64 a6,.bool off,.int .i64 z,.int .i64 p,.bool isw,.int .i64 ex,.bool ra] rfl rfl HBN.out rfl (by kernel_rfl) (GC _ _ _ _ _ _ _ _ _ _ _ _ _ _ _ _ _ _ _ _ _ _ _ _ _) (by simp [Value.oneCell']) ?_))
      intro W8 h8 st8
      have HK8:=yA (st8.keep w [(w.heap.size,#[.string ⟨#[]⟩,.string ⟨#[]⟩,.int .i64 0,.int .i64 0,.int .i64 0,.int .i64 0,.int .i64 0,.int .i64 0,.int .i64 0],24)] yI.out.1.below.size (fun x hx=>by
       rw [List.mem_singleton.1 hx]
       have:=(yI.out.1.lt (x:=(w.heap.size,#[.string ⟨#[]⟩,.string ⟨#[]⟩,.int .i64 0,.int .i64 0,.int .i64 0,.int .i64 0,.int .i64 0,.int .i64 0,.int .i64 0],24)) (List.mem_cons_self ..))
       dsimp only at this ⊢;omega) (yI.out.1.next (zK wr (.cells #[.int .i64 0,.bool false,.slice none 0 0,.slice none 0 0,.string ⟨#[]⟩,.int .i64 0,.int .i64 0,.bool false,.int .i64 0,.int .i64 0,.int .i64 0,.int .i64 0,.int .i64 0,.int .i64 0,.int .i64 0,.bool false,.int .i64 0,.int .i64 0,.bool false,.int .i64 0,.bool false] 48))))
      have HS8:=yA (yI.out.2.1.below (st8.keep wr [] (Nat.le_refl _) (fun x hx=>by cases hx) ⟨zK _ _,fun x hx=>by cases hx⟩).below)
      have HBX:=yA (ycv (HK8.out.one _ (List.mem_cons_self ..)))
      have c19:=yB h8 19
      simp only [List.getElem?_toArray,List.getElem?_cons_succ,List.getElem?_cons_zero] at c19
      have HTK:=yA yI.out.2.2
      have HWI:=yA (yfo ex)
      obtain ⟨pw,HPW⟩:∃ b,Hid (zP ex=b):=⟨_,yA rfl⟩
      rw [HPW.out] at HWI
      clear h8 st8 yI HRA HBN
      go_wp2_with fail
      refine (HWI.out _).mono ?_
      rintro e w' ⟨rfl,rfl⟩
      cases pw with
      | true =>
       have hnx:Hid (Keep w W8 [(w.heap.size,#[.string ⟨#[]⟩,.string ⟨#[]⟩,.int .i64 0,.int .i64 0,.int .i64 0,.int .i64 0,.int .i64 0,.int .i64 0,.int .i64 0],24)]∧FacsR W8 BB (.slice (some ⟨g,0,none⟩) fs.length cap) css fs∧(fs.take (k+1)).all (fun x=>zP x.2.e)=true):=yA ⟨HK8.out,HS8.out,by
        rw [List.take_succ_eq_append_getElem hlt,List.all_append,HTK.out,List.all_cons,Hf.out,HPW.out];rfl⟩
       clear HK8 HS8 HBX HTK
       go_wp2_with fail
       go_roundw
       case rel=>exact ⟨k+1,by omega,by go_num,hnx⟩
       case measure=>simp [intOf];omega
      | false =>
       have HD:Hid (ybK fs=(vZ,4)):=yA (by
        unfold ybK
        rw [if_neg (by rw [HNB.out];decide),if_neg (by omega),if_pos]
        rw [List.all_eq_false]
        exact ⟨_,List.getElem_mem hlt,by rw [Hf.out,HPW.out];decide⟩)
       go_wp2_with (refine zO rfl 24 9 (.tmp 2) (.tmp 56) rfl w.heap.size [.string ⟨#[]⟩,.string ⟨#[]⟩,.int .i64 0,.int .i64 0,.int .i64 0,.int .i64 0,.int .i64 0,.int .i64 0,.int .i64 0] rfl rfl HBX.out rfl (by kernel_rfl) (yiC _ _ _ _ _ _ _ _ _) (by simp [Value.oneCell']) ?_)
       intro W9 h9 st9
       have H9:=yA h9
       have HB9:=yA (st9.keep w [] (Nat.le_refl _) (fun x hx=>by cases hx) (HK8.out.sub (fun x hx=>by cases hx))).below
       clear h9 st9
       go_wp2_with fail
       refine bodyPost_ret (v:=.tuple #[.agg #[.string ⟨#[]⟩,.string ⟨#[]⟩,.int .i64 0,.int .i64 0,.int .i64 0,.int .i64 0,.int .i64 0,.int .i64 0,.int .i64 0],.int .i64 4]) (GR Tryz.results6 rfl (vL (cs:=[.string ⟨#[]⟩,.string ⟨#[]⟩,.int .i64 0,.int .i64 0,.int .i64 0,.int .i64 0,.int .i64 0,.int .i64 0,.int .i64 0]) H9.out Tryz.underlying24 rfl (by kernel_rfl))) rfl ?_
       rw [HD.out]
       exact ⟨⟨#[]⟩,⟨#[]⟩,0,0,0,0,0,0,0,rfl,rfl,HB9.out⟩
     ·obtain rfl:k=fs.length:=by omega
      have HAP:Hid (fs.all (fun x=>zP x.2.e)=true):=yA (by
       have h:=yI.out.2.2
       rw [List.take_length] at h
       exact h)
      have HD:Hid (ybK fs=yc0 (jV 1 jG fs).1 (GU 0 fs) (jV 1 jG fs).2):=yA (by
       unfold ybK
       rw [if_neg (by rw [HNB.out];decide),if_neg (by omega),if_neg (by rw [HAP.out];decide)])
      have HC:=yA (H18.out _ _ _ _ yI.out.2.1 (by omega) HAP.out)
      have HKI:=yA yI.out.1
      clear yI
      go_wp2_with fail
      refine (HC.out).mono ?_
      rintro e w5 ⟨b1,x1,n1,c1,y1,m1,d1,b2,x2,n2,c2,y2,m2,d2,p0,p1,p2,p3,p4,p5,p6,rfl,hps,hq1,hq2,hb5⟩
      have HG:=yA (yqB _ _ 745 (by omega) (HL1.out HAP.out (by omega)) HL2.out p0 p1 p2 p3 p4 p5 p6 w5 b1 x1 n1 c1 y1 m1 d1 b2 x2 n2 c2 y2 m2 d2 hq1 hq2)
      rw [hps,← HD.out] at HG
      have HK5:=yA (HKI.out.next hb5)
      clear hq1 hq2 hb5 hps
      go_wp2_with fail
      refine (HG.out).mono ?_
      rintro e w6 ⟨f,o,r0,r1,r2,r3,r4,r5,r6,rfl,hu,hb6⟩
      have HU:=yA hu
      have HK6:=yA (HK5.out.next hb6)
      have HBX:=yA (ycv (HK6.out.one _ (List.mem_cons_self ..)))
      obtain ⟨code,HCO⟩:∃ c,Hid ((ybK fs).2=c):=⟨_,yA rfl⟩
      rw [HCO.out]
      clear hu hb6
      go_wp2_with (refine zO rfl 24 9 (.tmp 2) (.tmp 61) rfl w.heap.size [.string f,.string o,.int .i64 r0,.int .i64 r1,.int .i64 r2,.int .i64 r3,.int .i64 r4,.int .i64 r5,.int .i64 r6] rfl rfl HBX.out rfl (by kernel_rfl) (yiC _ _ _ _ _ _ _ _ _) (by simp [Value.oneCell']) ?_)
      intro W9 h9 st9
      have H9:=yA h9
      have HB9:=yA (st9.keep w [] (Nat.le_refl _) (fun x hx=>by cases hx) (HK6.out.sub (fun x hx=>by cases hx))).below
      clear h9 st9
      go_wp2_with fail
      refine bodyPost_ret (v:=.tuple #[.agg #[.string f,.string o,.int .i64 r0,.int .i64 r1,.int .i64 r2,.int .i64 r3,.int .i64 r4,.int .i64 r5,.int .i64 r6],.int .i64 code]) (GR Tryz.results6 rfl (vL (cs:=[.string f,.string o,.int .i64 r0,.int .i64 r1,.int .i64 r2,.int .i64 r3,.int .i64 r4,.int .i64 r5,.int .i64 r6]) H9.out Tryz.underlying24 rfl (by kernel_rfl))) rfl ?_
      exact ⟨f,o,r0,r1,r2,r3,r4,r5,r6,by rw [HCO.out],HU.out,HB9.out⟩
theorem GW {n d:Nat} (hn:0<n) (hd:0<d):0<zD false n d:=by
 have h1:=yl6 n d
 have h2:zD false n d≠0:=by
  intro h
  have e:(n:Rat)/(d:Rat)=0:=h
  have hd0:(d:Rat)≠0:=by exact_mod_cast (by omega:d≠0)
  have hn0:(n:Rat)≠0:=by exact_mod_cast (by omega:n≠0)
  rw [Rat.div_def] at e
  rcases Rat.mul_eq_zero.1 e with h|h
  ·exact hn0 h
  ·have h3:=Rat.mul_inv_cancel _ hd0
   rw [h,Rat.mul_zero] at h3
   exact absurd h3 (by decide)
 grind
theorem yl8 {s:SymR} (hs:s ∈ zW):0<(s.o:Rat)/(s.b:Rat):=by
 obtain ⟨-,h1,h2,h3,h4,-⟩:=ydv s hs
 obtain ⟨o,ho⟩:=Int.eq_ofNat_of_zero_le (show 0≤s.o by omega)
 obtain ⟨b,hb⟩:=Int.eq_ofNat_of_zero_le (show 0≤s.b by omega)
 rw [ho,hb]
 exact GW (n:=o) (d:=b) (by omega) (by omega)
theorem yqC {c:UInt8} (h:(jD c).isEmpty=false):0<yO (jD c):=by
 revert h
 unfold jD
 repeat' split
 ·intro _;exact GW (n:=1) (d:=1000000000) (by omega) (by omega)
 ·intro _;exact GW (n:=1) (d:=1000000) (by omega) (by omega)
 ·intro _;exact GW (n:=1) (d:=1000) (by omega) (by omega)
 ·intro _;exact GW (n:=1) (d:=100) (by omega) (by omega)
 ·intro _;exact GW (n:=1) (d:=10) (by omega) (by omega)
 ·intro _;exact GW (n:=100) (d:=1) (by omega) (by omega)
 ·intro _;exact GW (n:=1000) (d:=1) (by omega) (by omega)
 ·intro _;exact GW (n:=1000000) (d:=1) (by omega) (by omega)
 ·intro _;exact GW (n:=1000000000) (d:=1) (by omega) (by omega)
 ·intro h;cases h
theorem ypi {l:List UInt8} {s:SymR} {q:Rat} (h:jU l=some (s,q)):0<q:=by
 unfold jU at h
 cases h1:zW.find? (fun s=>s.w==l) with
 | some x =>
  rw [h1] at h
  simp only [Option.some.injEq,Prod.mk.injEq] at h
  obtain ⟨rfl,rfl⟩:=h
  exact yl8 (List.mem_of_find?_eq_some h1)
 | none =>
  rw [h1] at h
  cases l with
  | nil=>cases h
  | cons c t =>
   simp only at h
   cases hp:(jD c).isEmpty with
   | true=>rw [hp,if_pos rfl] at h;cases h
   | false =>
    rw [hp,if_neg (by decide)] at h
    cases h2:zW.find? (fun s=>s.pre&&s.w==t) with
    | none=>rw [h2] at h;cases h
    | some x =>
     rw [h2] at h
     simp only [Option.some.injEq,Prod.mk.injEq] at h
     obtain ⟨rfl,rfl⟩:=h
     exact Rat.mul_pos (yqC hp) (yl8 (List.mem_of_find?_eq_some h2))
theorem ypj {l:List UInt8} {f:FacR} {n:Nat} (h:uL l=some (f,n)):0<f.q:=by
 unfold uL at h
 split at h
 ·unfold yb8 at h
  split at h
  ·rename_i hc
   cases h
   rw [Bool.and_eq_true] at hc
   exact of_decide_eq_true hc.2
  ·cases h
 ·cases hf:jU (l.take (zG l)) with
  | none=>rw [yaD hf] at h;cases h
  | some x =>
   obtain ⟨s,q⟩:=x
   have hq:=ypi hf
   by_cases h94:∃ t,l.drop (zG l)=94::t
   ·obtain ⟨t,ht⟩:=h94
    rw [yaj hf ht,Option.map_eq_some_iff] at h
    obtain ⟨p,-,hy⟩:=h
    cases hy
    exact hq
   ·rw [GQ hf (fun t ht=>h94 ⟨t,ht⟩)] at h
    cases h
    exact hq
theorem yjB:∀ (F:Nat) (l:List UInt8) (dir:Int) (acc fs:List (Int × FacR)),(∀ x ∈ acc,0<x.2.q)→zB l dir acc F=some fs→∀ x ∈ fs,0<x.2.q:=by
 intro F
 induction F with
 | zero=>intro l dir acc fs _ h;cases h
 | succ F ih =>
  intro l dir acc fs ha h
  unfold zB at h
  split at h
  ·cases h
  ·rename_i f n hf
   have ha2:∀ x ∈ acc++[(dir,f)],0<x.2.q:=by
    intro x hx
    rcases List.mem_append.1 hx with hx|hx
    ·exact ha x hx
    ·rw [List.mem_singleton.1 hx];exact ypj hf
   split at h
   ·cases h;exact ha2
   ·split at h
    ·exact ih _ _ _ _ ha2 h
    ·exact ih _ _ _ _ ha2 h
    ·cases h
theorem ymN:∀ (fs:List (Int × FacR)) (q:Rat) (ps:List Int),0<q→(∀ x ∈ fs,0<x.2.q)→0<(jV q ps fs).1:=by
 intro fs
 induction fs with
 | nil=>intro q ps h _;exact h
 | cons x fs ih =>
  intro q ps h h1
  exact ih _ _ (Rat.mul_pos h (Rat.zpow_pos (h1 x (List.mem_cons_self ..)))) (fun y hy=>h1 y (List.mem_cons_of_mem _ hy))
theorem yk3 {l:List UInt8} {u:UnitT} (h:yad l=(u,0)):ydH u=true:=by
 rw [← yox] at h
 unfold ybL at h
 split at h
 ·cases h
 ·split at h
  ·cases h
  ·rename_i fs hfs
   have hp:=yjB _ _ _ _ _ (fun x hx=>by cases hx) hfs
   unfold ybK at h
   split at h
   ·cases h
   ·split at h
    ·cases h
    ·split at h
     ·cases h
     ·unfold yc0 at h
      split at h
      ·cases h
      ·rename_i hc
       simp only [not_or,Bool.not_eq_false] at hc
       cases h
       have hq:=ymN fs 1 jG (by decide) hp
       rw [ykM]
       have e:=ybT hc.1
       have e2:yiE (uB (jV 1 jG fs).1)=(jV 1 jG fs).1:=by unfold yiE;rw [e];rfl
       exact ⟨by rw [e2];exact e,by rw [e2];exact hq,by rw [ybT hc.2.2];rfl,hc.2.1⟩
section
theorem ymO (s:ByteArray) (w:World) (htab:Tab w) (H6:Hid (∀ W,Below w.heap.size w W→Calls Tryz.prog 6 #[.string s] W (zS (yad s.data.toList) W))):Calls Tryz.prog 3 #[.string s] w fun e w'=>e=.returned (.bool true)∧Below w.heap.size w w':=by
 have Htab:=yA htab
 clear htab
 obtain ⟨⟨u,z⟩,HU⟩:∃ t,Hid (yad s.data.toList=t):=⟨_,yA rfl⟩
 have H5:Hid (∀ W,Below w.heap.size w W→Calls Tryz.prog 5 #[.string s] W (zS (u,z) W)):=yA (fun W hW=>by
  have h:=yc5 s W (Htab.out.below hW)
  rwa [HU.out] at h)
 have H6:Hid (∀ W,Below w.heap.size w W→Calls Tryz.prog 6 #[.string s] W (zS (u,z) W)):=yA (fun W hW=>by
  have h:=H6.out W hW
  rwa [HU.out] at h)
 have HV:Hid (z=0→ydH u=true):=yA (fun h=>yk3 (l:=s.data.toList) (by rw [HU.out,h]))
 have H8:Hid (∀ W,Below w.heap.size w W→Calls Tryz.prog 8 #[] W fun e w'=>e=.returned (.bool true)∧Below W.heap.size W w'):=yA (fun W hW=>ymy W (Htab.out.below hW))
 have HB0:Hid (Below w.heap.size w w):=yA (Below.refl _ _)
 clear HU
 go_enter Tryz.func3,Tryz.ntmps3
 go_wp2_with fail
 refine (H5.out _ HB0.out).mono ?_
 rintro e w1 ⟨f,o,p0,p1,p2,p3,p4,p5,p6,rfl,hu,hb1⟩
 have HU1:=yA hu
 have HK1:=yA (((Keep.nil w).next hb1).more #[.string f,.string o,.int .i64 p0,.int .i64 p1,.int .i64 p2,.int .i64 p3,.int .i64 p4,.int .i64 p5,.int .i64 p6] 24)
 clear hu hb1
 go_wp2_with fail
 refine (H6.out _ HK1.out.below).mono ?_
 rintro e w2 ⟨f2,o2,r0,r1,r2,r3,r4,r5,r6,rfl,hu,hb2⟩
 rw [← HU1.out] at hu
 unfold tU at hu
 simp only [UnitT.mk.injEq,List.cons.injEq,and_true] at hu
 obtain ⟨e1,e2,rfl,rfl,rfl,rfl,rfl,rfl,rfl⟩:=hu
 obtain rfl:f2=f:=by apply ByteArray.ext;exact Array.toList_inj.1 e1
 obtain rfl:o2=o:=by apply ByteArray.ext;exact Array.toList_inj.1 e2
 have HK2:=yA ((HK1.out.next hb2).more #[.string f2,.string o2,.int .i64 r0,.int .i64 r1,.int .i64 r2,.int .i64 r3,.int .i64 r4,.int .i64 r5,.int .i64 r6] 24)
 have H7:Hid (z=0→∀ W,Below w.heap.size w W→Calls Tryz.prog 7 #[.agg #[.string f2,.string o2,.int .i64 r0,.int .i64 r1,.int .i64 r2,.int .i64 r3,.int .i64 r4,.int .i64 r5,.int .i64 r6]] W fun e w'=>e=.returned (.bool true)∧Below W.heap.size W w'):=yA (fun hz W hW=>by
  have h:=ygx f2 o2 r0 r1 r2 r3 r4 r5 r6 W (Htab.out.below hW)
  rwa [HU1.out,HV.out hz] at h)
 clear e1 e2 hb2
 have hc:=HK2.out.one _ (List.mem_cons_of_mem _ (List.mem_cons_self ..))
 have k0:=yB hc 0
 have k1:=yB hc 1
 have k2:=yB hc 2
 have k3:=yB hc 3
 have k4:=yB hc 4
 have k5:=yB hc 5
 have k6:=yB hc 6
 have k7:=yB hc 7
 have k8:=yB hc 8
 clear hc
 have hc:=HK2.out.one _ (List.mem_cons_self ..)
 have j0:=yB hc 0
 have j1:=yB hc 1
 have j2:=yB hc 2
 have j3:=yB hc 3
 have j4:=yB hc 4
 have j5:=yB hc 5
 have j6:=yB hc 6
 have j7:=yB hc 7
 have j8:=yB hc 8
 clear hc
 have HP9:=yA (yl3 r0 r1 r2 r3 r4 r5 r6 r0 r1 r2 r3 r4 r5 r6)
 have hq:=HP9.out
 try rw [decide_eq_true rfl] at hq
 have hzz:(z==z)=true:=beq_self_eq_true _
 by_cases hz:z=0
 ·have H7':=yA (H7.out hz)
  subst hz
  go_wp2_with fail
  refine (H7'.out _ HK2.out.below).mono ?_
  rintro e w4 ⟨rfl,hb4⟩
  have HB4:=yA (HK2.out.below.trans (hb4.mono HK2.out.below.size))
  clear hb4
  go_wp2_with fail
  refine (H8.out _ HB4.out).mono ?_
  rintro e w9 ⟨rfl,hb9⟩
  have HB9:=yA (HB4.out.trans (hb9.mono HB4.out.size))
  clear hb9
  go_wp2_with fail
  go_ret
  exact ⟨rfl,HB9.out⟩
 ·have hz0:(z != 0)=true:=by rw [bne_iff_ne];exact hz
  go_wp2_with fail
  refine (H8.out _ HK2.out.below).mono ?_
  rintro e w9 ⟨rfl,hb9⟩
  have HB9:=yA (HK2.out.below.trans (hb9.mono HK2.out.below.size))
  clear hb9
  go_wp2_with fail
  go_ret
  exact ⟨rfl,HB9.out⟩
theorem yqD:∀ (fs:List (Int × FacR)) (o:Rat),uK 745 o→(∀ x ∈ fs,ycZ x.2.s)→uK 745 (GU o fs):=by
 intro fs
 induction fs with
 | nil=>intro o h _;exact h
 | cons x fs ih =>
  intro o h h1
  have hk:∀ z:Int,-1000000000≤z∧z≤1000000000→uK 2 (z:Rat):=fun z h=>⟨by rw [Rat.num_intCast,zN];omega,by rw [Rat.den_intCast,zN];omega⟩
  obtain ⟨-,-,hz,hp⟩:=h1 x (List.mem_cons_self ..)
  refine ih _ ?_ (fun y hy=>h1 y (List.mem_cons_of_mem _ hy))
  split
  ·exact ((hk _ hz).quo (hk _ hp)).mono (by omega)
  ·exact h
def ynC (fs:List (Int × FacR)):Prop:=(∀ x ∈ fs,uK 5 x.2.q∧ycZ x.2.s)∧(∀ x ∈ fs,x.1=1∨x.1=-1)
theorem ymP (s:ByteArray) (w:World) (H18:Hid (∀ fs W base v css,ynC fs→FacsR W base v css fs→fs.length≤12→fs.all (fun x=>zP x.2.e)=true→Calls Tryz.prog 18 #[v] W (yhc (jV 1 jG fs).1 (GU 0 fs) (jV 1 jG fs).2 W))):Calls Tryz.prog 6 #[.string s] w (zS (yad s.data.toList) w):=by
 rw [← yox]
 by_cases hs:(1000:Int)<s.size
 ·exact yk0 s w hs
 ·have hs':(s.size:Int)≤1000:=by omega
  have H15:Hid (∀ W,Calls Tryz.prog 15 #[.string s] W (ycL (zB s.data.toList 1 [] (s.size+1)) W)):=yA (fun W=>yjy s W hs' (yA fun t W ht=>ypg t W ht))
  cases hf:zB s.data.toList 1 [] (s.size+1) with
  | none=>exact yk1 s w hs' (yA hf) H15
  | some fs =>
   have e:s.data.toList.length=s.size:=by simp
   have hok:ynC fs:=⟨ykT _ _ _ _ _ (fun x hx=>by cases hx) hf,yei _ _ _ _ _ (.inl rfl) (fun x hx=>by cases hx) hf⟩
   have hd:ybL s.data.toList=ybK fs:=by
    unfold ybL;rw [if_neg (by omega),e,hf]
   rw [hd]
   refine yk2 s w hs' fs (yA hf) H15 (yA fun W base v css h1 h2 h3=>H18.out fs W base v css hok h1 h2 h3) (yA fun h1 h2=>?_) (yA (yqD fs 0 (ypT.mono (by omega)) (fun x hx=>(hok.1 x hx).2)))
   exact (yiQ fs 1 jG 1 ydl (fun x hx=>(hok.1 x hx).1) hok.2 (fun x hx=>List.all_eq_true.1 h1 x hx)).mono (by omega)
theorem ypk (s:ByteArray) (w:World) (htab:Tab w) (H18:Hid (∀ fs W base v css,ynC fs→FacsR W base v css fs→fs.length≤12→fs.all (fun x=>zP x.2.e)=true→Calls Tryz.prog 18 #[v] W (yhc (jV 1 jG fs).1 (GU 0 fs) (jV 1 jG fs).2 W))):Calls Tryz.prog 3 #[.string s] w fun e w'=>e=.returned (.bool true)∧Below w.heap.size w w' :=
 ymO s w htab (yA fun W _=>ymP s W H18)
theorem yk4:∀ (fs:List (Int × FacR)) (x:Int × FacR) (q:Rat) (ps:List Int),jV q ps (fs++[x])=((jV q ps fs).1*x.2.q^(x.1*x.2.e),List.zipWith (fun p r=>p+r*(x.1*x.2.e)) (jV q ps fs).2 x.2.s.ps):=by
 intro fs
 induction fs with
 | nil=>intro x q ps;rfl
 | cons y fs ih=>intro x q ps;exact ih x _ _
theorem ymQ:∀ (fs:List (Int × FacR)) (x:Int × FacR) (o:Rat),GU o (fs++[x])=if x.2.s.off then (x.2.s.z:Rat)/(x.2.s.p:Rat) else GU o fs:=by
 intro fs
 induction fs with
 | nil=>intro x o;rfl
 | cons y fs ih=>intro x o;exact ih x _
def ykC (k:Nat) (ps:List Int):Prop:=ps.length=7∧∀ p ∈ ps,-(144*(k:Int))≤p∧p≤144*(k:Int)
theorem yoz {r n:Int} (hr:-12≤r∧r≤12) (hn:-12≤n∧n≤12):-144≤r*n∧r*n≤144:=by
 have h:=(ypU (u:=0) (v:=r) (n:=n) (by omega) hr hn)
 have hc:r=-12∨r=-11∨r=-10∨r=-9∨r=-8∨r=-7∨r=-6∨r=-5∨r=-4∨r=-3∨r=-2∨r=-1∨r=0∨r=1∨r=2∨r=3∨r=4∨r=5∨r=6∨r=7∨r=8∨r=9∨r=10∨r=11∨r=12:=by omega
 clear h
 rcases hc with rfl|rfl|rfl|rfl|rfl|rfl|rfl|rfl|rfl|rfl|rfl|rfl|rfl|rfl|rfl|rfl|rfl|rfl|rfl|rfl|rfl|rfl|rfl|rfl|rfl<;>omega
theorem ykC.more {k:Nat} {ps:List Int} (h:ykC k ps) {rs:List Int} (hr:rs.length=7∧uP rs=true) {n:Int} (hn:-12≤n∧n≤12):ykC (k+1) (List.zipWith (fun p r=>p+r*n) ps rs):=by
 refine ⟨by rw [List.length_zipWith,h.1,hr.1];rfl,?_⟩
 intro x hx
 obtain ⟨i,hi,rfl⟩:=List.getElem_of_mem hx
 rw [List.length_zipWith,h.1,hr.1] at hi
 rw [List.getElem_zipWith]
 have h1:=h.2 _ (List.getElem_mem (by rw [h.1];simpa using hi:i<ps.length))
 have h2:=ydu (List.all_eq_true.1 hr.2 _ (List.getElem_mem (by rw [hr.1];simpa using hi:i<rs.length)))
 have h3:=yoz h2 hn
 omega
theorem yiR {x:Int × FacR} (hd:x.1=1∨x.1=-1) (hp:zP x.2.e=true):-12≤x.1*x.2.e∧x.1*x.2.e≤12:=by
 rw [← ydR hd,Int.mul_comm] at hp
 exact ydu hp
theorem yqE:∀ (fs:List (Int × FacR)) (k:Nat) (q:Rat) (ps:List Int),ykC k ps→ynC fs→fs.all (fun x=>zP x.2.e)=true→ykC (k+fs.length) (jV q ps fs).2:=by
 intro fs
 induction fs with
 | nil=>intro k q ps h _ _;exact h
 | cons x fs ih =>
  intro k q ps h hf hp
  rw [List.all_cons,Bool.and_eq_true] at hp
  obtain ⟨-,h1,h2,-⟩:=hf.1 x (List.mem_cons_self ..)
  have h3:=ih (k+1) (q*x.2.q^(x.1*x.2.e)) _ (h.more ⟨h1,h2⟩ (yiR (hf.2 x (List.mem_cons_self ..)) hp.1)) ⟨fun y hy=>hf.1 y (List.mem_cons_of_mem _ hy),fun y hy=>hf.2 y (List.mem_cons_of_mem _ hy)⟩ hp.2
  have e:k+1+fs.length=k+(x::fs).length:=by rw [List.length_cons];omega
  rw [← e]
  exact h3
def ckc (b1:Bool) (x1:Option Addr) (n1 c1:Nat) (y1:Option Addr) (m1 d1:Nat) (b2:Bool) (x2:Option Addr) (n2 c2:Nat) (y2:Option Addr) (m2 d2:Nat) (u0 u1 u2 u3 u4 u5 u6 v0 v1 v2 v3 v4 v5 v6 n:Int) (k:Nat):Array Value:=#[.bool b1,.slice x1 n1 c1,.slice y1 m1 d1,.bool b2,.slice x2 n2 c2,.slice y2 m2 d2,.int .i64 (if 0<k then u0+v0*n else u0),.int .i64 (if 1<k then u1+v1*n else u1),.int .i64 (if 2<k then u2+v2*n else u2),.int .i64 (if 3<k then u3+v3*n else u3),.int .i64 (if 4<k then u4+v4*n else u4),.int .i64 (if 5<k then u5+v5*n else u5),.int .i64 (if 6<k then u6+v6*n else u6)]
section
variable {b1 : Bool} {x1 : Option Addr} {n1 c1 : Nat} {y1 : Option Addr} {m1 d1 : Nat} {b2 : Bool} {x2 : Option Addr} {n2 c2 : Nat} {y2 : Option Addr} {m2 d2 : Nat} {u0 u1 u2 u3 u4 u5 u6 v0 v1 v2 v3 v4 v5 v6 n : Int}
theorem yqF (k:Nat) (hk:k<7):(ckc b1 x1 n1 c1 y1 m1 d1 b2 x2 n2 c2 y2 m2 d2 u0 u1 u2 u3 u4 u5 u6 v0 v1 v2 v3 v4 v5 v6 n k)[6+k]?=some (.int .i64 ([u0,u1,u2,u3,u4,u5,u6].getD k 0)):=by
 rcases (show k=0∨k=1∨k=2∨k=3∨k=4∨k=5∨k=6 by omega) with rfl|rfl|rfl|rfl|rfl|rfl|rfl<;>rfl
theorem yqG (k:Nat) (hk:k<7):(ckc b1 x1 n1 c1 y1 m1 d1 b2 x2 n2 c2 y2 m2 d2 u0 u1 u2 u3 u4 u5 u6 v0 v1 v2 v3 v4 v5 v6 n k).setIfInBounds (6+k) (.int .i64 ([u0,u1,u2,u3,u4,u5,u6].getD k 0+[v0,v1,v2,v3,v4,v5,v6].getD k 0*n))=ckc b1 x1 n1 c1 y1 m1 d1 b2 x2 n2 c2 y2 m2 d2 u0 u1 u2 u3 u4 u5 u6 v0 v1 v2 v3 v4 v5 v6 n (k+1):=by
 rcases (show k=0∨k=1∨k=2∨k=3∨k=4∨k=5∨k=6 by omega) with rfl|rfl|rfl|rfl|rfl|rfl|rfl<;>rfl
theorem ymR:ckc b1 x1 n1 c1 y1 m1 d1 b2 x2 n2 c2 y2 m2 d2 u0 u1 u2 u3 u4 u5 u6 v0 v1 v2 v3 v4 v5 v6 n 7=#[.bool b1,.slice x1 n1 c1,.slice y1 m1 d1,.bool b2,.slice x2 n2 c2,.slice y2 m2 d2,.int .i64 (u0+v0*n),.int .i64 (u1+v1*n),.int .i64 (u2+v2*n),.int .i64 (u3+v3*n),.int .i64 (u4+v4*n),.int .i64 (u5+v5*n),.int .i64 (u6+v6*n)]:=rfl
end
theorem yex (b1:Bool) (x1:Option Addr) (n1 c1:Nat) (y1:Option Addr) (m1 d1:Nat) (b2:Bool) (x2:Option Addr) (n2 c2:Nat) (y2:Option Addr) (m2 d2:Nat) (p0 p1 p2 p3 p4 p5 p6:Int):∀ v ∈ ([.bool b1,.slice x1 n1 c1,.slice y1 m1 d1,.bool b2,.slice x2 n2 c2,.slice y2 m2 d2,.int .i64 p0,.int .i64 p1,.int .i64 p2,.int .i64 p3,.int .i64 p4,.int .i64 p5,.int .i64 p6]:List Value),vP v:=by
 intro v hv
 simp only [List.mem_cons,List.not_mem_nil,or_false] at hv
 rcases hv with rfl|rfl|rfl|rfl|rfl|rfl|rfl|rfl|rfl|rfl|rfl|rfl|rfl
 ·exact jI _
 ·exact zA _ _ _
 ·exact zA _ _ _
 ·exact jI _
 ·exact zA _ _ _
 ·exact zA _ _ _
 all_goals exact yD _
theorem yrh {b1:Bool} {x1:Option Addr} {n1 c1:Nat} {y1:Option Addr} {m1 d1:Nat}:∀ v ∈ ([.bool b1,.slice x1 n1 c1,.slice y1 m1 d1]:List Value),vP v:=by
 intro v hv
 simp only [List.mem_cons,List.not_mem_nil,or_false] at hv
 rcases hv with rfl|rfl|rfl
 ·exact jI _
 ·exact zA _ _ _
 ·exact zA _ _ _
theorem yij {W:World} {g T n:Nat} {cs:List Value} (h:W.heap[g]?=some (.cells cs.toArray T (0,0))) (hl:cs.length=n) (hv:∀ v ∈ cs,vP v):BX T n W g :=
 ⟨_,h,by simpa using hl,fun j v hj=>hv v (List.mem_of_getElem? (i:=j) (by simpa using hj))⟩
theorem yrT {W:World} {g:Nat} {b1:Bool} {x1:Option Addr} {n1 c1:Nat} {y1:Option Addr} {m1 d1:Nat} {b2:Bool} {x2:Option Addr} {n2 c2:Nat} {y2:Option Addr} {m2 d2:Nat} {u0 u1 u2 u3 u4 u5 u6 v0 v1 v2 v3 v4 v5 v6 n:Int} {k:Nat} (h:W.heap[g]?=some (.cells (ckc b1 x1 n1 c1 y1 m1 d1 b2 x2 n2 c2 y2 m2 d2 u0 u1 u2 u3 u4 u5 u6 v0 v1 v2 v3 v4 v5 v6 n k) 52 (0,0))):BX 52 13 W g :=
 yij (cs:=[.bool b1,.slice x1 n1 c1,.slice y1 m1 d1,.bool b2,.slice x2 n2 c2,.slice y2 m2 d2,.int .i64 (if 0<k then u0+v0*n else u0),.int .i64 (if 1<k then u1+v1*n else u1),.int .i64 (if 2<k then u2+v2*n else u2),.int .i64 (if 3<k then u3+v3*n else u3),.int .i64 (if 4<k then u4+v4*n else u4),.int .i64 (if 5<k then u5+v5*n else u5),.int .i64 (if 6<k then u6+v6*n else u6)]) h rfl (yex _ _ _ _ _ _ _ _ _ _ _ _ _ _ _ _ _ _ _ _ _)
theorem yhq {w W:World} {g k T n:Nat} {c c':Array Value} {L:List Blk} (vs:List Value) (hk:Keep w W ((g,c,T)::L)) (hb:BX T n W g) (hw:w.heap.size≤g) (hne:∀ x ∈ L,x.1≠g) (hv:∀ v ∈ vs,vP v) (hc:ykA c k vs=c'):Keep w (ya0 W g k vs) ((g,c',T)::L)∧St T n g W (ya0 W g k vs):=by
 have st:St T n g W (ya0 W g k vs):=St.go vs k W (St.refl hb) hv
 have h1:=st.keep w L hw hne (hk.sub fun x hx=>List.mem_cons_of_mem _ hx)
 refine ⟨⟨h1.below,fun x hx=>?_⟩,st⟩
 rcases List.mem_cons.1 hx with rfl|hx
 ·rw [← hc];exact yeh vs k W c (hk.one _ (List.mem_cons_self ..))
 ·exact h1.all x hx
theorem yhE {fn:Func} {tmps:Array Value} {W:World} {B T a:Nat} {cs:Array Value} (hr:fn.results=#[.cell a T]) (ha:tmps.getD a undef=.pointer (some ⟨B,0,none⟩)) (hl:(loadVar T ⟨B,0,none⟩).run Tryz.prog W=.ok (.agg cs) W):(results fn tmps).run Tryz.prog W=.ok (.agg cs) W:=by
 unfold results
 rw [hr]
 have ha2:tmps[a]?.getD undef=.pointer (some ⟨B,0,none⟩):=by simpa using ha
 simp [Array.mapM_eq_mapM_toList,ha2,asAddr,hl]
theorem ypl {k:Nat} {us vs:List Int} {n:Int} (hu:ykC k us) (hk:k≤12) (hv:vs.length=7∧uP vs=true) (hn:-12≤n∧n≤12) (j:Nat) (hj:j<7):IntKind.i64.wrap (vs.getD j 0*n)=vs.getD j 0*n∧IntKind.i64.wrap (us.getD j 0+vs.getD j 0*n)=us.getD j 0+vs.getD j 0*n:=by
 have e1:us.getD j 0=us[j]'(by rw [hu.1];exact hj):=by rw [List.getD_eq_getElem?_getD,List.getElem?_eq_getElem (by rw [hu.1];exact hj)];rfl
 have e2:vs.getD j 0=vs[j]'(by rw [hv.1];exact hj):=by rw [List.getD_eq_getElem?_getD,List.getElem?_eq_getElem (by rw [hv.1];exact hj)];rfl
 have h1:=hu.2 _ (List.getElem_mem (by rw [hu.1];exact hj:j<us.length))
 have h2:=ydu (List.all_eq_true.1 hv.2 _ (List.getElem_mem (by rw [hv.1];exact hj:j<vs.length)))
 have h3:=yoz h2 hn
 rw [e1,e2]
 exact ⟨IntWalk.i64_in _ (by omega),IntWalk.i64_in _ (by omega)⟩
theorem ymS {fs:List (Int × FacR)} {k:Nat} (hk:k<fs.length) {q0 q1 q2 q3 q4 q5 q6 a0 a1 a2 a3 a4 a5 a6 N z p:Int} {off:Bool} (hps:[q0,q1,q2,q3,q4,q5,q6]=(jV 1 jG (fs.take k)).2) (hs:fs[k].2.s.ps=[a0,a1,a2,a3,a4,a5,a6]) (ho:fs[k].2.s.off=off) (hz:fs[k].2.s.z=z) (hp:fs[k].2.s.p=p) (hN:fs[k].1*fs[k].2.e=N):(jV 1 jG (fs.take (k+1))).1=(jV 1 jG (fs.take k)).1*fs[k].2.q^N∧[q0+a0*N,q1+a1*N,q2+a2*N,q3+a3*N,q4+a4*N,q5+a5*N,q6+a6*N]=(jV 1 jG (fs.take (k+1))).2∧GU 0 (fs.take (k+1))=if off then (z:Rat)/(p:Rat) else GU 0 (fs.take k):=by
 rw [List.take_succ_eq_append_getElem hk,yk4,ymQ,← hps,hs,ho,hz,hp,hN]
 exact ⟨rfl,rfl,rfl⟩
end
end Go.Proofs.YtfjnipkpfbkegaaGreatDoor
