/- Contracts. -/
import Derived.Test.YtfjnipkpfbkegaaGreatDoorRe
import Derived.Test.YtfjnipkpfbkegaaGreatDoorPart17
set_option maxHeartbeats 3200000
set_option maxRecDepth 100000
namespace Go.Proofs.YtfjnipkpfbkegaaGreatDoor
open Go.RowKit Big
open Go.Lib
theorem ybj (s:ByteArray) (w:World) (hs:(s.size:Int)≤1000000):Calls Tryz.prog 65 #[.string s,.int .i64 0] w fun e w'=>e=.returned (.int .i64 (yF s.data.toList))∧w=w':=by
 go_enter Tryz.func65,Tryz.ntmps65
 go_wp2_with fail
 go_loop [5] (fun i=>∃ k:Nat,k≤s.size∧i=.int .i64 k∧Hid ((s.data.toList.take k).all yG=true)) (fun i=>s.size-(intOf i).toNat)
 case atStart=>exact ⟨0,Nat.zero_le _,rfl,yA (by simp)⟩
 case round =>
  obtain ⟨k,hk,rfl,jR⟩:=hrel
  by_cases hlt:k<s.size
  ·have hkl:k<s.data.toList.length:=by simpa using hlt
   have hb:Hid (∀ d,yG s[k]=d→yG s.data.toList[k]=d):=yA (fun d h=>h)
   rcases (show (s[k].toNat:Int)<48∨(57:Int)<s[k].toNat∨((48:Int)≤s[k].toNat∧(s[k].toNat:Int)≤57) from by omega) with h0|h1|⟨h2a,h2b⟩
   ·have hf:Hid (yF s.data.toList=k):=yA (uU _ _ k (by omega) jR.out (.inr ⟨hkl,hb.out _ (by simp [yG];omega)⟩))
    go_wp2
    go_ret
    exact ⟨by rw [hf.out];rfl,rfl⟩
   ·have hf:Hid (yF s.data.toList=k):=yA (uU _ _ k (by omega) jR.out (.inr ⟨hkl,hb.out _ (by simp [yG];omega)⟩))
    go_wp2
    go_ret
    exact ⟨by rw [hf.out];rfl,rfl⟩
   ·have hn:Hid ((s.data.toList.take (k+1)).all yG=true):=yA (uH _ _ k hkl jR.out (hb.out _ (by simp [yG];omega)))
    go_wp2
    go_round
    case rel=>exact ⟨k+1,by omega,by go_num,hn⟩
    case measure=>simp [intOf];omega
  ·have hf:Hid (yF s.data.toList=k):=yA (uU _ _ k (by simpa using hk) jR.out (.inl (by simp;omega)))
   obtain rfl:k=s.size:=by omega
   go_wp2
   go_ret
   exact ⟨by rw [hf.out];rfl,rfl⟩
structure ReadInv (l:List UInt8) (e:Nat) (z:Int) (L:List Nat):Prop where
 le:e≤l.length
 at_:(z=e∧9*L.length+e=l.length)∨(z<0∧e=0)
 dig:yW B9 L
 eq:val B9 L=yX (l.drop e)
 len:L.length≤l.length
theorem yns (l:List UInt8) (st i:Nat) (h1:st≤i) (h2:i<l.length):yX ((l.drop st).take (i+1-st))=10*yX ((l.drop st).take (i-st))+(l[i].toNat-48):=by
 have hlt:i-st<(l.drop st).length:=by rw [List.length_drop];omega
 rw [show i+1-st=(i-st)+1 from by omega,List.take_succ_eq_append_getElem hlt,uS]
 have e:(l.drop st)[i-st]=l[i]:=by rw [List.getElem_drop];congr 1;omega
 rw [e]
 show yX _*10^1+(0*10+(l[i].toNat-48))=_
 omega
theorem yjn (l:List UInt8) (st i:Nat) (ha:l.all yG=true):yX ((l.drop st).take (i-st))<10^(i-st):=by
 have h1:((l.drop st).take (i-st)).all yG=true:=by
  rw [List.all_eq_true] at ha ⊢
  exact fun x hx=>ha x (List.mem_of_mem_drop (List.mem_of_mem_take hx))
 have h2:=ybS _ h1
 have h3:10^((l.drop st).take (i-st)).length≤10^(i-st):=Nat.pow_le_pow_right (by omega) (by rw [List.length_take];omega)
 omega
theorem ReadInv.next {l:List UInt8} {e st:Nat} {z:Int} {L:List Nat} (h:ReadInv l e z L) (ha:l.all yG=true) (he:0<e) (hst:st=e-9) :
  ReadInv l st (z-9) (L++[yX ((l.drop st).take (e-st))]):=by
 have hle:=h.le
 have hat:z=e∧9*L.length+e=l.length:=h.at_.resolve_right fun h=>by omega
 have hc:=yjn l st e ha
 have h9:(10:Nat)^(e-st)≤10^9:=Nat.pow_le_pow_right (by omega) (by omega)
 have e9:=zN
 refine ⟨by omega,?_,h.dig.append (yW.one (by omega)),?_,by rw [List.length_append];simp;omega⟩
 ·by_cases h10:9≤e
  ·exact .inl ⟨by omega,by rw [List.length_append];simp;omega⟩
  ·exact .inr ⟨by omega,by omega⟩
 ·have e1:l.drop st=(l.drop st).take (e-st)++l.drop e:=by
   conv=>lhs;rw [← List.take_append_drop (e-st) (l.drop st)]
   rw [List.drop_drop,show st+(e-st)=e from by omega]
  rw [jY,h.eq]
  conv=>rhs;rw [e1]
  rw [uS,List.length_drop,yau,show 9*L.length=l.length-e from by omega,Nat.mul_comm,Nat.add_comm]
theorem uC (s:ByteArray) (w:World) (hs:(s.size:Int)≤1000000) (ha:s.data.toList.all yG=true):Calls Tryz.prog 90 #[.string s] w (zU (yX s.data.toList) w):=by
 obtain ⟨i0,hi,hz0,hz1,hz2⟩:=info_parts GA
 have Ha:=yA ha
 clear ha
 obtain ⟨l,hl⟩:∃ l,Hid (l=s.data.toList):=⟨_,yA rfl⟩
 have hll:Hid (l.length=s.size):=yA (by rw [hl.out];simp)
 have hst:Hid (ReadInv l s.size s.size []):=yA ⟨by rw [hll.out];exact Nat.le_refl _,.inl ⟨rfl,by rw [hll.out];simp⟩,yW.nil _,by rw [List.drop_eq_nil_of_le (by rw [hll.out];exact Nat.le_refl _)];rfl,by simp⟩
 have Ha2:Hid (l.all yG=true):=yA (by rw [hl.out];exact Ha.out)
 go_enter Tryz.func90,Tryz.ntmps90
 go_wp2_with fail
 go_loopw [3,4] (fun ov zv wr=>∃ (e:Nat) (z:Int) (L:List Nat) (po:Option Addr) (no co:Nat),zv=.int .i64 z∧ov=.slice po no co∧-9≤z∧z≤1000000∧Hid (ReadInv l e z L)∧Hid (Acc w wr ov L)) (fun _ zv _=>(intOf zv).toNat)
 case atStart=>exact ⟨s.size,s.size,[],_,_,_,rfl,rfl,by omega,by omega,hst,yA (Acc.nil _ _ (Below.refl _ _))⟩
 case round =>
  obtain ⟨e,z,L,po,no,co,rfl,rfl,hz1',hz2',yI,uO⟩:=hrel
  by_cases h0:0<z
  ·have hat:=yI.out.at_.resolve_right fun h=>by omega
   obtain ⟨rfl,h9⟩:=hat
   have H9:=yA h9
   clear h9
   obtain ⟨st,yqb⟩:∃ st,Hid (st=e-9):=⟨_,yA rfl⟩
   have hstv:max ((e:Int)-9) 0=(st:Int):=by rw [yqb.out];omega
   have hste:st≤e:=by rw [yqb.out];omega
   have hes:Hid (e≤s.size):=yA (by have:=yI.out.le;rw [hll.out] at this;exact this)
   (go_wp2_with fail)<;>(
    go_loopw [5,6] (fun dv iv w2=>∃ (i:Nat),st≤i∧i≤e∧iv=.int .i64 i∧dv=.int .u64 ((yX ((l.drop st).take (i-st)):Nat):Int)∧wr=w2) (fun _ iv _=>e-(intOf iv).toNat)
    case atStart=>exact ⟨st,Nat.le_refl _,hste,by first|rfl|(rw [hstv])|(congr 1;omega),by simp [yX],rfl⟩
    case round =>
     obtain ⟨i,hi1,hi2,rfl,rfl,rfl⟩:=hrel
     obtain ⟨D,hD⟩:∃ D,Hid (yX ((l.drop st).take (i-st))=D):=⟨_,yA rfl⟩
     rw [hD.out]
     by_cases hlt:i<e
     ·have e1:(i:Int)<e:=by omega
      have hlt2:i<s.size:=by have:=hes.out;omega
      have hil:i<l.length:=by rw [hll.out];exact hlt2
      have hdg:yG l[i]=true:=List.all_eq_true.1 Ha2.out _ (List.getElem_mem hil)
      have hgl:Hid (l[i]=s[i]):=yA (by have h:=hl.out;subst h;rfl)
      rw [hgl.out] at hdg
      have hdg2:48≤s[i].toNat∧s[i].toNat≤57:=by simpa [yG] using hdg
      have hb1:(48:Int)≤s[i].toNat:=by omega
      have hb2:(s[i].toNat:Int)≤57:=by omega
      have hDb:(D:Int)≤100000000:=by
       have h1:=yjn l st i Ha2.out
       rw [hD.out] at h1
       have h2:(10:Nat)^(i-st)≤10^8:=Nat.pow_le_pow_right (by omega) (by have:=yqb.out;omega)
       omega
      obtain ⟨D2,hD2⟩:∃ D2:Nat,Hid (yX ((l.drop st).take (i+1-st))=D2):=⟨_,yA rfl⟩
      have hDv:(10:Int)*D+((s[i].toNat:Int)-48)=(D2:Int):=by
       rw [← hD2.out,yns l st i hi1 hil,hD.out,hgl.out];omega
      clear hdg hdg2 hgl hil
      go_wp2_with fail
      go_roundw
      case rel=>exact ⟨i+1,by omega,by omega,by go_num,by rw [hD2.out],trivial⟩
      case measure=>simp [intOf];omega
     ·obtain rfl:i=e:=by omega
      have uG:Hid (ReadInv l st ((i:Int)-9) (L++[D])):=yA (by rw [← hD.out];exact yI.out.next Ha2.out (by omega) yqb.out)
      have hlen:Hid (L.length+1≤maxLen∧(L.length+1)*8≤140737488355328∧w.heap.size≤wr.heap.size+1):=yA (by
       have h1:=yI.out.len
       have h2:=hll.out
       have h:=uO.out.below.size
       unfold maxLen;omega)
      go_wp2_with (at_builtin;refine wpList_append_own _ rfl (.tmp 29) (.tmp 31) 42 rfl w.heap.size 100 i0 (.int .u64 0) 1 8 jS hi hz0 hz1 hz2 rfl (by decide) _ _ _ rfl ((uO.out.own).alloc _) ⟨_,0,none⟩ 1 1 [.int .u64 (D:Int)] rfl rfl (cell_one_new _ _ _) (by intro u hu;simp at hu;subst hu;rfl) hlen.out.1 hlen.out.2.1 (by simp;exact hlen.out.2.2) ?_)
      intro v5 w5 vJ jF _
      have zR:=yA (uO.out.next (x:=D) rfl vJ jF)
      obtain ⟨p5,c5,rfl,-⟩:=ycW zR.out.own
      clear vJ jF
      go_wp2_with fail
      go_roundw
      case rel=>exact ⟨st,(i:Int)-9,_,_,_,_,rfl,rfl,by omega,by omega,uG,zR⟩
      case measure=>simp [intOf];omega)
  ·have yZ:Hid (val B9 L=yX s.data.toList):=yA (by
    have h:=yI.out.eq
    have he:e=0:=by rcases yI.out.at_ with ⟨h1,_⟩|⟨_,h2⟩<;>omega
    rw [he,List.drop_zero,hl.out] at h
    exact h)
   have ht:Hid (Calls Tryz.prog 95 #[.slice po no co] wr (zU (yX s.data.toList) w)):=yA (by
    obtain ⟨p',c',h,hnc,hr,hf⟩:=ycW uO.out.own
    cases h
    rw [← yZ.out]
    exact (ycq _ _ _ L wr (by have h1:=yI.out.len;have h2:=hll.out;unfold maxLen;omega) hnc.1 hr).mono fun _ _ h=>yb1 hnc hf hr yI.out.dig uO.out.below h)
   go_wp2_with fail
   refine ht.out.mono ?_
   rintro e' w4 ⟨v,rfl,hv⟩
   obtain ⟨pv,nv,cv,rfl⟩:=hv.1.slice
   go_wp2_with fail
   go_ret
   exact ⟨_,rfl,hv⟩
structure Bx (B:Nat) (c:Array Value) (w0 W:World):Prop where
 size:B+1≤W.heap.size
 below:Below w0.heap.size w0 W
 x:W.heap[B]?=some (.cells c 44 (0,0))
theorem Bx.start (w:World) (c:Array Value):Bx w.heap.size c w (w.alloc (.cells c 44)):=⟨by simp,zJ _ _,yV _ _⟩
theorem Bx.next {B:Nat} {c:Array Value} {w0 W W':World} (h:Bx B c w0 W) (hb:Below W.heap.size W W'):Bx B c w0 W':=⟨Nat.le_trans h.size hb.size,h.below.trans (hb.mono h.below.size),(hb.block _ (by have:=h.size;omega)).trans h.x⟩
theorem Bx.drew {B:Nat} {c:Array Value} {w0 W:World} (h:Bx B c w0 W):Bx B c w0 W.drew:=⟨h.size,h.below.drew,h.x⟩
theorem Bx.all {B:Nat} {a b c:Value} {w0 W:World} (h:Bx B #[a,b,c] w0 W):Bx B #[a,b,c] w0 W∧W.cell? ⟨B,0,none⟩=some a∧W.cell? ⟨B,1,none⟩=some b∧W.cell? ⟨B,2,none⟩=some c :=
 ⟨h,yB h.x 0,yB h.x 1,yB h.x 2⟩
theorem ylO (u1 v1:Value) (s:Bool) (q:Rat) (sn sd _y:ByteArray) (w:World) (_ok:Bool) (hX:Hid (∀ W,Below w.heap.size w W→Calls Tryz.prog 67 #[u1] W fun e w'=>e=.returned (.string sn)∧Below W.heap.size W w')) (ybt:Hid (∀ W,Below w.heap.size w W→Calls Tryz.prog 68 #[.agg #[.bool s,u1,v1]] W (yb9 q.den W)))
  (hD:Hid (∀ W v,yL W v q.den→Calls Tryz.prog 67 #[v] W fun e w'=>e=.returned (.string sd)∧Below W.heap.size W w')) (h1:(40:Int)<sn.size) :
  Calls Tryz.prog 36 #[.agg #[.bool s,u1,v1]] w fun e w'=>e=.returned (.tuple #[.string ⟨#[]⟩,.bool false])∧Below w.heap.size w w':=by
 have hbx:=Bx.start w #[.bool s,u1,v1]
 have Hbx:=yA hbx
 obtain ⟨-,c0,c1,c2⟩:=hbx.all
 clear hbx
 go_enter Tryz.func36,Tryz.ntmps36
 go_wp2_with fail
 go_region_held3 (fun w'=>Bx w.heap.size #[.bool s,u1,v1] w w'∧w'.cell? ⟨w.heap.size,0,none⟩=some (.bool s)∧w'.cell? ⟨w.heap.size,1,none⟩=some u1∧w'.cell? ⟨w.heap.size,2,none⟩=some v1)
  (first|exact Bx.all (Bx.drew Hbx.out)|exact Bx.all Hbx.out|(go_split_ands;exact Bx.all (Bx.next (by assumption) hb1))|(go_split_ands;exact Bx.all (Bx.next (by assumption) hb2))|(go_split_ands;exact Bx.all (Bx.next (by assumption) hb3))|go_keep)
  (first|(go_at_call_of 67 u1;go_split_ands;refine (hX.out _ (Bx.below (by assumption))).mono ?_;rintro e w1 ⟨rfl,hb1⟩)|(go_at_call 68;go_split_ands;refine (ybt.out _ (Bx.below (by assumption))).mono ?_;rintro e w2 ⟨p2,n2,k2,rfl,hv2,hb2⟩)|(go_at_call 67;go_split_ands;refine (hD.out _ _ hv2).mono ?_;rintro e w3 ⟨rfl,hb3⟩;have htw:=Bx.next (by assumption) hb3))
 obtain ⟨-,c0,c1,c2⟩:=htw.all
 have Hb3:=yA htw.below
 go_wp2_with fail
 go_ret2
 exact ⟨rfl,Hb3.out⟩
theorem ylP (u1 v1:Value) (s:Bool) (q:Rat) (sn sd _y:ByteArray) (w:World) (_ok:Bool) (hX:Hid (∀ W,Below w.heap.size w W→Calls Tryz.prog 67 #[u1] W fun e w'=>e=.returned (.string sn)∧Below W.heap.size W w')) (ybt:Hid (∀ W,Below w.heap.size w W→Calls Tryz.prog 68 #[.agg #[.bool s,u1,v1]] W (yb9 q.den W)))
  (hD:Hid (∀ W v,yL W v q.den→Calls Tryz.prog 67 #[v] W fun e w'=>e=.returned (.string sd)∧Below W.heap.size W w')) (h1:(sn.size:Int)≤40) (h2:(40:Int)<sd.size) :
  Calls Tryz.prog 36 #[.agg #[.bool s,u1,v1]] w fun e w'=>e=.returned (.tuple #[.string ⟨#[]⟩,.bool false])∧Below w.heap.size w w':=by
 have hbx:=Bx.start w #[.bool s,u1,v1]
 have Hbx:=yA hbx
 obtain ⟨-,c0,c1,c2⟩:=hbx.all
 clear hbx
 go_enter Tryz.func36,Tryz.ntmps36
 go_wp2_with fail
 go_region_held3 (fun w'=>Bx w.heap.size #[.bool s,u1,v1] w w'∧w'.cell? ⟨w.heap.size,0,none⟩=some (.bool s)∧w'.cell? ⟨w.heap.size,1,none⟩=some u1∧w'.cell? ⟨w.heap.size,2,none⟩=some v1)
  (first|exact Bx.all (Bx.drew Hbx.out)|exact Bx.all Hbx.out|(go_split_ands;exact Bx.all (Bx.next (by assumption) hb1))|(go_split_ands;exact Bx.all (Bx.next (by assumption) hb2))|(go_split_ands;exact Bx.all (Bx.next (by assumption) hb3))|go_keep)
  (first|(go_at_call_of 67 u1;go_split_ands;refine (hX.out _ (Bx.below (by assumption))).mono ?_;rintro e w1 ⟨rfl,hb1⟩)|(go_at_call 68;go_split_ands;refine (ybt.out _ (Bx.below (by assumption))).mono ?_;rintro e w2 ⟨p2,n2,k2,rfl,hv2,hb2⟩)|(go_at_call 67;go_split_ands;refine (hD.out _ _ hv2).mono ?_;rintro e w3 ⟨rfl,hb3⟩;have htw:=Bx.next (by assumption) hb3))
 obtain ⟨-,c0,c1,c2⟩:=htw.all
 have Hb3:=yA htw.below
 go_wp2_with fail
 go_ret2
 exact ⟨rfl,Hb3.out⟩
theorem yfR (u1 v1:Value) (s:Bool) (q:Rat) (sn sd _y:ByteArray) (w:World) (_ok:Bool) (hX:Hid (∀ W,Below w.heap.size w W→Calls Tryz.prog 67 #[u1] W fun e w'=>e=.returned (.string sn)∧Below W.heap.size W w')) (ybt:Hid (∀ W,Below w.heap.size w W→Calls Tryz.prog 68 #[.agg #[.bool s,u1,v1]] W (yb9 q.den W)))
  (hD:Hid (∀ W v,yL W v q.den→Calls Tryz.prog 67 #[v] W fun e w'=>e=.returned (.string sd)∧Below W.heap.size W w')) (h1:(sn.size:Int)≤40) (h2:(sd.size:Int)≤40) (h3:(sd.toList==[49])=true) (hs:s=true) :
  Calls Tryz.prog 36 #[.agg #[.bool s,u1,v1]] w fun e w'=>e=.returned (.tuple #[.string (⟨#[45]⟩++sn),.bool true])∧Below w.heap.size w w':=by
 subst hs
 have hbx:=Bx.start w #[.bool true,u1,v1]
 have Hbx:=yA hbx
 obtain ⟨-,c0,c1,c2⟩:=hbx.all
 clear hbx
 go_enter Tryz.func36,Tryz.ntmps36
 go_wp2_with fail
 go_region_held3 (fun w'=>Bx w.heap.size #[.bool true,u1,v1] w w'∧w'.cell? ⟨w.heap.size,0,none⟩=some (.bool true)∧w'.cell? ⟨w.heap.size,1,none⟩=some u1∧w'.cell? ⟨w.heap.size,2,none⟩=some v1)
  (first|exact Bx.all (Bx.drew Hbx.out)|exact Bx.all Hbx.out|(go_split_ands;exact Bx.all (Bx.next (by assumption) hb1))|(go_split_ands;exact Bx.all (Bx.next (by assumption) hb2))|(go_split_ands;exact Bx.all (Bx.next (by assumption) hb3))|go_keep)
  (first|(go_at_call_of 67 u1;go_split_ands;refine (hX.out _ (Bx.below (by assumption))).mono ?_;rintro e w1 ⟨rfl,hb1⟩)|(go_at_call 68;go_split_ands;refine (ybt.out _ (Bx.below (by assumption))).mono ?_;rintro e w2 ⟨p2,n2,k2,rfl,hv2,hb2⟩)|(go_at_call 67;go_split_ands;refine (hD.out _ _ hv2).mono ?_;rintro e w3 ⟨rfl,hb3⟩;have htw:=Bx.next (by assumption) hb3))
 obtain ⟨-,c0,c1,c2⟩:=htw.all
 have Hb3:=yA htw.below
 go_wp2_with fail
 go_ret2
 exact ⟨rfl,Hb3.out⟩
theorem yeY (u1 v1:Value) (s:Bool) (q:Rat) (sn sd _y:ByteArray) (w:World) (_ok:Bool) (hX:Hid (∀ W,Below w.heap.size w W→Calls Tryz.prog 67 #[u1] W fun e w'=>e=.returned (.string sn)∧Below W.heap.size W w')) (ybt:Hid (∀ W,Below w.heap.size w W→Calls Tryz.prog 68 #[.agg #[.bool s,u1,v1]] W (yb9 q.den W)))
  (hD:Hid (∀ W v,yL W v q.den→Calls Tryz.prog 67 #[v] W fun e w'=>e=.returned (.string sd)∧Below W.heap.size W w')) (h1:(sn.size:Int)≤40) (h2:(sd.size:Int)≤40) (h3:(sd.toList==[49])=false) (hs:s=true) :
  Calls Tryz.prog 36 #[.agg #[.bool s,u1,v1]] w fun e w'=>e=.returned (.tuple #[.string ((⟨#[45]⟩++sn)++⟨#[47]⟩++sd),.bool true])∧Below w.heap.size w w':=by
 subst hs
 have hbx:=Bx.start w #[.bool true,u1,v1]
 have Hbx:=yA hbx
 obtain ⟨-,c0,c1,c2⟩:=hbx.all
 clear hbx
 go_enter Tryz.func36,Tryz.ntmps36
 go_wp2_with fail
 go_region_held3 (fun w'=>Bx w.heap.size #[.bool true,u1,v1] w w'∧w'.cell? ⟨w.heap.size,0,none⟩=some (.bool true)∧w'.cell? ⟨w.heap.size,1,none⟩=some u1∧w'.cell? ⟨w.heap.size,2,none⟩=some v1)
  (first|exact Bx.all (Bx.drew Hbx.out)|exact Bx.all Hbx.out|(go_split_ands;exact Bx.all (Bx.next (by assumption) hb1))|(go_split_ands;exact Bx.all (Bx.next (by assumption) hb2))|(go_split_ands;exact Bx.all (Bx.next (by assumption) hb3))|go_keep)
  (first|(go_at_call_of 67 u1;go_split_ands;refine (hX.out _ (Bx.below (by assumption))).mono ?_;rintro e w1 ⟨rfl,hb1⟩)|(go_at_call 68;go_split_ands;refine (ybt.out _ (Bx.below (by assumption))).mono ?_;rintro e w2 ⟨p2,n2,k2,rfl,hv2,hb2⟩)|(go_at_call 67;go_split_ands;refine (hD.out _ _ hv2).mono ?_;rintro e w3 ⟨rfl,hb3⟩;have htw:=Bx.next (by assumption) hb3))
 obtain ⟨-,c0,c1,c2⟩:=htw.all
 have Hb3:=yA htw.below
 go_wp2_with fail
 go_ret2
 exact ⟨rfl,Hb3.out⟩
theorem yeZ (u1 v1:Value) (s:Bool) (q:Rat) (sn sd _y:ByteArray) (w:World) (_ok:Bool) (hX:Hid (∀ W,Below w.heap.size w W→Calls Tryz.prog 67 #[u1] W fun e w'=>e=.returned (.string sn)∧Below W.heap.size W w')) (ybt:Hid (∀ W,Below w.heap.size w W→Calls Tryz.prog 68 #[.agg #[.bool s,u1,v1]] W (yb9 q.den W)))
  (hD:Hid (∀ W v,yL W v q.den→Calls Tryz.prog 67 #[v] W fun e w'=>e=.returned (.string sd)∧Below W.heap.size W w')) (h1:(sn.size:Int)≤40) (h2:(sd.size:Int)≤40) (h3:(sd.toList==[49])=true) (hs:s=false) :
  Calls Tryz.prog 36 #[.agg #[.bool s,u1,v1]] w fun e w'=>e=.returned (.tuple #[.string sn,.bool true])∧Below w.heap.size w w':=by
 subst hs
 have hbx:=Bx.start w #[.bool false,u1,v1]
 have Hbx:=yA hbx
 obtain ⟨-,c0,c1,c2⟩:=hbx.all
 clear hbx
 go_enter Tryz.func36,Tryz.ntmps36
 go_wp2_with fail
 go_region_held3 (fun w'=>Bx w.heap.size #[.bool false,u1,v1] w w'∧w'.cell? ⟨w.heap.size,0,none⟩=some (.bool false)∧w'.cell? ⟨w.heap.size,1,none⟩=some u1∧w'.cell? ⟨w.heap.size,2,none⟩=some v1)
  (first|exact Bx.all (Bx.drew Hbx.out)|exact Bx.all Hbx.out|(go_split_ands;exact Bx.all (Bx.next (by assumption) hb1))|(go_split_ands;exact Bx.all (Bx.next (by assumption) hb2))|(go_split_ands;exact Bx.all (Bx.next (by assumption) hb3))|go_keep)
  (first|(go_at_call_of 67 u1;go_split_ands;refine (hX.out _ (Bx.below (by assumption))).mono ?_;rintro e w1 ⟨rfl,hb1⟩)|(go_at_call 68;go_split_ands;refine (ybt.out _ (Bx.below (by assumption))).mono ?_;rintro e w2 ⟨p2,n2,k2,rfl,hv2,hb2⟩)|(go_at_call 67;go_split_ands;refine (hD.out _ _ hv2).mono ?_;rintro e w3 ⟨rfl,hb3⟩;have htw:=Bx.next (by assumption) hb3))
 obtain ⟨-,c0,c1,c2⟩:=htw.all
 have Hb3:=yA htw.below
 go_wp2_with fail
 go_ret2
 exact ⟨rfl,Hb3.out⟩
theorem yeg (u1 v1:Value) (s:Bool) (q:Rat) (sn sd _y:ByteArray) (w:World) (_ok:Bool) (hX:Hid (∀ W,Below w.heap.size w W→Calls Tryz.prog 67 #[u1] W fun e w'=>e=.returned (.string sn)∧Below W.heap.size W w')) (ybt:Hid (∀ W,Below w.heap.size w W→Calls Tryz.prog 68 #[.agg #[.bool s,u1,v1]] W (yb9 q.den W)))
  (hD:Hid (∀ W v,yL W v q.den→Calls Tryz.prog 67 #[v] W fun e w'=>e=.returned (.string sd)∧Below W.heap.size W w')) (h1:(sn.size:Int)≤40) (h2:(sd.size:Int)≤40) (h3:(sd.toList==[49])=false) (hs:s=false) :
  Calls Tryz.prog 36 #[.agg #[.bool s,u1,v1]] w fun e w'=>e=.returned (.tuple #[.string (sn++⟨#[47]⟩++sd),.bool true])∧Below w.heap.size w w':=by
 subst hs
 have hbx:=Bx.start w #[.bool false,u1,v1]
 have Hbx:=yA hbx
 obtain ⟨-,c0,c1,c2⟩:=hbx.all
 clear hbx
 go_enter Tryz.func36,Tryz.ntmps36
 go_wp2_with fail
 go_region_held3 (fun w'=>Bx w.heap.size #[.bool false,u1,v1] w w'∧w'.cell? ⟨w.heap.size,0,none⟩=some (.bool false)∧w'.cell? ⟨w.heap.size,1,none⟩=some u1∧w'.cell? ⟨w.heap.size,2,none⟩=some v1)
  (first|exact Bx.all (Bx.drew Hbx.out)|exact Bx.all Hbx.out|(go_split_ands;exact Bx.all (Bx.next (by assumption) hb1))|(go_split_ands;exact Bx.all (Bx.next (by assumption) hb2))|(go_split_ands;exact Bx.all (Bx.next (by assumption) hb3))|go_keep)
  (first|(go_at_call_of 67 u1;go_split_ands;refine (hX.out _ (Bx.below (by assumption))).mono ?_;rintro e w1 ⟨rfl,hb1⟩)|(go_at_call 68;go_split_ands;refine (ybt.out _ (Bx.below (by assumption))).mono ?_;rintro e w2 ⟨p2,n2,k2,rfl,hv2,hb2⟩)|(go_at_call 67;go_split_ands;refine (hD.out _ _ hv2).mono ?_;rintro e w3 ⟨rfl,hb3⟩;have htw:=Bx.next (by assumption) hb3))
 obtain ⟨-,c0,c1,c2⟩:=htw.all
 have Hb3:=yA htw.below
 go_wp2_with fail
 go_ret2
 exact ⟨rfl,Hb3.out⟩
theorem yfn {a b:ByteArray} (h:a.data.toList=b.data.toList):a=b:=by
 cases a;cases b;congr 1;exact Array.toList_inj.1 h
theorem yh8 (d:Nat):(decDigits d==[49])=decide (d=1):=by
 by_cases h:d=1
 ·subst h;rw [decDigits_one (by omega)];rfl
 ·rw [decide_eq_false h,beq_eq_false_iff_ne]
  intro e
  have h1:=(yap d).2
  rw [e] at h1
  exact h (by rw [← h1];rfl)
def ydX (q:Rat) (w:World) (e:Ending) (w':World):Prop:=e=.returned (.tuple #[.string ⟨(uB q).toArray⟩,.bool (!(uB q).isEmpty)])∧Below w.heap.size w w'
theorem yrd {q:Rat} (h1:nDigits q.num.natAbs≤40) (h2:nDigits q.den≤40):uB q=wrote (decide (q.num<0)) q.num.natAbs q.den∧(!(uB q).isEmpty)=true:=by
 have e:=ycf q
 rw [if_pos ⟨h1,h2⟩] at e
 refine ⟨e,?_⟩
 rw [e]
 have:=yi9 (decide (q.num<0)) q.num.natAbs q.den
 cases h:wrote (decide (q.num<0)) q.num.natAbs q.den with
 | nil=>exact absurd h this
 | cons x l=>rfl
theorem yoI {q:Rat} (h:¬ (nDigits q.num.natAbs≤40∧nDigits q.den≤40)):uB q=[]:=by
 rw [ycf,if_neg h]
theorem ykm (x:Value) (q:Rat) (K:Nat) (w:World) (hK:K≤900000) (hq:uK K q) (hx:zH w x q):Calls Tryz.prog 36 #[x] w (ydX q w):=by
 have hden0:=fun W (hW:Below w.heap.size w W)=>ydk x q W (hx.below hW)
 obtain ⟨u1,v1,rfl,hu,hv⟩:=hx
 obtain ⟨sn,hsn⟩:∃ sn:ByteArray,sn=⟨(decDigits q.num.natAbs).toArray⟩:=⟨_,rfl⟩
 obtain ⟨sd,hsd⟩:∃ sd:ByteArray,sd=⟨(decDigits q.den).toArray⟩:=⟨_,rfl⟩
 have hX:Hid (∀ W,Below w.heap.size w W→Calls Tryz.prog 67 #[u1] W fun e w'=>e=.returned (.string sn)∧Below W.heap.size W w'):=yA fun W hW=>by
  rw [hsn];exact yev u1 _ K W hK hq.1 (hu.below hW)
 have hD:Hid (∀ W v,yL W v q.den→Calls Tryz.prog 67 #[v] W fun e w'=>e=.returned (.string sd)∧Below W.heap.size W w'):=yA fun W v h=>by
  rw [hsd];exact yev v _ K W hK hq.2 h
 obtain ⟨s,hs⟩:∃ s,s=decide (q.num<0):=⟨_,rfl⟩
 rw [← hs] at hden0 ⊢
 have ybt:=yA hden0
 have z1:sn.size=nDigits q.num.natAbs:=by rw [hsn,size_toArray,decDigits_length]
 have z2:sd.size=nDigits q.den:=by rw [hsd,size_toArray,decDigits_length]
 have t1:sn.data.toList=decDigits q.num.natAbs:=by rw [hsn]
 have t2:sd.data.toList=decDigits q.den:=by rw [hsd]
 unfold ydX
 by_cases h1:nDigits q.num.natAbs≤40
 ·by_cases h2:nDigits q.den≤40
  ·obtain ⟨e1,e2⟩:=yrd h1 h2
   rw [e2]
   have h3:(sd.toList==[49])=decide (q.den=1):=by
    have e:sd.toList=decDigits q.den:=by rw [Lib.toList_data];exact t2
    rw [e];exact yh8 _
   have fin:∀ y:ByteArray,y.data.toList=uB q→(Calls Tryz.prog 36 #[.agg #[.bool s,u1,v1]] w fun e w'=>e=.returned (.tuple #[.string y,.bool true])∧Below w.heap.size w w')→Calls Tryz.prog 36 #[.agg #[.bool s,u1,v1]] w fun e w'=>e=.returned (.tuple #[.string ⟨(uB q).toArray⟩,.bool true])∧Below w.heap.size w w':=by
    intro y hy h
    have:y=⟨(uB q).toArray⟩:=yfn (by rw [hy])
    rw [this] at h;exact h
   rw [e1] at fin ⊢
   rw [← hs] at fin ⊢
   unfold wrote at fin ⊢
   by_cases hd:q.den=1
   ·rw [hd,decide_eq_true rfl] at h3
    rw [if_pos hd] at fin ⊢
    cases s with
    | true=>exact fin _ (by simp [t1]) (yfR u1 v1 true q sn sd ⟨#[]⟩ w true hX ybt hD (by omega) (by omega) h3 rfl)
    | false=>exact fin _ (by simp [t1]) (yeZ u1 v1 false q sn sd ⟨#[]⟩ w true hX ybt hD (by omega) (by omega) h3 rfl)
   ·rw [decide_eq_false hd] at h3
    rw [if_neg hd] at fin ⊢
    cases s with
    | true=>exact fin _ (by simp [t1,t2]) (yeY u1 v1 true q sn sd ⟨#[]⟩ w true hX ybt hD (by omega) (by omega) h3 rfl)
    | false=>exact fin _ (by simp [t1,t2]) (yeg u1 v1 false q sn sd ⟨#[]⟩ w true hX ybt hD (by omega) (by omega) h3 rfl)
  ·rw [yoI (fun h=>h2 h.2)]
   exact ylP u1 v1 s q sn sd ⟨#[]⟩ w true hX ybt hD (by omega) (by omega)
 ·rw [yoI (fun h=>h1 h.1)]
  exact ylO u1 v1 s q sn sd ⟨#[]⟩ w true hX ybt hD (by omega)
end Go.Proofs.YtfjnipkpfbkegaaGreatDoor
