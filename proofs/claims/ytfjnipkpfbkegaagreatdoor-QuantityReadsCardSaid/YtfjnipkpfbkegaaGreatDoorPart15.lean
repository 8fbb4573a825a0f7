/- Contracts. -/
import Derived.Test.YtfjnipkpfbkegaaGreatDoorPart14
set_option maxHeartbeats 1600000
set_option maxRecDepth 100000
namespace Go.Proofs.YtfjnipkpfbkegaaGreatDoor
open Go.RowKit Go.Lib Big
theorem ydU (l:List UInt8) (c:UInt8):vG (l++[c])=if vG l≤12 then vG l*10+((c.toNat:Int)-48) else vG l:=by
 unfold vG;rw [List.foldl_append];rfl
theorem ypK (l m:List UInt8) (h:12<vG l):vG (l++m)=vG l:=by
 induction m generalizing l with
 | nil=>rw [List.append_nil]
 | cons c m ih =>
  have e:vG (l++[c])=vG l:=by rw [ydU,if_neg (by omega)]
  rw [show l++c::m=(l++[c])++m from by simp,ih _ (by rw [e];exact h),e]
theorem yoH (l:List UInt8) (h:l.all yG=true):0≤vG l∧vG l≤129:=by
 suffices ∀ (n:Nat) (l:List UInt8),l.length=n→l.all yG=true→0≤vG l∧vG l≤129 from this l.length l rfl h
 intro n
 induction n with
 | zero=>intro l hl _;rw [List.eq_nil_of_length_eq_zero hl];exact ⟨by decide,by decide⟩
 | succ n ih =>
  intro l hl hd
  obtain ⟨m,c,rfl⟩:∃ m c,l=m++[c]:=⟨l.dropLast,l.getLast (by intro h;rw [h] at hl;simp at hl),(List.dropLast_concat_getLast _).symm⟩
  rw [List.all_append,Bool.and_eq_true] at hd
  obtain ⟨h1,h2⟩:=ih m (by simpa using hl) hd.1
  have hc:yG c=true:=by simpa using hd.2
  unfold yG at hc
  simp at hc
  rw [ydU]
  split<;>omega
theorem yhv (p:UInt8→Bool) (l:List UInt8) (j:Nat) (hj:j≤(l.takeWhile p).length):(l.take j).all p=true:=by
 induction l generalizing j with
 | nil=>simp
 | cons x l ih =>
  cases j with
  | zero=>simp
  | succ j =>
   rw [List.takeWhile_cons] at hj
   by_cases hx:p x=true
   ·rw [if_pos hx,List.length_cons] at hj
    rw [List.take_succ_cons,List.all_cons,hx,ih j (by omega)];rfl
   ·rw [if_neg hx] at hj;simp at hj
theorem vN (l:List UInt8):yF l≤l.length:=by
 unfold yF
 exact (List.takeWhile_sublist _).length_le
structure ExpoAt (s:ByteArray) (st D:Nat):Prop where
 size:st+D≤s.size
 cnt:yF (s.data.toList.drop st)=D
theorem ExpoAt.step {s:ByteArray} {st D k:Nat} (h:ExpoAt s st D) (h1:st≤k) (h2:k<st+D):48≤(s[k]'(by have:=h.size;omega)).toNat∧(s[k]'(by have:=h.size;omega)).toNat≤57 ∧
  vG ((s.data.toList.drop st).take (k+1-st))=if vG ((s.data.toList.drop st).take (k-st))≤12 then vG ((s.data.toList.drop st).take (k-st))*10+(((s[k]'(by have:=h.size;omega)).toNat:Int)-48) else vG ((s.data.toList.drop st).take (k-st)):=by
 have hs:=h.size
 have hk:k-st<(s.data.toList.drop st).length:=by simp;omega
 have hc:=h.cnt
 have jR:=yhv yG (s.data.toList.drop st) (k-st+1) (by unfold yF at hc;omega)
 rw [List.take_succ_eq_append_getElem hk,List.all_append,Bool.and_eq_true] at jR
 have hd:yG ((s.data.toList.drop st)[k-st])=true:=by simpa using jR.2
 have he:(s.data.toList.drop st)[k-st]=s[k]'(by omega):=by
  rw [List.getElem_drop]
  have:st+(k-st)=k:=by omega
  simp only [this]
  rfl
 rw [he] at hd
 unfold yG at hd
 simp at hd
 refine ⟨hd.1,hd.2,?_⟩
 rw [show k+1-st=k-st+1 from by omega,List.take_succ_eq_append_getElem hk,ydU,he]
theorem ExpoAt.bd {s:ByteArray} {st D k:Nat} (h:ExpoAt s st D) (h2:k≤st+D):0≤vG ((s.data.toList.drop st).take (k-st))∧vG ((s.data.toList.drop st).take (k-st))≤129:=by
 apply yoH
 have hc:=h.cnt
 exact yhv yG _ _ (by unfold yF at hc;omega)
theorem ExpoAt.stop {s:ByteArray} {st D k:Nat} (h1:st≤k) (h2:k≤st+D) (h3:12<vG ((s.data.toList.drop st).take (k-st))):vG ((s.data.toList.drop st).take D)=vG ((s.data.toList.drop st).take (k-st)):=by
 have e:(s.data.toList.drop st).take D=(s.data.toList.drop st).take (k-st)++((s.data.toList.drop st).drop (k-st)).take (D-(k-st)):=by
  rw [← List.take_add]
  congr 1;omega
 rw [e];exact ypK _ _ h3
theorem ylv (s:ByteArray) (D:Nat) (V:Int) (w:World) (hmax:s.size≤100000) (_he:¬ s.toList=[]) (he2:s.toList.isEmpty=false) (hpos:0<s.size) (hm:(((s[0]'hpos).toNat:Int)==45)=true) (hE:ExpoAt s 1 D) (hD:0<D) (hV:vG ((s.data.toList.drop 1).take D)=V) (hcd:∀ W,Hid (Calls Tryz.prog 52 #[.string (s.extract 1 s.size)] W fun e w'=>e=.returned (.int .i64 D)∧W=w')) :
  Calls Tryz.prog 87 #[.string s] w fun e w'=>e=.returned (.tuple #[.int .i64 (-V),.int .i64 (1+D)])∧Below w.heap.size w w':=by
 have hsz:=hE.size
 have HE:=yA hE
 have hD0:((D:Int)==0)=false:=by rw [beq_eq_false_iff_ne];omega
 have hst:Hid (vG ((s.data.toList.drop 1).take (1-1))=0):=yA (by rw [Nat.sub_self,List.take_zero];rfl)
 have HV:=yA hV
 clear hE hV
 go_enter Tryz.func87,Tryz.ntmps87
 go_wp2_with fail
 refine (hcd _).out.mono ?_
 rintro e w1 ⟨rfl,rfl⟩
 go_wp2_with fail
 go_loop [7,8] (fun x i=>∃ (k:Nat) (e:Int),1≤k∧k≤1+D∧i=.int .i64 k∧x=.int .i64 e∧Hid (vG ((s.data.toList.drop 1).take (k-1))=e)) (fun _ i=>1+D-(intOf i).toNat)
 case atStart=>exact ⟨1,0,by omega,by omega,rfl,rfl,hst⟩
 case round =>
  obtain ⟨k,e,hk1,hk2,rfl,rfl,yZ⟩:=hrel
  obtain ⟨hb1,hb2⟩:=HE.out.bd hk2
  rw [yZ.out] at hb1 hb2
  by_cases hlt:k<1+D
  ·obtain ⟨hd1,hd2,zR⟩:=HE.out.step hk1 hlt
   rw [yZ.out] at zR
   have hks:k<s.size:=by omega
   have hd1':(48:Int)≤(s[k].toNat:Int):=by omega
   have hd2':(s[k].toNat:Int)≤57:=by omega
   by_cases h12:e≤12
   ·rw [if_pos h12] at zR
    have Hnext:=yA zR
    have hp:zP e=true:=by unfold zP;simp;omega
    clear zR hd1 hd2
    go_wp2_with fail
    refine (zT _ _).mono ?_
    rintro e' w1 ⟨rfl,rfl⟩
    rw [hp]
    clear hp
    go_wp2_with fail
    go_round
    case rel=>exact ⟨k+1,_,by omega,by omega,by go_num,rfl,Hnext⟩
    case measure=>simp [intOf];omega
   ·have hp:zP e=false:=by unfold zP;simp;omega
    have yE:Hid (vG ((s.data.toList.drop 1).take D)=e):=yA ((ExpoAt.stop hk1 hk2 (by rw [yZ.out];omega)).trans yZ.out)
    clear zR hd1 hd2
    go_wp2_with fail
    refine (zT _ _).mono ?_
    rintro e' w1 ⟨rfl,rfl⟩
    rw [hp]
    clear hp
    go_wp2_with fail
    go_ret2
    obtain rfl:V=e:=HV.out.symm.trans yE.out
    exact ⟨rfl,Below.refl _ _⟩
  ·obtain rfl:k=1+D:=by omega
   have yE:Hid (vG ((s.data.toList.drop 1).take D)=e):=yA (by have:=yZ.out;rwa [show 1+D-1=D from by omega] at this)
   go_wp2_with fail
   go_ret2
   obtain rfl:V=e:=HV.out.symm.trans yE.out
   exact ⟨rfl,Below.refl _ _⟩
theorem ylw (s:ByteArray) (D:Nat) (V:Int) (w:World) (hmax:s.size≤100000) (_he:¬ s.toList=[]) (he2:s.toList.isEmpty=false) (hpos:0<s.size) (hm:(((s[0]'hpos).toNat:Int)==45)=false) (hE:ExpoAt s 0 D) (hD:0<D) (hV:vG ((s.data.toList.drop 0).take D)=V) (hcd:∀ W,Hid (Calls Tryz.prog 52 #[.string s] W fun e w'=>e=.returned (.int .i64 D)∧W=w')) :
  Calls Tryz.prog 87 #[.string s] w fun e w'=>e=.returned (.tuple #[.int .i64 (V),.int .i64 D])∧Below w.heap.size w w':=by
 have hsz:=hE.size
 have HE:=yA hE
 have hD0:((D:Int)==0)=false:=by rw [beq_eq_false_iff_ne];omega
 have hst:Hid (vG ((s.data.toList.drop 0).take (0-0))=0):=yA (by rw [Nat.sub_self,List.take_zero];rfl)
 have HV:=yA hV
 clear hE hV
 go_enter Tryz.func87,Tryz.ntmps87
 go_wp2_with fail
 refine (hcd _).out.mono ?_
 rintro e w1 ⟨rfl,rfl⟩
 go_wp2_with fail
 go_loop [7,8] (fun x i=>∃ (k:Nat) (e:Int),0≤k∧k≤0+D∧i=.int .i64 k∧x=.int .i64 e∧Hid (vG ((s.data.toList.drop 0).take (k-0))=e)) (fun _ i=>0+D-(intOf i).toNat)
 case atStart=>exact ⟨0,0,by omega,by omega,rfl,rfl,hst⟩
 case round =>
  obtain ⟨k,e,hk1,hk2,rfl,rfl,yZ⟩:=hrel
  obtain ⟨hb1,hb2⟩:=HE.out.bd hk2
  rw [yZ.out] at hb1 hb2
  by_cases hlt:k<0+D
  ·obtain ⟨hd1,hd2,zR⟩:=HE.out.step hk1 hlt
   rw [yZ.out] at zR
   have hks:k<s.size:=by omega
   have hd1':(48:Int)≤(s[k].toNat:Int):=by omega
   have hd2':(s[k].toNat:Int)≤57:=by omega
   by_cases h12:e≤12
   ·rw [if_pos h12] at zR
    have Hnext:=yA zR
    have hp:zP e=true:=by unfold zP;simp;omega
    clear zR hd1 hd2
    go_wp2_with fail
    refine (zT _ _).mono ?_
    rintro e' w1 ⟨rfl,rfl⟩
    rw [hp]
    clear hp
    go_wp2_with fail
    go_round
    case rel=>exact ⟨k+1,_,by omega,by omega,by go_num,rfl,Hnext⟩
    case measure=>simp [intOf];omega
   ·have hp:zP e=false:=by unfold zP;simp;omega
    have yE:Hid (vG ((s.data.toList.drop 0).take D)=e):=yA ((ExpoAt.stop hk1 hk2 (by rw [yZ.out];omega)).trans yZ.out)
    clear zR hd1 hd2
    go_wp2_with fail
    refine (zT _ _).mono ?_
    rintro e' w1 ⟨rfl,rfl⟩
    rw [hp]
    clear hp
    go_wp2_with fail
    go_ret2
    obtain rfl:V=e:=HV.out.symm.trans yE.out
    exact ⟨rfl,Below.refl _ _⟩
  ·obtain rfl:k=0+D:=by omega
   have yE:Hid (vG ((s.data.toList.drop 0).take D)=e):=yA (by have:=yZ.out;rwa [show 0+D-0=D from by omega] at this)
   go_wp2_with fail
   go_ret2
   obtain rfl:V=e:=HV.out.symm.trans yE.out
   exact ⟨rfl,Below.refl _ _⟩
theorem ylx (s:ByteArray) (w:World) (_hmax:s.size≤100000) (he:s.toList=[]) (_he2:s.toList.isEmpty=true) (hcd:∀ W,Hid (Calls Tryz.prog 52 #[.string s] W fun e w'=>e=.returned (.int .i64 0)∧W=w')) :
  Calls Tryz.prog 87 #[.string s] w fun e w'=>e=.returned (.tuple #[.int .i64 0,.int .i64 0])∧Below w.heap.size w w':=by
 go_enter Tryz.func87,Tryz.ntmps87
 go_wp2_with fail
 refine (hcd _).out.mono ?_
 rintro e w1 ⟨rfl,rfl⟩
 go_wp2_with fail
 go_ret2
 exact ⟨rfl,Below.refl _ _⟩
theorem yjQ (s:ByteArray) (w:World) (hmax:s.size≤100000) (_he:¬ s.toList=[]) (he2:s.toList.isEmpty=false) (hpos:0<s.size) (hm:(((s[0]'hpos).toNat:Int)==45)=true) (hcd:∀ W,Hid (Calls Tryz.prog 52 #[.string (s.extract 1 s.size)] W fun e w'=>e=.returned (.int .i64 0)∧W=w')) :
  Calls Tryz.prog 87 #[.string s] w fun e w'=>e=.returned (.tuple #[.int .i64 0,.int .i64 0])∧Below w.heap.size w w':=by
 go_enter Tryz.func87,Tryz.ntmps87
 go_wp2_with fail
 refine (hcd _).out.mono ?_
 rintro e w1 ⟨rfl,rfl⟩
 go_wp2_with fail
 go_ret2
 exact ⟨rfl,Below.refl _ _⟩
theorem yjR (s:ByteArray) (w:World) (_hmax:s.size≤100000) (_he:¬ s.toList=[]) (he2:s.toList.isEmpty=false) (hpos:0<s.size) (hm:(((s[0]'hpos).toNat:Int)==45)=false) (hcd:∀ W,Hid (Calls Tryz.prog 52 #[.string s] W fun e w'=>e=.returned (.int .i64 0)∧W=w')) :
  Calls Tryz.prog 87 #[.string s] w fun e w'=>e=.returned (.tuple #[.int .i64 0,.int .i64 0])∧Below w.heap.size w w':=by
 go_enter Tryz.func87,Tryz.ntmps87
 go_wp2_with fail
 refine (hcd _).out.mono ?_
 rintro e w1 ⟨rfl,rfl⟩
 go_wp2_with fail
 go_ret2
 exact ⟨rfl,Below.refl _ _⟩
theorem ycF {c:UInt8} {t:List UInt8} (h:c≠45):uA (c::t)=if yF (c::t)=0 then (0,0) else (vG ((c::t).take (yF (c::t))),yF (c::t)):=by
 unfold uA
 split
 ·rename_i h2;simp at h2;exact absurd h2.1 h
 ·rfl
theorem yef (s:ByteArray) (w:World) (hmax:s.size≤100000):Calls Tryz.prog 87 #[.string s] w fun e w'=>e=.returned (.tuple #[.int .i64 (uA s.data.toList).1,.int .i64 ((uA s.data.toList).2:Nat)])∧Below w.heap.size w w':=by
 have hcd:∀ (t:ByteArray),t.size≤100000→∀ W,Calls Tryz.prog 52 #[.string t] W fun e w'=>e=.returned (.int .i64 (yF t.data.toList))∧W=w':=fun t ht W=>yai t W (by omega)
 cases hd:s.data.toList with
 | nil =>
  have he:s.toList=[]:=by rw [Lib.toList_data];exact hd
  have h0:=hcd s hmax
  rw [hd] at h0
  exact ylx s w hmax he (by rw [he];rfl) fun W=>yA (h0 W)
 | cons c t =>
  have hpos:0<s.size:=by
   have:=congrArg List.length hd
   simp at this;omega
  have hc:s[0]'hpos=c:=by
   have:s.data.toList[0]'(by rw [hd];simp)=c:=by simp [hd]
   exact this
  have he:¬ s.toList=[]:=by rw [Lib.toList_data,hd];simp
  have he2:s.toList.isEmpty=false:=by rw [Lib.toList_data,hd];rfl
  have ht:(s.extract 1 s.size).data.toList=t:=by
   rw [Lib.extract_to_end,hd];rfl
  have yag:s.data.toList.drop 1=t:=by rw [hd];rfl
  have hlen:s.size=t.length+1:=by
   have:=congrArg List.length hd
   simpa using this
  by_cases h45:c=45
  ·subst h45
   have hm:(((s[0]'hpos).toNat:Int)==45)=true:=by rw [hc];rfl
   have h1:=hcd (s.extract 1 s.size) (by simp;omega)
   rw [ht] at h1
   show Calls Tryz.prog 87 #[.string s] w fun e w'=>e=.returned (.tuple #[.int .i64 (if yF t=0 then ((0:Int),0) else (-vG (t.take (yF t)),1+yF t)).1,.int .i64 ((if yF t=0 then ((0:Int),0) else (-vG (t.take (yF t)),1+yF t)).2:Nat)])∧Below w.heap.size w w'
   by_cases h0:yF t=0
   ·rw [if_pos h0]
    rw [h0] at h1
    exact yjQ s w hmax he he2 hpos hm fun W=>yA (h1 W)
   ·rw [if_neg h0]
    have hle:=vN t
    have:=ylv s (yF t) (vG (t.take (yF t))) w hmax he he2 hpos hm ⟨by omega,by rw [yag]⟩ (by omega) (by rw [yag]) fun W=>yA (h1 W)
    simpa using this
  ·have hm:(((s[0]'hpos).toNat:Int)==45)=false:=by
    rw [hc,beq_eq_false_iff_ne];intro h;apply h45;apply UInt8.toNat_inj.1;have:((45:UInt8)).toNat=45:=rfl;omega
   have h1:=hcd s hmax
   rw [hd] at h1
   rw [ycF h45]
   by_cases h0:yF (c::t)=0
   ·rw [if_pos h0]
    rw [h0] at h1
    exact yjR s w hmax he he2 hpos hm fun W=>yA (h1 W)
   ·rw [if_neg h0]
    have hle:=vN (c::t)
    have:=ylw s (yF (c::t)) (vG ((c::t).take (yF (c::t)))) w hmax he he2 hpos hm ⟨by simp at hle;omega,by rw [List.drop_zero,hd]⟩ (by omega) (by rw [List.drop_zero,hd]) fun W=>yA (h1 W)
    simpa using this
theorem ResF.set_far {B:Nat} {w0 W:World} (h:ResF B w0 W) (g k:Nat) (v:Value) (hg:w0.heap.size≤g) (hne:B≠g):ResF B w0 (W.setCell ⟨g,k,none⟩ v):=by
 obtain ⟨z0,z1,z2,z3,z4,z5,z6,z7,z8,z9,z10,hz,hn⟩:=h.z
 exact ⟨h.below.setCell hg _,z0,z1,z2,z3,z4,z5,z6,z7,z8,z9,z10,(Below.heap_setCell _ _ _ _ hne).trans hz,hn⟩
def ydj (o:Option (FacT × Nat)):Nat:=match o with
 | some x=>x.2
 | none=>0
def yM (o:Option (FacT × Nat)) (w:World) (e:Ending) (w':World):Prop :=
 Below w.heap.size w w'∧∃ b p n c q m d p0 p1 p2 p3 p4 p5 p6 ex,e=.returned (.tuple #[.agg #[.bool b,.slice p n c,.slice q m d,.int .i64 p0,.int .i64 p1,.int .i64 p2,.int .i64 p3,.int .i64 p4,.int .i64 p5,.int .i64 p6,.int .i64 ex],.int .i64 (ydj o:Nat)])∧∀ f k,o=some (f,k)→zM w' (.agg #[.bool b,.slice p n c,.slice q m d]) f.v 40∧[p0,p1,p2,p3,p4,p5,p6]=f.ps∧ex=f.e
theorem yhW (s:ByteArray) (n:Nat) (w:World) (hn:n≤s.size) (_hmax:(s.size:Int)≤9223372036854775807) (hcl:∀ W,Hid (Calls Tryz.prog 85 #[.string s] W fun e w'=>e=.returned (.int .i64 n)∧W=w')) (hw:∀ W,Hid (Calls Tryz.prog 86 #[.string (s.extract 0 n)] W (vF none W))):Calls Tryz.prog 54 #[.string s] w (yM none w):=by
 have hrf:=yA (ResF.start w)
 have hle:w.heap.size≤w.heap.size:=Nat.le_refl _
 go_enter Tryz.func54,Tryz.ntmps54
 go_wp2_with fail
 refine (hcl _).out.mono ?_
 rintro e w1 ⟨rfl,rfl⟩
 go_wp2_with fail
 refine (hw _).out.mono ?_
 rintro e w3 ⟨hb3,b1,q,n1,k1,q2,m1,k2,p0,p1,p2,p3,p4,p5,p6,rfl,yZ⟩
 have Hrf:=yA ((hrf.out.next hb3).next (zK w3 (.cells #[.bool b1,.slice q n1 k1,.slice q2 m1 k2,.int .i64 p0,.int .i64 p1,.int .i64 p2,.int .i64 p3,.int .i64 p4,.int .i64 p5,.int .i64 p6,.int .i64 0] 66)))
 obtain ⟨z0,z1,z2,z3,z4,z5,z6,z7,z8,z9,z10,⟨l0,l1,l2,l3,l4,l5,l6,l7,l8,l9,l10⟩,⟨f0,f1,f2,f3,f4,f5,f6,f7,f8,f9,f10⟩⟩:=Hrf.out.slots
 have yE:Hid (∀ W,W=((((((((((((w3.alloc (.cells #[.bool b1,.slice q n1 k1,.slice q2 m1 k2,.int .i64 p0,.int .i64 p1,.int .i64 p2,.int .i64 p3,.int .i64 p4,.int .i64 p5,.int .i64 p6,.int .i64 0] 66)).setCell ⟨w.heap.size,0,none⟩ (.bool false)).setCell ⟨w.heap.size,1,none⟩ (.slice none 0 0)).setCell ⟨w.heap.size,2,none⟩ (.slice none 0 0)).setCell ⟨w.heap.size,3,none⟩ (.int .i64 0)).setCell ⟨w.heap.size,4,none⟩ (.int .i64 0)).setCell ⟨w.heap.size,5,none⟩ (.int .i64 0)).setCell ⟨w.heap.size,6,none⟩ (.int .i64 0)).setCell ⟨w.heap.size,7,none⟩ (.int .i64 0)).setCell ⟨w.heap.size,8,none⟩ (.int .i64 0)).setCell ⟨w.heap.size,9,none⟩ (.int .i64 0)).setCell ⟨w.heap.size,10,none⟩ (.int .i64 0))→yM none w (.returned (.tuple #[.agg #[.bool false,.slice none 0 0,.slice none 0 0,.int .i64 0,.int .i64 0,.int .i64 0,.int .i64 0,.int .i64 0,.int .i64 0,.int .i64 0,.int .i64 0],.int .i64 0])) W):=yA (by
  rintro W rfl
  exact ⟨(Hrf.out.put hle (.bool false) (.slice none 0 0) (.slice none 0 0) (.int .i64 0) (.int .i64 0) (.int .i64 0) (.int .i64 0) (.int .i64 0) (.int .i64 0) (.int .i64 0) (.int .i64 0) ⟨jI _,zA _ _ _,zA _ _ _,yD _,yD _,yD _,yD _,yD _,yD _,yD _,yD _⟩).1.below,_,_,_,_,_,_,_,_,_,_,_,_,_,_,_,rfl,by rintro _ _ h;cases h⟩)
 clear hb3 yZ
 go_wp2_with fail
 have hcells:=(Hrf.out.put hle (.bool false) (.slice none 0 0) (.slice none 0 0) (.int .i64 0) (.int .i64 0) (.int .i64 0) (.int .i64 0) (.int .i64 0) (.int .i64 0) (.int .i64 0) (.int .i64 0) ⟨jI _,zA _ _ _,zA _ _ _,yD _,yD _,yD _,yD _,yD _,yD _,yD _,yD _⟩).2
 generalize (((((((((((w3.alloc (.cells #[.bool b1,.slice q n1 k1,.slice q2 m1 k2,.int .i64 p0,.int .i64 p1,.int .i64 p2,.int .i64 p3,.int .i64 p4,.int .i64 p5,.int .i64 p6,.int .i64 0] 66)).setCell ⟨w.heap.size,0,none⟩ (.bool false)).setCell ⟨w.heap.size,1,none⟩ (.slice none 0 0)).setCell ⟨w.heap.size,2,none⟩ (.slice none 0 0)).setCell ⟨w.heap.size,3,none⟩ (.int .i64 0)).setCell ⟨w.heap.size,4,none⟩ (.int .i64 0)).setCell ⟨w.heap.size,5,none⟩ (.int .i64 0)).setCell ⟨w.heap.size,6,none⟩ (.int .i64 0)).setCell ⟨w.heap.size,7,none⟩ (.int .i64 0)).setCell ⟨w.heap.size,8,none⟩ (.int .i64 0)).setCell ⟨w.heap.size,9,none⟩ (.int .i64 0)).setCell ⟨w.heap.size,10,none⟩ (.int .i64 0)=WW at hcells yE ⊢
 have c0:=yB hcells 0
 have c1:=yB hcells 1
 have c2:=yB hcells 2
 have c3:=yB hcells 3
 have c4:=yB hcells 4
 have c5:=yB hcells 5
 have c6:=yB hcells 6
 have c7:=yB hcells 7
 have c8:=yB hcells 8
 have c9:=yB hcells 9
 have c10:=yB hcells 10
 refine bodyPost_ret (v:=.tuple #[.agg #[.bool false,.slice none 0 0,.slice none 0 0,.int .i64 0,.int .i64 0,.int .i64 0,.int .i64 0,.int .i64 0,.int .i64 0,.int .i64 0,.int .i64 0],.int .i64 0]) (by simp [results,Tryz.results54,go_sem,c0,c1,c2,c3,c4,c5,c6,c7,c8,c9,c10]) rfl ?_
 exact yE.out _ rfl
theorem yjS (s:ByteArray) (n:Nat) (v:Rat) (ps:List Int) (w:World) (hn:n≤s.size) (_hmax:(s.size:Int)≤9223372036854775807) (ycQ:¬ (n:Int)<s.size) (hcl:∀ W,Hid (Calls Tryz.prog 85 #[.string s] W fun e w'=>e=.returned (.int .i64 n)∧W=w')) (hw:∀ W,Hid (Calls Tryz.prog 86 #[.string (s.extract 0 n)] W (vF (some (v,ps)) W))):Calls Tryz.prog 54 #[.string s] w (yM (some (⟨v,ps,1⟩,n)) w):=by
 have hrf:=yA (ResF.start w)
 have hle:w.heap.size≤w.heap.size:=Nat.le_refl _
 go_enter Tryz.func54,Tryz.ntmps54
 go_wp2_with fail
 refine (hcl _).out.mono ?_
 rintro e w1 ⟨rfl,rfl⟩
 go_wp2_with fail
 refine (hw _).out.mono ?_
 rintro e w3 ⟨hb3,b1,q,n1,k1,q2,m1,k2,p0,p1,p2,p3,p4,p5,p6,rfl,yZ⟩
 obtain ⟨hR,hps⟩:=yZ _ _ rfl
 have HR:=yA (hR.below (zK w3 (.cells #[.bool b1,.slice q n1 k1,.slice q2 m1 k2,.int .i64 p0,.int .i64 p1,.int .i64 p2,.int .i64 p3,.int .i64 p4,.int .i64 p5,.int .i64 p6,.int .i64 1] 66)))
 have Hps:=yA hps
 have Hrf:=yA ((hrf.out.next hb3).next (zK w3 (.cells #[.bool b1,.slice q n1 k1,.slice q2 m1 k2,.int .i64 p0,.int .i64 p1,.int .i64 p2,.int .i64 p3,.int .i64 p4,.int .i64 p5,.int .i64 p6,.int .i64 1] 66)))
 obtain ⟨z0,z1,z2,z3,z4,z5,z6,z7,z8,z9,z10,⟨l0,l1,l2,l3,l4,l5,l6,l7,l8,l9,l10⟩,⟨f0,f1,f2,f3,f4,f5,f6,f7,f8,f9,f10⟩⟩:=Hrf.out.slots
 have yE:Hid (∀ W,W=((((((((((((w3.alloc (.cells #[.bool b1,.slice q n1 k1,.slice q2 m1 k2,.int .i64 p0,.int .i64 p1,.int .i64 p2,.int .i64 p3,.int .i64 p4,.int .i64 p5,.int .i64 p6,.int .i64 1] 66)).setCell ⟨w.heap.size,0,none⟩ (.bool b1)).setCell ⟨w.heap.size,1,none⟩ (.slice q n1 k1)).setCell ⟨w.heap.size,2,none⟩ (.slice q2 m1 k2)).setCell ⟨w.heap.size,3,none⟩ (.int .i64 p0)).setCell ⟨w.heap.size,4,none⟩ (.int .i64 p1)).setCell ⟨w.heap.size,5,none⟩ (.int .i64 p2)).setCell ⟨w.heap.size,6,none⟩ (.int .i64 p3)).setCell ⟨w.heap.size,7,none⟩ (.int .i64 p4)).setCell ⟨w.heap.size,8,none⟩ (.int .i64 p5)).setCell ⟨w.heap.size,9,none⟩ (.int .i64 p6)).setCell ⟨w.heap.size,10,none⟩ (.int .i64 1))→yM (some (⟨v,ps,1⟩,n)) w (.returned (.tuple #[.agg #[.bool b1,.slice q n1 k1,.slice q2 m1 k2,.int .i64 p0,.int .i64 p1,.int .i64 p2,.int .i64 p3,.int .i64 p4,.int .i64 p5,.int .i64 p6,.int .i64 1],.int .i64 n])) W):=yA (by
  rintro W rfl
  refine ⟨(Hrf.out.put hle (.bool b1) (.slice q n1 k1) (.slice q2 m1 k2) (.int .i64 p0) (.int .i64 p1) (.int .i64 p2) (.int .i64 p3) (.int .i64 p4) (.int .i64 p5) (.int .i64 p6) (.int .i64 1) ⟨jI _,zA _ _ _,zA _ _ _,yD _,yD _,yD _,yD _,yD _,yD _,yD _,yD _⟩).1.below,_,_,_,_,_,_,_,_,_,_,_,_,_,_,_,rfl,?_⟩
  rintro _ _ h
  cases h
  exact ⟨Hrf.out.rat HR.out (.bool b1) (.slice q n1 k1) (.slice q2 m1 k2) (.int .i64 p0) (.int .i64 p1) (.int .i64 p2) (.int .i64 p3) (.int .i64 p4) (.int .i64 p5) (.int .i64 p6) (.int .i64 1) ⟨jI _,zA _ _ _,zA _ _ _,yD _,yD _,yD _,yD _,yD _,yD _,yD _,yD _⟩,Hps.out,rfl⟩)
 clear hb3 yZ hR hps
 go_wp2_with fail
 have hcells:=(Hrf.out.put hle (.bool b1) (.slice q n1 k1) (.slice q2 m1 k2) (.int .i64 p0) (.int .i64 p1) (.int .i64 p2) (.int .i64 p3) (.int .i64 p4) (.int .i64 p5) (.int .i64 p6) (.int .i64 1) ⟨jI _,zA _ _ _,zA _ _ _,yD _,yD _,yD _,yD _,yD _,yD _,yD _,yD _⟩).2
 generalize (((((((((((w3.alloc (.cells #[.bool b1,.slice q n1 k1,.slice q2 m1 k2,.int .i64 p0,.int .i64 p1,.int .i64 p2,.int .i64 p3,.int .i64 p4,.int .i64 p5,.int .i64 p6,.int .i64 1] 66)).setCell ⟨w.heap.size,0,none⟩ (.bool b1)).setCell ⟨w.heap.size,1,none⟩ (.slice q n1 k1)).setCell ⟨w.heap.size,2,none⟩ (.slice q2 m1 k2)).setCell ⟨w.heap.size,3,none⟩ (.int .i64 p0)).setCell ⟨w.heap.size,4,none⟩ (.int .i64 p1)).setCell ⟨w.heap.size,5,none⟩ (.int .i64 p2)).setCell ⟨w.heap.size,6,none⟩ (.int .i64 p3)).setCell ⟨w.heap.size,7,none⟩ (.int .i64 p4)).setCell ⟨w.heap.size,8,none⟩ (.int .i64 p5)).setCell ⟨w.heap.size,9,none⟩ (.int .i64 p6)).setCell ⟨w.heap.size,10,none⟩ (.int .i64 1)=WW at hcells yE ⊢
 have c0:=yB hcells 0
 have c1:=yB hcells 1
 have c2:=yB hcells 2
 have c3:=yB hcells 3
 have c4:=yB hcells 4
 have c5:=yB hcells 5
 have c6:=yB hcells 6
 have c7:=yB hcells 7
 have c8:=yB hcells 8
 have c9:=yB hcells 9
 have c10:=yB hcells 10
 refine bodyPost_ret (v:=.tuple #[.agg #[.bool b1,.slice q n1 k1,.slice q2 m1 k2,.int .i64 p0,.int .i64 p1,.int .i64 p2,.int .i64 p3,.int .i64 p4,.int .i64 p5,.int .i64 p6,.int .i64 1],.int .i64 n]) (by simp [results,Tryz.results54,go_sem,c0,c1,c2,c3,c4,c5,c6,c7,c8,c9,c10]) rfl ?_
 exact yE.out _ rfl
theorem ygz (s:ByteArray) (n:Nat) (v:Rat) (ps:List Int) (w:World) (hn:n≤s.size) (_hmax:(s.size:Int)≤9223372036854775807) (hlt:n<s.size) (hc:(((s[n]'hlt).toNat:Int)==94)=false) (hcl:∀ W,Hid (Calls Tryz.prog 85 #[.string s] W fun e w'=>e=.returned (.int .i64 n)∧W=w')) (hw:∀ W,Hid (Calls Tryz.prog 86 #[.string (s.extract 0 n)] W (vF (some (v,ps)) W))):Calls Tryz.prog 54 #[.string s] w (yM (some (⟨v,ps,1⟩,n)) w):=by
 have hrf:=yA (ResF.start w)
 have hle:w.heap.size≤w.heap.size:=Nat.le_refl _
 go_enter Tryz.func54,Tryz.ntmps54
 go_wp2_with fail
 refine (hcl _).out.mono ?_
 rintro e w1 ⟨rfl,rfl⟩
 go_wp2_with fail
 refine (hw _).out.mono ?_
 rintro e w3 ⟨hb3,b1,q,n1,k1,q2,m1,k2,p0,p1,p2,p3,p4,p5,p6,rfl,yZ⟩
 obtain ⟨hR,hps⟩:=yZ _ _ rfl
 have HR:=yA (hR.below (zK w3 (.cells #[.bool b1,.slice q n1 k1,.slice q2 m1 k2,.int .i64 p0,.int .i64 p1,.int .i64 p2,.int .i64 p3,.int .i64 p4,.int .i64 p5,.int .i64 p6,.int .i64 1] 66)))
 have Hps:=yA hps
 have Hrf:=yA ((hrf.out.next hb3).next (zK w3 (.cells #[.bool b1,.slice q n1 k1,.slice q2 m1 k2,.int .i64 p0,.int .i64 p1,.int .i64 p2,.int .i64 p3,.int .i64 p4,.int .i64 p5,.int .i64 p6,.int .i64 1] 66)))
 obtain ⟨z0,z1,z2,z3,z4,z5,z6,z7,z8,z9,z10,⟨l0,l1,l2,l3,l4,l5,l6,l7,l8,l9,l10⟩,⟨f0,f1,f2,f3,f4,f5,f6,f7,f8,f9,f10⟩⟩:=Hrf.out.slots
 have yE:Hid (∀ W,W=((((((((((((w3.alloc (.cells #[.bool b1,.slice q n1 k1,.slice q2 m1 k2,.int .i64 p0,.int .i64 p1,.int .i64 p2,.int .i64 p3,.int .i64 p4,.int .i64 p5,.int .i64 p6,.int .i64 1] 66)).setCell ⟨w.heap.size,0,none⟩ (.bool b1)).setCell ⟨w.heap.size,1,none⟩ (.slice q n1 k1)).setCell ⟨w.heap.size,2,none⟩ (.slice q2 m1 k2)).setCell ⟨w.heap.size,3,none⟩ (.int .i64 p0)).setCell ⟨w.heap.size,4,none⟩ (.int .i64 p1)).setCell ⟨w.heap.size,5,none⟩ (.int .i64 p2)).setCell ⟨w.heap.size,6,none⟩ (.int .i64 p3)).setCell ⟨w.heap.size,7,none⟩ (.int .i64 p4)).setCell ⟨w.heap.size,8,none⟩ (.int .i64 p5)).setCell ⟨w.heap.size,9,none⟩ (.int .i64 p6)).setCell ⟨w.heap.size,10,none⟩ (.int .i64 1))→yM (some (⟨v,ps,1⟩,n)) w (.returned (.tuple #[.agg #[.bool b1,.slice q n1 k1,.slice q2 m1 k2,.int .i64 p0,.int .i64 p1,.int .i64 p2,.int .i64 p3,.int .i64 p4,.int .i64 p5,.int .i64 p6,.int .i64 1],.int .i64 n])) W):=yA (by
  rintro W rfl
  refine ⟨(Hrf.out.put hle (.bool b1) (.slice q n1 k1) (.slice q2 m1 k2) (.int .i64 p0) (.int .i64 p1) (.int .i64 p2) (.int .i64 p3) (.int .i64 p4) (.int .i64 p5) (.int .i64 p6) (.int .i64 1) ⟨jI _,zA _ _ _,zA _ _ _,yD _,yD _,yD _,yD _,yD _,yD _,yD _,yD _⟩).1.below,_,_,_,_,_,_,_,_,_,_,_,_,_,_,_,rfl,?_⟩
  rintro _ _ h
  cases h
  exact ⟨Hrf.out.rat HR.out (.bool b1) (.slice q n1 k1) (.slice q2 m1 k2) (.int .i64 p0) (.int .i64 p1) (.int .i64 p2) (.int .i64 p3) (.int .i64 p4) (.int .i64 p5) (.int .i64 p6) (.int .i64 1) ⟨jI _,zA _ _ _,zA _ _ _,yD _,yD _,yD _,yD _,yD _,yD _,yD _,yD _⟩,Hps.out,rfl⟩)
 clear hb3 yZ hR hps
 go_wp2_with fail
 have hcells:=(Hrf.out.put hle (.bool b1) (.slice q n1 k1) (.slice q2 m1 k2) (.int .i64 p0) (.int .i64 p1) (.int .i64 p2) (.int .i64 p3) (.int .i64 p4) (.int .i64 p5) (.int .i64 p6) (.int .i64 1) ⟨jI _,zA _ _ _,zA _ _ _,yD _,yD _,yD _,yD _,yD _,yD _,yD _,yD _⟩).2
 generalize (((((((((((w3.alloc (.cells #[.bool b1,.slice q n1 k1,.slice q2 m1 k2,.int .i64 p0,.int .i64 p1,.int .i64 p2,.int .i64 p3,.int .i64 p4,.int .i64 p5,.int .i64 p6,.int .i64 1] 66)).setCell ⟨w.heap.size,0,none⟩ (.bool b1)).setCell ⟨w.heap.size,1,none⟩ (.slice q n1 k1)).setCell ⟨w.heap.size,2,none⟩ (.slice q2 m1 k2)).setCell ⟨w.heap.size,3,none⟩ (.int .i64 p0)).setCell ⟨w.heap.size,4,none⟩ (.int .i64 p1)).setCell ⟨w.heap.size,5,none⟩ (.int .i64 p2)).setCell ⟨w.heap.size,6,none⟩ (.int .i64 p3)).setCell ⟨w.heap.size,7,none⟩ (.int .i64 p4)).setCell ⟨w.heap.size,8,none⟩ (.int .i64 p5)).setCell ⟨w.heap.size,9,none⟩ (.int .i64 p6)).setCell ⟨w.heap.size,10,none⟩ (.int .i64 1)=WW at hcells yE ⊢
 have c0:=yB hcells 0
 have c1:=yB hcells 1
 have c2:=yB hcells 2
 have c3:=yB hcells 3
 have c4:=yB hcells 4
 have c5:=yB hcells 5
 have c6:=yB hcells 6
 have c7:=yB hcells 7
 have c8:=yB hcells 8
 have c9:=yB hcells 9
 have c10:=yB hcells 10
 refine bodyPost_ret (v:=.tuple #[.agg #[.bool b1,.slice q n1 k1,.slice q2 m1 k2,.int .i64 p0,.int .i64 p1,.int .i64 p2,.int .i64 p3,.int .i64 p4,.int .i64 p5,.int .i64 p6,.int .i64 1],.int .i64 n]) (by simp [results,Tryz.results54,go_sem,c0,c1,c2,c3,c4,c5,c6,c7,c8,c9,c10]) rfl ?_
 exact yE.out _ rfl
theorem yjT (s:ByteArray) (n:Nat) (v:Rat) (ps:List Int) (w:World) (hn:n≤s.size) (hmax:(s.size:Int)≤100000) (hlt:n<s.size) (hc:(((s[n]'hlt).toNat:Int)==94)=true) (hcl:∀ W,Hid (Calls Tryz.prog 85 #[.string s] W fun e w'=>e=.returned (.int .i64 n)∧W=w')) (hw:∀ W,Hid (Calls Tryz.prog 86 #[.string (s.extract 0 n)] W (vF (some (v,ps)) W))) (hx:∀ W,Hid (Calls Tryz.prog 87 #[.string (s.extract (n+1) s.size)] W fun e w'=>e=.returned (.tuple #[.int .i64 0,.int .i64 0])∧Below W.heap.size W w')):Calls Tryz.prog 54 #[.string s] w (yM none w):=by
 have hrf:=yA (ResF.start w)
 have hle:w.heap.size≤w.heap.size:=Nat.le_refl _
 go_enter Tryz.func54,Tryz.ntmps54
 go_wp2_with fail
 refine (hcl _).out.mono ?_
 rintro e w1 ⟨rfl,rfl⟩
 go_wp2_with fail
 refine (hw _).out.mono ?_
 rintro e w3 ⟨hb3,b1,q,n1,k1,q2,m1,k2,p0,p1,p2,p3,p4,p5,p6,rfl,yZ⟩
 have yrG:=yA (yV w3 (.cells #[.bool b1,.slice q n1 k1,.slice q2 m1 k2,.int .i64 p0,.int .i64 p1,.int .i64 p2,.int .i64 p3,.int .i64 p4,.int .i64 p5,.int .i64 p6,.int .i64 1] 66))
 have yiH:=yA ((hrf.out.next hb3).next (zK w3 (.cells #[.bool b1,.slice q n1 k1,.slice q2 m1 k2,.int .i64 p0,.int .i64 p1,.int .i64 p2,.int .i64 p3,.int .i64 p4,.int .i64 p5,.int .i64 p6,.int .i64 1] 66)))
 have yn6:Hid (w.heap.size<w3.heap.size):=yA (hrf.out.next hb3).lt
 go_wp2_with fail
 refine (hx _).out.mono ?_
 rintro e w4 ⟨rfl,hb4⟩
 have hbx:=(hb4.block w3.heap.size (by simp)).trans yrG.out
 have Hrf:=yA (yiH.out.next hb4)
 obtain ⟨z0,z1,z2,z3,z4,z5,z6,z7,z8,z9,z10,⟨l0,l1,l2,l3,l4,l5,l6,l7,l8,l9,l10⟩,⟨f0,f1,f2,f3,f4,f5,f6,f7,f8,f9,f10⟩⟩:=Hrf.out.slots
 have yE:Hid (∀ W,W=((((((((((((w4).setCell ⟨w.heap.size,0,none⟩ (.bool false)).setCell ⟨w.heap.size,1,none⟩ (.slice none 0 0)).setCell ⟨w.heap.size,2,none⟩ (.slice none 0 0)).setCell ⟨w.heap.size,3,none⟩ (.int .i64 0)).setCell ⟨w.heap.size,4,none⟩ (.int .i64 0)).setCell ⟨w.heap.size,5,none⟩ (.int .i64 0)).setCell ⟨w.heap.size,6,none⟩ (.int .i64 0)).setCell ⟨w.heap.size,7,none⟩ (.int .i64 0)).setCell ⟨w.heap.size,8,none⟩ (.int .i64 0)).setCell ⟨w.heap.size,9,none⟩ (.int .i64 0)).setCell ⟨w.heap.size,10,none⟩ (.int .i64 0))→yM none w (.returned (.tuple #[.agg #[.bool false,.slice none 0 0,.slice none 0 0,.int .i64 0,.int .i64 0,.int .i64 0,.int .i64 0,.int .i64 0,.int .i64 0,.int .i64 0,.int .i64 0],.int .i64 0])) W):=yA (by
  rintro W rfl
  exact ⟨(Hrf.out.put hle (.bool false) (.slice none 0 0) (.slice none 0 0) (.int .i64 0) (.int .i64 0) (.int .i64 0) (.int .i64 0) (.int .i64 0) (.int .i64 0) (.int .i64 0) (.int .i64 0) ⟨jI _,zA _ _ _,zA _ _ _,yD _,yD _,yD _,yD _,yD _,yD _,yD _,yD _⟩).1.below,_,_,_,_,_,_,_,_,_,_,_,_,_,_,_,rfl,by rintro _ _ h;cases h⟩)
 clear hb3 yZ hb4 hbx
 go_wp2_with fail
 have hcells:=(Hrf.out.put hle (.bool false) (.slice none 0 0) (.slice none 0 0) (.int .i64 0) (.int .i64 0) (.int .i64 0) (.int .i64 0) (.int .i64 0) (.int .i64 0) (.int .i64 0) (.int .i64 0) ⟨jI _,zA _ _ _,zA _ _ _,yD _,yD _,yD _,yD _,yD _,yD _,yD _,yD _⟩).2
 generalize (((((((((((w4).setCell ⟨w.heap.size,0,none⟩ (.bool false)).setCell ⟨w.heap.size,1,none⟩ (.slice none 0 0)).setCell ⟨w.heap.size,2,none⟩ (.slice none 0 0)).setCell ⟨w.heap.size,3,none⟩ (.int .i64 0)).setCell ⟨w.heap.size,4,none⟩ (.int .i64 0)).setCell ⟨w.heap.size,5,none⟩ (.int .i64 0)).setCell ⟨w.heap.size,6,none⟩ (.int .i64 0)).setCell ⟨w.heap.size,7,none⟩ (.int .i64 0)).setCell ⟨w.heap.size,8,none⟩ (.int .i64 0)).setCell ⟨w.heap.size,9,none⟩ (.int .i64 0)).setCell ⟨w.heap.size,10,none⟩ (.int .i64 0)=WW at hcells yE ⊢
 have c0:=yB hcells 0
 have c1:=yB hcells 1
 have c2:=yB hcells 2
 have c3:=yB hcells 3
 have c4:=yB hcells 4
 have c5:=yB hcells 5
 have c6:=yB hcells 6
 have c7:=yB hcells 7
 have c8:=yB hcells 8
 have c9:=yB hcells 9
 have c10:=yB hcells 10
 refine bodyPost_ret (v:=.tuple #[.agg #[.bool false,.slice none 0 0,.slice none 0 0,.int .i64 0,.int .i64 0,.int .i64 0,.int .i64 0,.int .i64 0,.int .i64 0,.int .i64 0,.int .i64 0],.int .i64 0]) (by simp [results,Tryz.results54,go_sem,c0,c1,c2,c3,c4,c5,c6,c7,c8,c9,c10]) rfl ?_
 exact yE.out _ rfl
theorem yjU (s:ByteArray) (n k:Nat) (x:Int) (v:Rat) (ps:List Int) (w:World) (hn:n≤s.size) (hmax:(s.size:Int)≤100000) (hlt:n<s.size) (hc:(((s[n]'hlt).toNat:Int)==94)=true) (hk:0<k) (hk2:k≤100000) (hk3:((k:Int)==0)=false) (hcl:∀ W,Hid (Calls Tryz.prog 85 #[.string s] W fun e w'=>e=.returned (.int .i64 n)∧W=w')) (hw:∀ W,Hid (Calls Tryz.prog 86 #[.string (s.extract 0 n)] W (vF (some (v,ps)) W))) (hx:∀ W,Hid (Calls Tryz.prog 87 #[.string (s.extract (n+1) s.size)] W fun e w'=>e=.returned (.tuple #[.int .i64 x,.int .i64 k])∧Below W.heap.size W w')):Calls Tryz.prog 54 #[.string s] w (yM (some (⟨v,ps,x⟩,n+(1+k))) w):=by
 have hrf:=yA (ResF.start w)
 have hle:w.heap.size≤w.heap.size:=Nat.le_refl _
 go_enter Tryz.func54,Tryz.ntmps54
 go_wp2_with fail
 refine (hcl _).out.mono ?_
 rintro e w1 ⟨rfl,rfl⟩
 go_wp2_with fail
 refine (hw _).out.mono ?_
 rintro e w3 ⟨hb3,b1,q,n1,k1,q2,m1,k2,p0,p1,p2,p3,p4,p5,p6,rfl,yZ⟩
 obtain ⟨hR,hps⟩:=yZ _ _ rfl
 have HR3:=yA (hR.below (zK w3 (.cells #[.bool b1,.slice q n1 k1,.slice q2 m1 k2,.int .i64 p0,.int .i64 p1,.int .i64 p2,.int .i64 p3,.int .i64 p4,.int .i64 p5,.int .i64 p6,.int .i64 1] 66)))
 have Hps:=yA hps
 have yrG:=yA (yV w3 (.cells #[.bool b1,.slice q n1 k1,.slice q2 m1 k2,.int .i64 p0,.int .i64 p1,.int .i64 p2,.int .i64 p3,.int .i64 p4,.int .i64 p5,.int .i64 p6,.int .i64 1] 66))
 have yiH:=yA ((hrf.out.next hb3).next (zK w3 (.cells #[.bool b1,.slice q n1 k1,.slice q2 m1 k2,.int .i64 p0,.int .i64 p1,.int .i64 p2,.int .i64 p3,.int .i64 p4,.int .i64 p5,.int .i64 p6,.int .i64 1] 66)))
 have yn6:Hid (w.heap.size<w3.heap.size):=yA (hrf.out.next hb3).lt
 go_wp2_with fail
 refine (hx _).out.mono ?_
 rintro e w4 ⟨rfl,hb4⟩
 have hbx:=(hb4.block w3.heap.size (by simp)).trans yrG.out
 have hn1:=yab (z0:=.bool b1) (z1:=.slice q n1 k1) (z2:=.slice q2 m1 k2) (z3:=.int .i64 p0) (z4:=.int .i64 p1) (z5:=.int .i64 p2) (z6:=.int .i64 p3) (z7:=.int .i64 p4) (z8:=.int .i64 p5) (z9:=.int .i64 p6) (z10:=.int .i64 1) ⟨jI _,zA _ _ _,zA _ _ _,yD _,yD _,yD _,yD _,yD _,yD _,yD _,yD _⟩
 have HR:=yA (vX hbx hn1 (HR3.out.below hb4) 10 (.int .i64 x))
 have Hrf:=yA ((yiH.out.next hb4).set_far w3.heap.size 10 (.int .i64 x) (Nat.le_of_lt yn6.out) (Nat.ne_of_lt yn6.out))
 have ydz:(w4.setCell ⟨w3.heap.size,10,none⟩ (.int .i64 x)).heap[w3.heap.size]?=some (.cells #[.bool b1,.slice q n1 k1,.slice q2 m1 k2,.int .i64 p0,.int .i64 p1,.int .i64 p2,.int .i64 p3,.int .i64 p4,.int .i64 p5,.int .i64 p6,.int .i64 x] 66 (0,0)):=yK w3.heap.size 10 _ 66 (.int .i64 x) hbx
 have e10:=yB hbx 10
 have g10:=vB hbx 10
 have d0:=yB ydz 0
 have d1:=yB ydz 1
 have d2:=yB ydz 2
 have d3:=yB ydz 3
 have d4:=yB ydz 4
 have d5:=yB ydz 5
 have d6:=yB ydz 6
 have d7:=yB ydz 7
 have d8:=yB ydz 8
 have d9:=yB ydz 9
 have d10:=yB ydz 10
 obtain ⟨z0,z1,z2,z3,z4,z5,z6,z7,z8,z9,z10,⟨l0,l1,l2,l3,l4,l5,l6,l7,l8,l9,l10⟩,⟨f0,f1,f2,f3,f4,f5,f6,f7,f8,f9,f10⟩⟩:=Hrf.out.slots
 have yE:Hid (∀ W,W=((((((((((((w4.setCell ⟨w3.heap.size,10,none⟩ (.int .i64 x)).setCell ⟨w.heap.size,0,none⟩ (.bool b1)).setCell ⟨w.heap.size,1,none⟩ (.slice q n1 k1)).setCell ⟨w.heap.size,2,none⟩ (.slice q2 m1 k2)).setCell ⟨w.heap.size,3,none⟩ (.int .i64 p0)).setCell ⟨w.heap.size,4,none⟩ (.int .i64 p1)).setCell ⟨w.heap.size,5,none⟩ (.int .i64 p2)).setCell ⟨w.heap.size,6,none⟩ (.int .i64 p3)).setCell ⟨w.heap.size,7,none⟩ (.int .i64 p4)).setCell ⟨w.heap.size,8,none⟩ (.int .i64 p5)).setCell ⟨w.heap.size,9,none⟩ (.int .i64 p6)).setCell ⟨w.heap.size,10,none⟩ (.int .i64 x))→yM (some (⟨v,ps,x⟩,n+(1+k))) w (.returned (.tuple #[.agg #[.bool b1,.slice q n1 k1,.slice q2 m1 k2,.int .i64 p0,.int .i64 p1,.int .i64 p2,.int .i64 p3,.int .i64 p4,.int .i64 p5,.int .i64 p6,.int .i64 x],.int .i64 (n+(1+k))])) W):=yA (by
  rintro W rfl
  refine ⟨(Hrf.out.put hle (.bool b1) (.slice q n1 k1) (.slice q2 m1 k2) (.int .i64 p0) (.int .i64 p1) (.int .i64 p2) (.int .i64 p3) (.int .i64 p4) (.int .i64 p5) (.int .i64 p6) (.int .i64 x) ⟨jI _,zA _ _ _,zA _ _ _,yD _,yD _,yD _,yD _,yD _,yD _,yD _,yD _⟩).1.below,_,_,_,_,_,_,_,_,_,_,_,_,_,_,_,rfl,?_⟩
  rintro _ _ h
  cases h
  exact ⟨Hrf.out.rat HR.out (.bool b1) (.slice q n1 k1) (.slice q2 m1 k2) (.int .i64 p0) (.int .i64 p1) (.int .i64 p2) (.int .i64 p3) (.int .i64 p4) (.int .i64 p5) (.int .i64 p6) (.int .i64 x) ⟨jI _,zA _ _ _,zA _ _ _,yD _,yD _,yD _,yD _,yD _,yD _,yD _,yD _⟩,Hps.out,rfl⟩)
 clear hb3 yZ hb4 hbx ydz hR hps hn1
 go_wp2_with fail
 have hcells:=(Hrf.out.put hle (.bool b1) (.slice q n1 k1) (.slice q2 m1 k2) (.int .i64 p0) (.int .i64 p1) (.int .i64 p2) (.int .i64 p3) (.int .i64 p4) (.int .i64 p5) (.int .i64 p6) (.int .i64 x) ⟨jI _,zA _ _ _,zA _ _ _,yD _,yD _,yD _,yD _,yD _,yD _,yD _,yD _⟩).2
 generalize (((((((((((w4.setCell ⟨w3.heap.size,10,none⟩ (.int .i64 x)).setCell ⟨w.heap.size,0,none⟩ (.bool b1)).setCell ⟨w.heap.size,1,none⟩ (.slice q n1 k1)).setCell ⟨w.heap.size,2,none⟩ (.slice q2 m1 k2)).setCell ⟨w.heap.size,3,none⟩ (.int .i64 p0)).setCell ⟨w.heap.size,4,none⟩ (.int .i64 p1)).setCell ⟨w.heap.size,5,none⟩ (.int .i64 p2)).setCell ⟨w.heap.size,6,none⟩ (.int .i64 p3)).setCell ⟨w.heap.size,7,none⟩ (.int .i64 p4)).setCell ⟨w.heap.size,8,none⟩ (.int .i64 p5)).setCell ⟨w.heap.size,9,none⟩ (.int .i64 p6)).setCell ⟨w.heap.size,10,none⟩ (.int .i64 x)=WW at hcells yE ⊢
 have c0:=yB hcells 0
 have c1:=yB hcells 1
 have c2:=yB hcells 2
 have c3:=yB hcells 3
 have c4:=yB hcells 4
 have c5:=yB hcells 5
 have c6:=yB hcells 6
 have c7:=yB hcells 7
 have c8:=yB hcells 8
 have c9:=yB hcells 9
 have c10:=yB hcells 10
 refine bodyPost_ret (v:=.tuple #[.agg #[.bool b1,.slice q n1 k1,.slice q2 m1 k2,.int .i64 p0,.int .i64 p1,.int .i64 p2,.int .i64 p3,.int .i64 p4,.int .i64 p5,.int .i64 p6,.int .i64 x],.int .i64 (n+(1+k))]) (by simp [results,Tryz.results54,go_sem,c0,c1,c2,c3,c4,c5,c6,c7,c8,c9,c10]) rfl ?_
 exact yE.out _ rfl
theorem ydD (s:ByteArray) (n:Nat) (_h:n≤s.size):(s.extract 0 n).data.toList=s.data.toList.take n:=by
 simp
theorem GS (s:ByteArray) (n:Nat):(s.extract n s.size).data.toList=s.data.toList.drop n:=by
 rw [Lib.extract_to_end]
theorem ybU (l:List UInt8):zG l≤l.length:=by
 unfold zG
 exact (List.takeWhile_sublist _).length_le
theorem yaP {l:List UInt8} {v:Rat} {ps:List Int} (hw:uX (l.take (zG l))=some (v,ps)) (h:∀ t,l.drop (zG l)≠94::t):GG l=some (⟨v,ps,1⟩,zG l):=by
 unfold GG
 rw [hw]
 cases hd:l.drop (zG l) with
 | nil=>rfl
 | cons c t =>
  by_cases hc:c=94
  ·subst hc;exact absurd hd (h t)
  ·simp only
   split
   ·rename_i h2;simp only [List.cons.injEq] at h2;exact absurd h2.1 hc
   ·rfl
theorem yep {l t:List UInt8} {v:Rat} {ps:List Int} (hw:uX (l.take (zG l))=some (v,ps)) (h:l.drop (zG l)=94::t):GG l=if (uA t).2=0 then none else some (⟨v,ps,(uA t).1⟩,zG l+1+(uA t).2):=by
 unfold GG
 rw [hw]
 simp only [h]
theorem yje (l:List UInt8):(uA l).2≤l.length:=by
 unfold uA
 split
 ·rename_i t
  have:=vN t
  split<;>simp<;>omega
 ·have:=vN l
  split<;>simp<;>omega
theorem yly {l:List UInt8} (h:(uA l).2=0):(uA l).1=0:=by
 cases l with
 | nil=>rfl
 | cons c t =>
  by_cases hc:c=45
  ·subst hc
   have e:uA (45::t)=if yF t=0 then (0,0) else (-vG (t.take (yF t)),1+yF t):=rfl
   rw [e] at h ⊢
   by_cases h0:yF t=0
   ·rw [if_pos h0]
   ·rw [if_neg h0] at h;simp at h
  ·rw [ycF hc] at h ⊢
   by_cases h0:yF (c::t)=0
   ·rw [if_pos h0]
   ·rw [if_neg h0] at h;exact absurd h h0
theorem yfM (s:ByteArray) (w:World) (hmax:s.size≤90000):Calls Tryz.prog 54 #[.string s] w (yM (GG s.data.toList) w):=by
 have hlen:s.data.toList.length=s.size:=by simp
 have hcl:∀ W,Hid (Calls Tryz.prog 85 #[.string s] W fun e w'=>e=.returned (.int .i64 (zG s.data.toList))∧W=w'):=fun W=>yA (yee s W (by omega))
 have hn:zG s.data.toList≤s.size:=by have:=ybU s.data.toList;omega
 have hw:∀ W,Calls Tryz.prog 86 #[.string (s.extract 0 (zG s.data.toList))] W (vF (uX (s.data.toList.take (zG s.data.toList))) W):=fun W=>by
  rw [← ydD s _ hn]
  exact yhV _ W (by simp;omega)
 cases hwt:uX (s.data.toList.take (zG s.data.toList)) with
 | none =>
  rw [hwt] at hw
  have:GG s.data.toList=none:=by unfold GG;rw [hwt]
  rw [this]
  exact yhW s _ w hn (by omega) hcl fun W=>yA (hw W)
 | some x =>
  obtain ⟨v,ps⟩:=x
  rw [hwt] at hw
  by_cases hlt:zG s.data.toList<s.size
  ·have yag:s.data.toList.drop (zG s.data.toList)=s[zG s.data.toList]'hlt::s.data.toList.drop (zG s.data.toList+1):=by
    rw [List.drop_eq_getElem_cons (by omega)];rfl
   by_cases hc:(((s[zG s.data.toList]'hlt).toNat:Int)==94)=true
   ·have hc':s[zG s.data.toList]'hlt=94:=by
     rw [beq_iff_eq] at hc
     apply UInt8.toNat_inj.1;have:((94:UInt8)).toNat=94:=rfl;omega
    rw [hc'] at yag
    rw [yep hwt yag]
    have hx:∀ W,Calls Tryz.prog 87 #[.string (s.extract (zG s.data.toList+1) s.size)] W fun e w'=>e=.returned (.tuple #[.int .i64 (uA (s.data.toList.drop (zG s.data.toList+1))).1,.int .i64 ((uA (s.data.toList.drop (zG s.data.toList+1))).2:Nat)])∧Below W.heap.size W w':=fun W=>by
     rw [← GS]
     exact yef _ W (by simp;omega)
    have hle:=yje (s.data.toList.drop (zG s.data.toList+1))
    rw [List.length_drop] at hle
    by_cases h0:(uA (s.data.toList.drop (zG s.data.toList+1))).2=0
    ·rw [if_pos h0]
     have h00:(uA (s.data.toList.drop (zG s.data.toList+1))).1=0:=yly h0
     rw [h0,h00] at hx
     exact yjT s _ v ps w hn (by omega) hlt hc hcl (fun W=>yA (hw W)) fun W=>yA (hx W)
    ·rw [if_neg h0,Nat.add_assoc]
     exact yjU s _ _ _ v ps w hn (by omega) hlt hc (by omega) (by omega) (by rw [beq_eq_false_iff_ne];omega) hcl (fun W=>yA (hw W)) fun W=>yA (hx W)
   ·rw [Bool.not_eq_true] at hc
    rw [yaP hwt (by
     intro t ht
     rw [yag] at ht
     simp only [List.cons.injEq] at ht
     rw [ht.1] at hc
     revert hc;decide)]
    exact ygz s _ v ps w hn (by omega) hlt hc hcl fun W=>yA (hw W)
  ·rw [yaP hwt (by
    intro t ht
    have:=congrArg List.length ht
    rw [List.length_drop,List.length_cons] at this
    omega)]
   exact yjS s _ v ps w hn (by omega) (by omega) hcl fun W=>yA (hw W)
theorem yjV {l:List UInt8} {n d L K:Nat} (h:vY l=some (n,d)) (hl:l.length≤L) (hK:10^L<yC^K):n<yC^K∧d<yC^K:=by
 have hdv:∀ m:List UInt8,yR m=true→m.length≤L→yX m<yC^K:=fun m hm hlm=>by
  have h1:=ybS m (jM hm)
  have h2:10^m.length≤10^L:=Nat.pow_le_pow_right (by omega) hlm
  omega
 have h1:1<yC^K:=by
  have:10^0≤10^L:=Nat.pow_le_pow_right (by omega) (Nat.zero_le _)
  rw [Nat.pow_zero] at this;omega
 unfold vY at h
 obtain ⟨k1,k2,k3⟩:=ycw l 46
 obtain ⟨m1,m2,m3⟩:=ycw l 47
 split at h
 ·split at h
  ·rename_i hd
   rw [Bool.and_eq_true] at hd
   simp only [Option.some.injEq,Prod.mk.injEq] at h
   obtain ⟨rfl,rfl⟩:=h
   have e1:yR ((Lib.cut l [46]).1++(Lib.cut l [46]).2.1)=true:=by
    unfold yR
    rw [List.all_append,jM hd.1,jM hd.2]
    have:=hd.1
    unfold yR at this
    simp at this ⊢
    intro h;exact absurd h this.2
   refine ⟨hdv _ e1 (by rw [List.length_append];omega),?_⟩
   have:10^(Lib.cut l [46]).2.1.length≤10^L:=Nat.pow_le_pow_right (by omega) (by omega)
   omega
  ·cases h
 ·split at h
  ·split at h
   ·rename_i hd
    rw [Bool.and_eq_true,Bool.and_eq_true] at hd
    simp only [Option.some.injEq,Prod.mk.injEq] at h
    obtain ⟨rfl,rfl⟩:=h
    exact ⟨hdv _ hd.1.1 (by omega),hdv _ hd.1.2 (by omega)⟩
   ·cases h
  ·split at h
   ·rename_i hd
    simp only [Option.some.injEq,Prod.mk.injEq] at h
    obtain ⟨rfl,rfl⟩:=h
    exact ⟨hdv _ hd hl,h1⟩
   ·cases h
theorem ynf {l:List UInt8} {s:Bool} {n d:Nat} (h:jL l=some (s,n,d)):0<d:=by
 unfold jL at h
 rw [Option.map_eq_some_iff] at h
 obtain ⟨⟨a,b⟩,h1,h2⟩:=h
 cases h2
 exact ycD h1
theorem yng {l:List UInt8} {s:Bool} {n d L K:Nat} (h:jL l=some (s,n,d)) (hl:l.length≤L) (hK:10^L<yC^K):n<yC^K∧d<yC^K:=by
 unfold jL at h
 rw [Option.map_eq_some_iff] at h
 obtain ⟨⟨n',d'⟩,h1,h2⟩:=h
 cases h2
 exact yjV h1 (Nat.le_trans (yfh l) hl) hK
theorem yq6 {L K:Nat} (h:L<19*K):10^L<yC^K:=by
 have h1:10^L<10^(19*K):=Nat.pow_lt_pow_right (by omega) h
 have h2:(10^19)^K≤yC^K:=Nat.pow_le_pow_left (by rw [yQ];decide) _
 rw [Nat.pow_mul] at h1
 exact Nat.lt_of_lt_of_le h1 h2
theorem ydE {l:List UInt8} {s:Bool} {n d L:Nat} (h:jL l=some (s,n,d)) (hl:l.length≤L) (hL:L<1140):n<yC^60∧d<yC^60 :=
 yng h hl (yq6 (by omega))
def zZ (r:List UInt8 × Int) (w:World) (e:Ending) (w':World):Prop:=e=.returned (.tuple #[.string ⟨r.1.toArray⟩,.int .i64 r.2])∧Below w.heap.size w w'
theorem yjW (s:ByteArray) (w:World) (h:(1000:Int)<s.size):Calls Tryz.prog 83 #[.string s] w (zZ ([],4) w):=by
 go_enter Tryz.func83,Tryz.ntmps83
 go_wp2_with fail
 go_ret2
 exact ⟨rfl,Below.refl _ _⟩
theorem yjX (s:ByteArray) (w:World) (h:(s.size:Int)≤1000) (hr:∀ W,Hid (Calls Tryz.prog 74 #[.string s] W (jZ none W))):Calls Tryz.prog 83 #[.string s] w (zZ ([],1) w):=by
 go_enter Tryz.func83,Tryz.ntmps83
 go_wp2_with fail
 refine (hr _).out.mono ?_
 rintro e w2 ⟨hb2,rfl⟩
 have hbw:=yA (hb2.trans ((zK w2 (.cells #[.bool false,.slice none 0 0,.slice none 0 0] 64)).mono hb2.size))
 clear hb2
 go_wp2_with fail
 go_ret2
 exact ⟨rfl,hbw.out⟩
theorem ylz (s:ByteArray) (q:Rat) (w:World) (h:(s.size:Int)≤1000) (hr:∀ W,Hid (Calls Tryz.prog 74 #[.string s] W fun e w'=>Below W.heap.size W w'∧∃ b p n c r m d,e=.returned (.tuple #[.agg #[.bool b,.slice p n c,.slice r m d],.bool true])∧zM w' (.agg #[.bool b,.slice p n c,.slice r m d]) q 60))
  (ht:∀ W x,Below w.heap.size w W→zM W x q 60→Hid (Calls Tryz.prog 60 #[x] W fun e w'=>e=.returned (.string ⟨#[]⟩)∧Below W.heap.size W w')):Calls Tryz.prog 83 #[.string s] w (zZ ([],4) w):=by
 go_enter Tryz.func83,Tryz.ntmps83
 go_wp2_with fail
 refine (hr _).out.mono ?_
 rintro e w2 ⟨hb2,b,p,n,c,r,m,d,rfl,hR⟩
 have hbw:=yA (hb2.trans ((zK w2 (.cells #[.bool b,.slice p n c,.slice r m d] 64)).mono hb2.size))
 have ht2:=ht _ _ hbw.out (hR.below (zK w2 (.cells #[.bool b,.slice p n c,.slice r m d] 64)))
 clear hb2 hR ht
 go_wp2_with fail
 refine ht2.out.mono ?_
 rintro e w3 ⟨rfl,hb3⟩
 have yf2:=yA (hbw.out.trans (hb3.mono hbw.out.size))
 clear hb3
 go_wp2_with fail
 go_ret2
 exact ⟨rfl,yf2.out⟩
theorem ynh (s:ByteArray) (q:Rat) (l:List UInt8) (w:World) (h:(s.size:Int)≤1000) (_hl:¬ l=[]) (hl2:l.isEmpty=false) (hr:∀ W,Hid (Calls Tryz.prog 74 #[.string s] W fun e w'=>Below W.heap.size W w'∧∃ b p n c r m d,e=.returned (.tuple #[.agg #[.bool b,.slice p n c,.slice r m d],.bool true])∧zM w' (.agg #[.bool b,.slice p n c,.slice r m d]) q 60))
  (ht:∀ W x,Below w.heap.size w W→zM W x q 60→Hid (Calls Tryz.prog 60 #[x] W fun e w'=>e=.returned (.string ⟨l.toArray⟩)∧Below W.heap.size W w')):Calls Tryz.prog 83 #[.string s] w (zZ (l,0) w):=by
 go_enter Tryz.func83,Tryz.ntmps83
 go_wp2_with fail
 refine (hr _).out.mono ?_
 rintro e w2 ⟨hb2,b,p,n,c,r,m,d,rfl,hR⟩
 have hbw:=yA (hb2.trans ((zK w2 (.cells #[.bool b,.slice p n c,.slice r m d] 64)).mono hb2.size))
 have ht2:=ht _ _ hbw.out (hR.below (zK w2 (.cells #[.bool b,.slice p n c,.slice r m d] 64)))
 clear hb2 hR ht
 go_wp2_with fail
 refine ht2.out.mono ?_
 rintro e w3 ⟨rfl,hb3⟩
 have yf2:=yA (hbw.out.trans (hb3.mono hbw.out.size))
 clear hb3
 go_wp2_with fail
 go_ret2
 exact ⟨rfl,yf2.out⟩
theorem ylA (s:ByteArray) (w:World) (htab:Tab w):Calls Tryz.prog 83 #[.string s] w (zZ (uJ s.data.toList) w):=by
 have hlen:s.data.toList.length=s.size:=by simp
 unfold uJ
 by_cases h:1000<s.size
 ·rw [if_pos (by omega)]
  exact yjW s w (by omega)
 ·rw [if_neg (by omega)]
  have hrd:∀ W,Calls Tryz.prog 74 #[.string s] W (jZ (jL s.data.toList) W):=fun W=>yfi s W (by omega)
  cases hr:jL s.data.toList with
  | none =>
   rw [hr] at hrd
   exact yjX s w (by omega) fun W=>yA (hrd W)
  | some x =>
   obtain ⟨sg,n,d⟩:=x
   rw [hr] at hrd
   simp only
   have hb:=ydE hr (Nat.le_refl _) (by omega)
   have hp:=ynf hr
   have hr2:∀ W,Hid (Calls Tryz.prog 74 #[.string s] W fun e w'=>Below W.heap.size W w'∧∃ b p n1 c r m d1,e=.returned (.tuple #[.agg #[.bool b,.slice p n1 c,.slice r m d1],.bool true])∧zM w' (.agg #[.bool b,.slice p n1 c,.slice r m d1]) (zD sg n d) 60):=fun W=>yA ((hrd W).mono fun e w' h=>⟨h.1,by
    have h2:=h.2
    obtain ⟨x,rfl,u,v,rfl,hu,hv,hs⟩:=h2
    obtain ⟨p,n1,c,rfl⟩:=hu.slice
    obtain ⟨q,m1,d1,rfl⟩:=hv.slice
    exact ⟨_,_,_,_,_,_,_,rfl,_,_,_,⟨_,_,rfl,hu,hv,hs⟩,by rw [vO],hp,hb.1,hb.2⟩⟩)
   have ht:∀ W x,Below w.heap.size w W→zM W x (zD sg n d) 60→Calls Tryz.prog 60 #[x] W fun e w'=>e=.returned (.string ⟨(uB (zD sg n d)).toArray⟩)∧Below W.heap.size W w':=fun W x hW hx=>yco x _ 60 W (by omega) hx (htab.below hW)
   by_cases hq:uB (zD sg n d)=[]
   ·rw [if_pos hq]
    rw [hq] at ht
    exact ylz s _ w (by omega) hr2 fun W x hW hx=>yA (ht W x hW hx)
   ·rw [if_neg hq]
    exact ynh s _ _ w (by omega) hq (by simpa using hq) hr2 fun W x hW hx=>yA (ht W x hW hx)
end Go.Proofs.YtfjnipkpfbkegaaGreatDoor
