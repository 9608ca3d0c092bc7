/- What a schema that was read holds: its names are of small letters and digits, its numbers small (no walk). -/
import Derived.Test.YtgalebcpagmohaaGreatDoorKEncMsg
import Derived.Test.YtgalebcpagmohaaGreatDoorMEncV
set_option maxHeartbeats 1000000
set_option maxRecDepth 100000
namespace Go.Proofs.YtgalebcpagmohaaGreatDoor
open Go.Proofs.Tryz
theorem Em (s:ByteArray):∀ (f k j:Nat),k≤j→j<bQ s f k→jP (B s j)=true
 | 0,k,j,h1,h2=>by simp only[bQ] at h2;omega
 | f+1,k,j,h1,h2=>by
  unfold bQ at h2
  by_cases h:k<s.size∧jP (B s k)=true
  ·rw[if_pos h] at h2
   rcases Nat.lt_or_ge k j with hk | hk
   ·exact Em s f (k+1) j (by omega) h2
   ·rw[show j=k by omega];exact h.2
  ·rw[if_neg h] at h2;omega
theorem V8 (c:UInt8):jP (c.toNat:Int)=gu c:=by
 have all:∀ a:Fin 256,jP ((UInt8.ofNat a.val).toNat:Int)=gu (UInt8.ofNat a.val):=by decide +kernel
 have:=all ⟨c.toNat,c.toNat_lt⟩
 simpa using this
theorem SN (c:Int):lC c≠2:=by unfold lC;split<;>(try split)<;>omega
theorem Tk.letters {s:ByteArray} {t:aF} (h:Tk s t) (h2:t.kind=2):∀ c∈t.text.toList,gu c=true:=by
 obtain⟨i,hi,rfl⟩:=h
 unfold gI at *
 generalize pz s i=k at *
 unfold gQ at h2 ⊢
 by_cases hk:k=s.size
 ·rw[if_pos hk] at h2;simp at h2
 ·rw[if_neg hk] at h2 ⊢
  by_cases hr:bQ s s.size k=k
  ·rw[if_pos hr] at h2;exact absurd h2 (SN _)
  ·rw[if_neg hr]
   intro c hc
   simp only at hc
   rw[ext_list] at hc
   obtain⟨q,hq,e⟩:=List.getElem_of_mem hc
   rw[List.length_take,List.length_drop] at hq
   rw[List.getElem_take,List.getElem_drop] at e
   have:=Em s s.size k (k+q) (by omega) (by omega)
   rw[← V8,← e]
   unfold B at this
   rw[List.getD_eq_getElem?_getD,List.getElem?_eq_getElem (by omega)] at this
   exact this
def En (s:ByteArray) (f:bD):Prop:=∃ t,Tk s t∧(aJ s t).1=true∧f=fU s t (jQ t.text.toList)
def LZ (s:ByteArray) (t:aF):Prop:=Tk s t∧bC t=true
theorem AX {s:ByteArray}:∀ (f:Nat) (t:aF) (L:List bD),Tk s t→(∀ x∈L,En s x)→∀ x∈(dO s f t L).2.2,En s x
 | 0,t,L,h,hL=>hL
 | f+1,t,L,h,hL=>by
  have hnew:(aJ s t).1=true→∀ x∈L++[fU s t (jQ t.text.toList)],En s x:=fun h1 x hx=>by
   rcases List.mem_append.1 hx with hx | hx
   ·exact hL x hx
   ·rw[List.mem_singleton.1 hx];exact⟨t,h,h1,rfl⟩
  unfold dO
  by_cases h1:(aJ s t).1=true
  ·rw[if_pos h1]
   by_cases h5:((aJ s t).2.kind==5)=true
   ·rw[if_pos h5];exact hnew h1
   ·rw[if_neg h5];exact AX f _ _ (rV h) (hnew h1)
  ·rw[if_neg h1];exact hL
theorem Eo {s:ByteArray}:∀ (f:Nat) (t:aF) (L:List aF),Tk s t→(∀ x∈L,LZ s x)→∀ x∈(namesT s f t L).2.2,LZ s x
 | 0,t,L,h,hL=>hL
 | f+1,t,L,h,hL=>by
  have hnew:bC t=true→∀ x∈L++[t],LZ s x:=fun h1 x hx=>by
   rcases List.mem_append.1 hx with hx | hx
   ·exact hL x hx
   ·rw[List.mem_singleton.1 hx];exact⟨h,h1⟩
  unfold namesT
  by_cases h1:bC t=true
  ·rw[if_pos h1]
   by_cases h5:((aj s t).kind==5)=true
   ·rw[if_pos h5];exact hnew h1
   ·rw[if_neg h5];exact Eo f _ _ h.next (hnew h1)
  ·rw[if_neg h1];exact hL
structure SQ (s:ByteArray) (p:iy):Prop where
 f:∀ f∈p.fields,En s f
 n:∀ t∈p.names,LZ s t
 m:LZ s p.name
 e:p.kind=0∨p.kind=1∨2≤p.kind
theorem SS {s:ByteArray} {t:aF} (h:Tk s t) (hok:(bZ s t).1=true):SQ s (bZ s t).2.2:=by
 have n1:=h.next
 have n3:=h.next.next.next
 unfold bZ at hok ⊢
 by_cases e0:aH t aX=true
 ·rw[if_pos e0] at hok ⊢
  by_cases hn:bC (aj s t)=true
  ·rw[if_pos hn] at hok ⊢
   unfold jf at hok ⊢
   by_cases h4:((aj s (aj s t)).kind==4)=true
   ·rw[if_pos h4]
    exact⟨AX _ _ _ n3 (by simp),by simp,⟨n1,hn⟩,Or.inl rfl⟩
   ·rw[if_neg h4] at hok;cases hok
  ·rw[if_neg hn] at hok;cases hok
 ·rw[if_neg e0] at hok ⊢
  by_cases e1:aH t kR=true
  ·rw[if_pos e1] at hok ⊢
   by_cases hn:bC (aj s t)=true
   ·rw[if_pos hn] at hok ⊢
    unfold jg at hok ⊢
    by_cases h4:((aj s (aj s t)).kind==4)=true
    ·rw[if_pos h4]
     exact⟨by simp,Eo _ _ _ n3 (by simp),⟨n1,hn⟩,Or.inr (Or.inl rfl)⟩
    ·rw[if_neg h4] at hok;cases hok
   ·rw[if_neg hn] at hok;cases hok
  ·rw[if_neg e1] at hok ⊢
   by_cases e2:aH t dV=true
   ·rw[if_pos e2] at hok ⊢
    by_cases hn:bC (aj s t)=true
    ·rw[if_pos hn]
     exact⟨by simp,by simp,⟨n1,hn⟩,Or.inr (Or.inr (by simp))⟩
    ·rw[if_neg hn] at hok;cases hok
   ·rw[if_neg e2] at hok ⊢
    by_cases e3:aH t iE=true
    ·rw[if_pos e3] at hok ⊢
     by_cases hn:bC (aj s t)=true
     ·rw[if_pos hn] at hok ⊢
      by_cases hb:dI (aj s (aj s t))=true
      ·rw[if_pos hb]
       exact⟨by simp,by simp,⟨n1,hn⟩,Or.inr (Or.inr (by simp))⟩
      ·rw[if_neg hb] at hok;cases hok
     ·rw[if_neg hn] at hok;cases hok
    ·rw[if_neg e3] at hok;cases hok
theorem Ep {s:ByteArray}:∀ (f:Nat) (t:aF) (L M:List iy),Tk s t→(kT s f t L).1=some M→(∀ p∈L,SQ s p)→∀ p∈M,SQ s p
 | 0,t,L,M,h,hM,_=>by simp[kT] at hM
 | f+1,t,L,M,h,hM,hL=>by
  unfold kT at hM
  by_cases h0:(t.kind==0)=true
  ·rw[if_pos h0] at hM
   simp only[Option.some.injEq] at hM
   subst hM;exact hL
  ·rw[if_neg h0] at hM
   by_cases h1:(bZ s t).1=true
   ·rw[if_pos h1] at hM
    refine Ep f _ _ M (yG h).1 hM (fun p hp=>?_)
    rcases List.mem_append.1 hp with hp | hp
    ·exact hL p hp
    ·rw[List.mem_singleton.1 hp];exact SS h h1
   ·rw[if_neg h1] at hM;cases hM
theorem xB {s:ByteArray} {M:List iy} (h:(dD s).1=some M):∀ p∈M,SQ s p :=
 Ep (s.size+1) (gI s 0) [] M ⟨0,by omega,rfl⟩ h (by simp)
theorem LZ.size {s:ByteArray} {t:aF} (h:LZ s t) (hs:s.size≤400):1≤t.text.size∧t.text.size≤400 :=
 ⟨h.1.pos (by rw[jC h.2];omega),by have:=h.1.sizeLe;omega⟩
theorem En.num {s:ByteArray} {f:bD} (h:En s f):1≤f.number∧f.number≤99:=by
 obtain⟨t,ht,hok,rfl⟩:=h
 unfold aJ at hok
 by_cases h3:(t.kind==3)=true
 ·have hn:=ht.num (eq_of_beq h3)
  obtain⟨k,h1,h2,_,h4⟩:=F5 hn
  show 1≤jQ t.text.toList∧jQ t.text.toList≤99
  unfold jQ
  rw[ByteArray.toList_eq,h4]
  simp;omega
 ·rw[if_neg h3] at hok;cases hok
theorem En.name {s:ByteArray} {f:bD} (h:En s f):∃ t,LZ s t∧f.name=t.text:=by
 obtain⟨t,ht,hok,rfl⟩:=h
 unfold aJ at hok
 by_cases h3:(t.kind==3)=true
 ·rw[if_pos h3] at hok
  by_cases hn:bC (aj s t)=true
  ·exact⟨_,⟨ht.next,hn⟩,rfl⟩
  ·rw[if_neg hn] at hok;cases hok
 ·rw[if_neg h3] at hok;cases hok
theorem En.shape {s:ByteArray} {f:bD} (h:En s f):f.shape≤2:=by
 obtain⟨t,ht,hok,rfl⟩:=h
 exact Gj _
theorem YOk.of {s:ByteArray} {M:List iy} {Y:List IV} (hs:s.size≤400) (h:(dD s).1=some M) (hY:Y.map (fun y=>y.it)=M.map toR) (hok:∀ y∈Y,yD y.it 400) (hf:∀ j y,Y[j]? = some y→fP Y j y.it=[]):YOk Y:=by
 have src:∀ y∈Y,∃ p,SQ s p∧y.it=toR p:=fun y hy=>by
  have:y.it∈M.map toR:=by rw[← hY];exact List.mem_map.2 ⟨y,hy,rfl⟩
  obtain⟨p,hp,e⟩:=List.mem_map.1 this
  exact⟨p,xB h p hp,e.symm⟩
 have aaD:∀ y∈Y,∀ f∈y.it.fields,∃ g,En s g∧f=ni g:=fun y hy f hf=>by
  obtain⟨p,hp,e⟩:=src y hy
  rw[e] at hf
  obtain⟨g,hg,e2⟩:=List.mem_map.1 (show f∈p.fields.map ni from hf)
  exact⟨g,hp.f g hg,e2.symm⟩
 refine⟨fun y hy f hfm=>?_,fun y hy f hfm=>?_,fun y hy f hfm=>?_,fun y hy f hfm=>?_,fun y hy=>(hok y hy).f,fun y hy=>(hok y hy).n,fun y hy t ht=>?_⟩
 ·obtain⟨j,hj,e⟩:=List.getElem_of_mem hy
  have h1:=hf j y (by rw[List.getElem?_eq_getElem hj,e])
  obtain⟨k,hk,e2⟩:=List.getElem_of_mem hfm
  have h2:jT Y y.it.fields k=[]:=by
   unfold fP at h1
   have h3:=(List.append_eq_nil_iff.1 (List.append_eq_nil_iff.1 (List.append_eq_nil_iff.1 h1).1).1).2
   rw[List.flatMap_eq_nil_iff] at h3
   exact h3 k (List.mem_range.2 hk)
  unfold jT at h2
  rw[List.getElem?_eq_getElem hk,e2] at h2
  have h4:=(List.append_eq_nil_iff.1 h2).2
  cases ht:jS Y f.base.toList with
  | true=>rfl
  | false=>rw[ht] at h4;simp[jX] at h4
 ·obtain⟨g,hg,rfl⟩:=aaD y hy f hfm
  have:=hg.num
  exact⟨by show 0≤g.number;omega,this.2⟩
 ·obtain⟨g,hg,rfl⟩:=aaD y hy f hfm
  obtain⟨t,ht,e⟩:=hg.name
  show 1≤g.name.size∧g.name.size≤400
  rw[e];exact ht.size hs
 ·obtain⟨g,hg,rfl⟩:=aaD y hy f hfm
  have h2:=hg.shape
  have:g.shape=0∨g.shape=1∨g.shape=2:=by omega
  show jH (lD g.shape) kZ=true∨jH (lD g.shape) iY=true∨(lD g.shape).toList=[]
  rcases this with e | e | e<;>rw[e]<;>unfold lD jH<;>simp[ByteArray.toList_eq,je]
 ·obtain⟨p,hp,e⟩:=src y hy
  rw[e] at ht
  obtain⟨u,hu,rfl⟩:=List.mem_map.1 (show t∈p.names.map aF.text from ht)
  exact(hp.n u hu).size hs
theorem L6 {s:ByteArray} {M:List iy} {Y:List IV} (h:(dD s).1=some M) (hY:Y.map (fun y=>y.it)=M.map toR):vY (GK Y):=by
 intro b ns hb n hn c hc
 unfold GK at hb
 cases hy:Y[(jm Y b).toNat]? with
 | none=>rw[hy] at hb;cases hb
 | some y=>
  rw[hy] at hb
  simp only at hb
  split at hb
  ·cases hb
  ·split at hb
   ·cases hb
   ·simp only[Option.some.injEq,Sum.inl.injEq] at hb
    subst hb
    have:y.it∈M.map toR:=by rw[← hY];exact List.mem_map.2 ⟨y,List.mem_of_getElem? hy,rfl⟩
    obtain⟨p,hp,e⟩:=List.mem_map.1 this
    rw[← e] at hn
    obtain⟨u,hu,rfl⟩:=List.mem_map.1 hn
    obtain⟨v,hv,rfl⟩:=List.mem_map.1 (show u∈p.names.map aF.text from hu)
    have hsrc:=(xB h p hp).n v hv
    exact hsrc.1.letters (jC hsrc.2) c hc
open Go.RowKit
structure Sound (s:ByteArray) (Y:List IV):Prop where
 size:s.size≤400
 go:(pW s.size (fE s) [] 0).1=some (Y.map (fun y=>y.it))
 len:Y.length≤400
 ok:YOk Y
 names:vY (GK Y)
theorem nV.cases {s:ByteArray} {E P:Int} (h:nV s E P):(E=1∨E=2∨E=3)∨(E=0∧s.size≤400∧∃ X:List IV,(pW s.size (fE s) [] 0).1=some (X.map (fun y=>y.it))∧∀ j y,X[j]? = some y→fP X j y.it=[]):=by
 rcases h with⟨_,e,_⟩ | ⟨hs,⟨_,e,_⟩ | ⟨X,hX,⟨i,x,_,_,_,e,_⟩ | ⟨hall,e,_⟩⟩⟩
 ·exact Or.inl (Or.inl e)
 ·exact Or.inl (Or.inr (Or.inl e))
 ·exact Or.inl (Or.inr (Or.inr e))
 ·exact Or.inr ⟨e,hs,X,hX,hall⟩
theorem Sound.of {s:ByteArray} {X Y:List IV} (hs:s.size≤400) (hX:(pW s.size (fE s) [] 0).1=some (X.map (fun y=>y.it))) (hall:∀ j y,X[j]? = some y→fP X j y.it=[]) (hY:(pW s.size (fE s) [] 0).1=some (Y.map (fun y=>y.it))) (hl:Y.length≤400) (hok:∀ y∈Y,yD y.it 400):Sound s Y:=by
 have hq:=yI s
 cases hp:(dD s).1 with
 | none=>rw[hp] at hq;simp only at hq;rw[hq] at hX;cases hX
 | some M=>
  rw[hp] at hq
  simp only at hq
  have hYM:Y.map (fun y=>y.it)=M.map toR:=by rw[hq] at hY;simpa using hY.symm
  have hXM:X.map (fun y=>y.it)=M.map toR:=by rw[hq] at hX;simpa using hX.symm
  obtain⟨Z,hZ⟩:∃ Z:List bY,Z.map (fun x=>x.it)=M:=⟨M.map (fun p=>⟨p,.slice none 0 0,.slice none 0 0⟩),by rw[List.map_map];simp[Function.comp_def]⟩
  have hF:Facts s Z:=su (by rw[hp,hZ])
  have tX:Twin Z X:=by unfold Twin;rw[hXM,← hZ,List.map_map];rfl
  have tY:Twin Z Y:=by unfold Twin;rw[hYM,← hZ,List.map_map];rfl
  refine⟨hs,hY,hl,YOk.of hs hp hYM hok (fun j y hy=>?_),L6 hp hYM⟩
  cases hc:fP Y j y.it with
  | nil=>rfl
  | cons a r=>
   have:PF Z a:=(rZ tY hF a).2 ⟨j,y,hy,by rw[hc];simp⟩
   obtain⟨i,x,hx,hm⟩:=(rZ tX hF a).1 this
   rw[hall i x hx] at hm;cases hm
theorem Its.base {w:World} {lo lo':Nat} {lv:Value} {Y:List IV} (h:Its w lo lv Y) (hl:lo'≤lo):Its w lo' lv Y :=
 ⟨own_base h.own hl,fun x hx=>have k:=h.nest x hx;⟨own_base k.f hl,own_base k.n hl,own_base k.na hl,own_base k.b hl,own_base k.ba hl,k.zf,k.zn,k.yj,k.zb,k.yu⟩⟩
def L8 (s base:ByteArray) (w:World) (e:Ending) (w':World):Prop:=∃ (la:Option Addr) (ll lc:Nat) (E:Int),e=.returned (.tuple #[.slice la ll lc,.int .i64 E])∧Below w.heap.size w w' ∧
 ((E=8∧∃ E0 P0,nV s E0 P0∧E0≠0)∨∃ Y,nV s 0 0∧Sound s Y∧((E=4∧jS Y base.toList=false)∨(E=0∧jS Y base.toList=true∧Its w' w.heap.size (.slice la ll lc) Y)))
theorem O9 (s base:ByteArray) (w:World) (hs:s.size≤maxLen) :
  Calls Tryz.prog 115 #[.string s,.string base] w (L8 s base w):=by
 unfold L8
 go_enter func115,ntmps115
 go_wp2_with fail
 refine(jd s w hs).mono ?_;rintro e w1 ⟨E,P,rfl,hb1,hans⟩
 have HA:=hid hans
 rcases hans.cases with hE | ⟨rfl,h4,X,hX,hall⟩
 ·clear hans
  rcases hE with rfl | rfl | rfl
  ·go_wp2_with fail
   go_ret2
   exact⟨none,0,0,8,rfl,hb1,Or.inl ⟨rfl,1,P,HA.out,by omega⟩⟩
  ·go_wp2_with fail
   go_ret2
   exact⟨none,0,0,8,rfl,hb1,Or.inl ⟨rfl,2,P,HA.out,by omega⟩⟩
  ·go_wp2_with fail
   go_ret2
   exact⟨none,0,0,8,rfl,hb1,Or.inl ⟨rfl,3,P,HA.out,by omega⟩⟩
 ·have HP:=hid (show nV s 0 0 from by
   rcases hans with⟨h,e,_⟩ | ⟨h,⟨h1,e,_⟩ | ⟨X,hX,⟨i,x,_,_,_,e,_⟩ | h⟩⟩
   ·omega
   ·omega
   ·omega
   ·exact Or.inr ⟨h4,Or.inr ⟨X,hX,Or.inr ⟨h.1,rfl,rfl⟩⟩⟩)
  have HX:=hid hX
  have VE:=hid hall
  clear hans hX hall HA
  go_wp2_with fail
  refine(zL s w1 h4).mono ?_;rintro e w2 ⟨lv,rfl,hb2,hans⟩
  obtain⟨Y,hY,hits,hl,hok,hsum⟩:∃ X,(pW s.size (fE s) [] 0).1=some (X.map (fun y=>y.it))∧Its w2 w1.heap.size lv X∧X.length≤400∧(∀ y∈X,yD y.it 400)∧(X.map (fun y=>y.it.fields.length)).sum≤400:=by
   rcases hans with⟨h,_⟩ | h
   ·rw[HX.out] at h;cases h
   ·exact h
  have HS:=hid (Sound.of h4 HX.out VE.out hY hl hok)
  obtain⟨la,lc,hlv⟩:∃ a c,lv=.slice a Y.length c:=ak hits.own
  subst hlv
  have HI:=hid hits
  have hb3:=hb1.trans (hb2.mono hb1.size)
  generalize (pW s.size (fE s) [] 0).2=p at *
  clear hY hits hok hsum hans hb2
  go_wp2_with fail
  refine(xg _ _ _ _ base HI.out hl).mono ?_;rintro e w3 ⟨rfl,hb4⟩
  have hb5:=hb3.trans (hb4.mono hb3.size)
  have HI3:=hid (HI.out.same hb4)
  have hz1:=hb1.size
  cases ht:jS Y base.toList with
  | false=>
   have HT:=hid ht
   clear ht
   go_wp2_with fail
   go_ret2
   exact⟨none,0,0,4,rfl,hb5,Or.inr ⟨Y,HP.out,HS.out,Or.inl ⟨rfl,HT.out⟩⟩⟩
  | true=>
   have HT:=hid ht
   clear ht
   go_wp2_with fail
   go_ret2
   exact⟨la,Y.length,lc,0,rfl,hb5,Or.inr ⟨Y,HP.out,HS.out,Or.inr ⟨rfl,HT.out,HI3.out.base hz1⟩⟩⟩
def zO (s base v:ByteArray) (E:Int) (b:List UInt8):Prop :=
 (E=8∧b=[]∧∃ E0 P0,nV s E0 P0∧E0≠0)∨∃ Y,nV s 0 0∧Sound s Y ∧
  ((E=4∧b=[]∧jS Y base.toList=false)∨(jS Y base.toList=true ∧
   ((400<v.size∧E=1∧b=[])∨(v.size≤400 ∧
    (((∀ x,(encR Y 6).1 base.toList v.toList≠some (x,[]))∧E=5∧b=[])∨∃ x,(encR Y 6).1 base.toList v.toList=some (x,[])∧((64<x.length∧E=1∧b=[])∨(x.length≤64∧E=0∧b=x)))))))
theorem GU (v:ByteArray):aC v 0=v.toList:=by unfold aC;simp
theorem L9 {v:ByteArray} {k:Nat} (h:k≤v.size):aC v k=[]↔k=v.size:=by
 unfold aC
 rw[List.drop_eq_nil_iff,aB];omega
theorem But.below {w W w':World} {cb B:Nat} (h:But cb W w') (hb:Below B w W) (hc:B≤cb) (hB:B≤w.heap.size):Below B w w' :=
 ⟨h.os.trans hb.os,h.tape.trans hb.tape,h.output.trans hb.output,Nat.le_trans hb.size h.size,fun k hk=>(h.block k (Nat.lt_of_lt_of_le hk (Nat.le_trans hB hb.size)) (by omega)).trans (hb.block k hk)⟩
theorem FC (s base v:ByteArray) (w:World) (hs:s.size≤maxLen) (hv:v.size≤maxLen) (hE:Env w) (hO:∀ cb,w.heap.size≤cb→Own cb) :
  Calls Tryz.prog 77 #[.string s,.string base,.string v] w fun e w'=>∃ (a:Option Addr) (c:Nat) (b:List UInt8) (E:Int),e=.returned (.tuple #[.slice a b.length c,.int .i64 E])∧Below w.heap.size w w'∧gB w' w.heap.size (.slice a b.length c) b∧zO s base v E b:=by
 unfold maxLen at hv
 have HE:=hid hE
 have HO:=hid hO
 clear hE hO
 go_enter func77,ntmps77
 go_wp2_with fail
 refine(O9 s base w hs).mono ?_;rintro e w1 ⟨la,ll,lc,E,rfl,hb1,hans⟩
 rcases hans with⟨rfl,hbad⟩ | ⟨Y,hra,hso,⟨rfl,ht⟩ | ⟨rfl,ht,hits⟩⟩
 ·have HB:=hid hbad
  clear hbad
  go_wp2_with fail
  go_ret2
  exact⟨none,0,[],8,rfl,hb1,World.ownsRow_nil _ _ _ _,Or.inl ⟨rfl,rfl,HB.out⟩⟩
 ·have HS:=hid hso
  have HR:=hid hra
  have HT:=hid ht
  clear hso hra ht
  go_wp2_with fail
  go_ret2
  exact⟨none,0,[],4,rfl,hb1,World.ownsRow_nil _ _ _ _,Or.inr ⟨Y,HR.out,HS.out,Or.inl ⟨rfl,rfl,HT.out⟩⟩⟩
 ·have HS:=hid hso
  have HR:=hid hra
  have HT:=hid ht
  have HI:=hid hits
  clear hso hra ht hits
  by_cases h4:v.size≤400
  ·have h4I:¬ (400:Int)<(v.size:Int):=by omega
   have h4D:decide ((400:Int)<(v.size:Int))=false:=by simp;omega
   have hbW:Below w.heap.size w (w1.alloc (.cells #[.slice la ll lc,.string v,.int .i64 0,.bool true,.int .i64 0] 189)):=hb1.alloc hb1.size _
   have HCW:=hid (show Cu (w1.alloc (.cells #[.slice la ll lc,.string v,.int .i64 0,.bool true,.int .i64 0] 189)) w1.heap.size (.slice la ll lc) v 0 true ((6:Int)-(6:Nat)) from⟨oI w1 _ _,by omega⟩)
   have HIW:=hid (HI.out.same ((Below.refl _ _).alloc (Nat.le_refl _) _):Its (w1.alloc (.cells #[.slice la ll lc,.string v,.int .i64 0,.bool true,.int .i64 0] 189)) w.heap.size (.slice la ll lc) Y)
   have HEW:=hid (HE.out.below hbW)
   have hz1:=hb1.size
   go_wp2_with fail
   generalize (w1.alloc (.cells #[.slice la ll lc,.string v,.int .i64 0,.bool true,.int .i64 0] 189))=wW at *
   refine((levels HS.out.ok HS.out.len 6 (Nat.le_refl _)).1 wW w1.heap.size w.heap.size la ll lc v 0 base HIW.out HCW.out HEW.out (HO.out _ hz1) h4 HT.out).mono ?_
   rintro e w2 ⟨a2,c2,out,k,ok,rfl,hb2,bG,hc2,hge,hl2,ajE,hsp⟩
   rw[GU] at hsp
   have I7:=bG.below hbW hz1 (Nat.le_refl _)
   have hzW:=hbW.size
   have HB2:=hid (own_base hb2 hzW:gB w2 w.heap.size _ out)
   have mD:=hid hsp
   have hle:=hc2.le
   have f2:=hc2.seg.cell (j:=2) rfl
   have f3:=hc2.seg.cell (j:=3) rfl
   simp only[Nat.zero_add] at f2 f3
   clear hb2 hsp hc2 bG hl2
   cases ok with
   | false=>
    go_wp2_with fail
    go_ret2
    refine⟨none,0,[],5,rfl,I7,World.ownsRow_nil _ _ _ _,Or.inr ⟨Y,HR.out,HS.out,Or.inr ⟨HT.out,Or.inr ⟨h4,Or.inl ⟨fun x hx=>?_,rfl,rfl⟩⟩⟩⟩⟩
    rw[mD.out] at hx;cases hx
   | true=>
    by_cases hk:k=v.size
    ·subst hk
     have V9:=hid (show (encR Y 6).1 base.toList v.toList=some (out,[]) from by rw[mD.out];simp only[(L9 (Nat.le_refl _)).2 rfl])
     by_cases h64:out.length≤64
     ·have aaE:¬ (64:Int)<(out.length:Int):=by omega
      have afV:decide ((64:Int)<(out.length:Int))=false:=by simp;omega
      go_wp2_with fail
      go_ret2
      exact⟨a2,c2,out,0,rfl,I7,HB2.out,Or.inr ⟨Y,HR.out,HS.out,Or.inr ⟨HT.out,Or.inr ⟨h4,Or.inr ⟨out,V9.out,Or.inr ⟨h64,rfl,rfl⟩⟩⟩⟩⟩⟩
     ·have aaE:(64:Int)<(out.length:Int):=by omega
      go_wp2_with fail
      go_ret2
      exact⟨none,0,[],1,rfl,I7,World.ownsRow_nil _ _ _ _,Or.inr ⟨Y,HR.out,HS.out,Or.inr ⟨HT.out,Or.inr ⟨h4,Or.inr ⟨out,V9.out,Or.inl ⟨by omega,rfl,rfl⟩⟩⟩⟩⟩⟩
    ·have hkI:¬ (k:Int)=(v.size:Int):=by omega
     have hkB:((k:Int) != (v.size:Int))=true:=by simp;omega
     go_wp2_with fail
     go_ret2
     refine⟨none,0,[],5,rfl,I7,World.ownsRow_nil _ _ _ _,Or.inr ⟨Y,HR.out,HS.out,Or.inr ⟨HT.out,Or.inr ⟨h4,Or.inl ⟨fun x hx=>?_,rfl,rfl⟩⟩⟩⟩⟩
     rw[mD.out] at hx
     simp only[Option.some.injEq,Prod.mk.injEq] at hx
     exact hk ((L9 hle).1 hx.2)
  ·have h4I:(400:Int)<(v.size:Int):=by omega
   go_wp2_with fail
   go_ret2
   exact⟨none,0,[],1,rfl,hb1,World.ownsRow_nil _ _ _ _,Or.inr ⟨Y,HR.out,HS.out,Or.inr ⟨HT.out,Or.inl ⟨by omega,rfl,rfl⟩⟩⟩⟩
end Go.Proofs.YtgalebcpagmohaaGreatDoor
