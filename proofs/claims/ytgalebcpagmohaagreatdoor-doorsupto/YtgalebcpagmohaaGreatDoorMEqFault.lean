/- Does a message hold itself: the reference's list of names met says the same as the ways by plain fields (no walk). -/
import Derived.Test.YtgalebcpagmohaaGreatDoorMEqParse
import Derived.Test.YtgalebcpagmohaaGreatDoorMHolds
import Derived.Test.YtgalebcpagmohaaGreatDoorMRefFault
namespace Go.Proofs.YtgalebcpagmohaaGreatDoor
def AL (Y:List IV) (m b:List UInt8):Prop:=∃ (i:Nat) (x:IV) (f:aZ),jm Y m=(i:Int)∧Y[i]? = some x∧f∈x.it.fields∧f.kind.toList.isEmpty=true∧f.base.toList=b
def yL (Y:List IV) (i k:List UInt8):Prop := ∃ n,WayL (AL Y) n i k
theorem yL.one {Y:List IV} {i j:List UInt8} (e:AL Y i j):yL Y i j := ⟨0,e⟩
theorem yL.more {Y:List IV} {i j k:List UInt8} (e:AL Y i j) (h:yL Y j k):yL Y i k := h.elim fun n hn => ⟨n + 1,j,e,hn⟩
theorem yL.ind {Y:List IV} {motive:∀ i k,yL Y i k → Prop} (one:∀ {i j} (e:AL Y i j),motive i j (.one e)) (more:∀ {i j k} (e:AL Y i j) (h:yL Y j k),motive j k h → motive i k (.more e h)):∀ {i k} (h:yL Y i k),motive i k h :=
  fun {i k} ⟨n,h⟩ => WayL.ind (P := fun i k => ∀ h,motive i k h) (fun _ _ e _ => one e) (fun _ _ _ n e h ih _ => more e ⟨n,h⟩ (ih _)) n i k h _
theorem yL.snoc {Y:List IV} {a b c:List UInt8} (h:yL Y a b) (k:AL Y b c):yL Y a c:=by
 induction h using yL.ind with
 | one e=>exact .more e (.one k)
 | more e _ ih=>exact .more e (ih k)
theorem BM {M:List ByteArray} {b:ByteArray}:inB M b=true↔∃ m∈M,m.toList=b.toList:=by
 unfold inB;rw[List.any_eq_true];simp
theorem qP {name:ByteArray}:∀ (fs:List aZ) (M:List ByteArray),gU name fs M=none→∃ f∈fs,f.kind.toList.isEmpty=true∧f.base.toList=name.toList
 | [],M,h=>by simp[gU] at h
 | f::r,M,h=>by
  unfold gU at h
  by_cases h1:f.kind.toList.isEmpty=false
  ·rw[if_pos h1] at h
   obtain⟨g,hg,h2⟩:=qP r M h;exact⟨g,by simp[hg],h2⟩
  ·rw[if_neg h1] at h
   by_cases h2:(f.base.toList==name.toList)=true
   ·exact⟨f,by simp,by simpa using h1,eq_of_beq h2⟩
   ·rw[if_neg h2] at h
    by_cases h3:inB M f.base=true
    ·rw[if_pos h3] at h
     obtain⟨g,hg,h2⟩:=qP r M h;exact⟨g,by simp[hg],h2⟩
    ·rw[if_neg h3] at h
     obtain⟨g,hg,h2⟩:=qP r _ h;exact⟨g,by simp[hg],h2⟩
theorem oG {name:ByteArray} {U:List (List UInt8)}:∀ (fs:List aZ) (M M':List ByteArray),gU name fs M=some M'→Good U M→(∀ f∈fs,f.base.toList∈U) →
  (∃ E,M'=M++E∧∀ e∈E,∃ f∈fs,f.kind.toList.isEmpty=true∧f.base=e)∧(∀ f∈fs,f.kind.toList.isEmpty=true→f.base.toList≠name.toList∧inB M' f.base=true)∧Good U M'
 | [],M,M',h,hg,_=>by simp[gU] at h;subst h;exact⟨⟨[],by simp,by simp⟩,by simp,hg⟩
 | f::r,M,M',h,hg,hU=>by
  have hUr:∀ f∈r,f.base.toList∈U:=fun g hg=>hU g (by simp[hg])
  unfold gU at h
  by_cases h1:f.kind.toList.isEmpty=false
  ·rw[if_pos h1] at h
   obtain⟨⟨E,e1,e2⟩,h2,h3⟩:=oG r M M' h hg hUr
   refine⟨⟨E,e1,fun e he=>?_⟩,fun g hg' hk=>?_,h3⟩
   ·obtain⟨q,hq,hq2⟩:=e2 e he;exact⟨q,by simp[hq],hq2⟩
   ·rcases List.mem_cons.1 hg' with rfl | hg'
    ·rw[h1] at hk;cases hk
    ·exact h2 g hg' hk
  ·rw[if_neg h1] at h
   have h1':f.kind.toList.isEmpty=true:=by simpa using h1
   by_cases h2:(f.base.toList==name.toList)=true
   ·rw[if_pos h2] at h;cases h
   ·rw[if_neg h2] at h
    have h2':f.base.toList≠name.toList:=fun e=>h2 (by rw[e];simp)
    by_cases h3:inB M f.base=true
    ·rw[if_pos h3] at h
     obtain⟨⟨E,e1,e2⟩,h4,h5⟩:=oG r M M' h hg hUr
     refine⟨⟨E,e1,fun e he=>?_⟩,fun g hg' hk=>?_,h5⟩
     ·obtain⟨q,hq,hq2⟩:=e2 e he;exact⟨q,by simp[hq],hq2⟩
     ·rcases List.mem_cons.1 hg' with rfl | hg'
      ·refine⟨h2',?_⟩
       obtain⟨m,hm,e⟩:=BM.1 h3
       exact BM.2 ⟨m,by rw[e1];simp[hm],e⟩
      ·exact h4 g hg' hk
    ·rw[if_neg h3] at h
     have hg2:Good U (M++[f.base]):=hg.push (hU f (by simp)) (by simpa using h3)
     obtain⟨⟨E,e1,e2⟩,h4,h5⟩:=oG r _ M' h hg2 hUr
     refine⟨⟨f.base::E,by rw[e1];simp,fun e he=>?_⟩,fun g hg' hk=>?_,h5⟩
     ·rcases List.mem_cons.1 he with rfl | he
      ·exact⟨f,by simp,h1',rfl⟩
      ·obtain⟨q,hq,hq2⟩:=e2 e he;exact⟨q,by simp[hq],hq2⟩
     ·rcases List.mem_cons.1 hg' with rfl | hg'
      ·exact⟨h2',BM.2 ⟨g.base,by rw[e1];simp,rfl⟩⟩
      ·exact h4 g hg' hk
theorem AO {Y:List IV} {m:List UInt8} (h:¬ jm Y m<0):∃ (i:Nat) (x:IV),jm Y m=(i:Int)∧Y[i]? = some x∧uO Y (jm Y m)=x.it.fields:=by
 obtain⟨i,x,h1,h2⟩:=DF (X:=Y) (n:=m) (by omega)
 refine⟨i,x,h1,h2,?_⟩
 unfold uO
 rw[h1,show ((i:Int)).toNat=i from by omega,h2]
theorem uS {Y:List IV} {name:ByteArray}:∀ (f:Nat) (M:List ByteArray) (a:Nat),Good (univ Y name) M→(∀ m∈M,m.toList=name.toList∨yL Y name.toList m.toList)→kU Y name f M a=true→yL Y name.toList name.toList
 | 0,M,a,_,_,h=>by simp[kU] at h
 | f+1,M,a,hg,hM,h=>by
  unfold kU at h
  cases hm:M[a]? with
  | none=>rw[hm] at h;simp at h
  | some m=>
   rw[hm] at h
   simp only at h
   have hmM:=List.mem_of_getElem? hm
   by_cases h0:jm Y m.toList<0
   ·rw[if_pos h0] at h;exact uS f M (a+1) hg hM h
   ·rw[if_neg h0] at h
    obtain⟨i,x,e1,e2,e3⟩:=AO h0
    rw[e3] at h
    cases hi:gU name x.it.fields M with
    | none=>
     obtain⟨g,hg1,hg2,hg3⟩:=qP _ _ hi
     have hst:AL Y m.toList name.toList:=⟨i,x,g,e1,e2,hg1,hg2,hg3⟩
     rcases hM m hmM with e | e
     ·rw[e] at hst;exact .one hst
     ·exact e.snoc hst
    | some M'=>
     rw[hi] at h
     obtain⟨⟨E,hE1,hE2⟩,_,hg'⟩:=oG _ _ _ hi hg (fun f hf=>by
      obtain⟨j,hj,rfl⟩:=List.getElem_of_mem hf
      exact DC e2 (List.getElem?_eq_getElem hj))
     refine uS f M' (a+1) hg' (fun q hq=>?_) h
     rw[hE1] at hq
     rcases List.mem_append.1 hq with hq | hq
     ·exact hM q hq
     ·obtain⟨g,hg1,hg2,rfl⟩:=hE2 q hq
      have hst:AL Y m.toList g.base.toList:=⟨i,x,g,e1,e2,hg1,hg2,rfl⟩
      rcases hM m hmM with e | e
      ·rw[e] at hst;exact Or.inr (.one hst)
      ·exact Or.inr (e.snoc hst)
def Closed (Y:List IV) (name:ByteArray) (M:List ByteArray) (a:Nat):Prop:=∀ j m,j<a→M[j]? = some m→∀ b,AL Y m.toList b→b≠name.toList∧∃ q∈M,q.toList=b
theorem tq {Y:List IV} {name:ByteArray}:∀ (f:Nat) (M:List ByteArray) (a:Nat),Good (univ Y name) M→(univ Y name).length≤f+a→Closed Y name M a→name∈M→kU Y name f M a=false→∃ M',name∈M'∧Closed Y name M' M'.length
 | 0,M,a,hg,hf,hc,hn,h=>⟨M,hn,fun j m hj hm=>hc j m (by have:=hg.len;omega) hm⟩
 | f+1,M,a,hg,hf,hc,hn,h=>by
  unfold kU at h
  cases hm:M[a]? with
  | none=>
   refine⟨M,hn,fun j m hj hm'=>hc j m ?_ hm'⟩
   rw[List.getElem?_eq_none_iff] at hm;omega
  | some m=>
   rw[hm] at h
   simp only at h
   by_cases h0:jm Y m.toList<0
   ·rw[if_pos h0] at h
    refine tq f M (a+1) hg (by omega) (fun j q hj hq b hb=>?_) hn h
    rcases Nat.lt_or_ge j a with hja | hja
    ·exact hc j q hja hq b hb
    ·rw[show j=a from by omega,hm] at hq;simp at hq;subst hq
     obtain⟨i,_,_,e,_⟩:=hb;omega
   ·rw[if_neg h0] at h
    obtain⟨i,x,e1,e2,e3⟩:=AO h0
    rw[e3] at h
    cases hi:gU name x.it.fields M with
    | none=>rw[hi] at h;cases h
    | some M'=>
     rw[hi] at h
     obtain⟨⟨E,hE1,hE2⟩,hcl,hg'⟩:=oG _ _ _ hi hg (fun f hf=>by
      obtain⟨j,hj,rfl⟩:=List.getElem_of_mem hf
      exact DC e2 (List.getElem?_eq_getElem hj))
     have halt:a<M.length:=by
      rcases Nat.lt_or_ge a M.length with h | h
      ·exact h
      ·rw[List.getElem?_eq_none h] at hm;cases hm
     refine tq f M' (a+1) hg' (by omega) (fun j q hj hq b hb=>?_) (by rw[hE1];simp[hn]) h
     have hq':M[j]? = some q:=by rw[hE1,List.getElem?_append_left (by omega)] at hq;exact hq
     rcases Nat.lt_or_ge j a with hja | hja
     ·obtain⟨h1,r,hr,e⟩:=hc j q hja hq' b hb
      exact⟨h1,r,by rw[hE1];simp[hr],e⟩
     ·rw[show j=a from by omega,hm] at hq';simp at hq';subst hq'
      obtain⟨i',x',g,f1,f2,f3,f4,rfl⟩:=hb
      rw[e1] at f1
      have:i'=i:=by omega
      subst this
      rw[e2] at f2;simp at f2;subst f2
      have:=hcl g f3 f4
      exact⟨this.1,BM.1 this.2⟩
theorem SC {Y:List IV} {name:ByteArray} {M:List ByteArray} (hc:Closed Y name M M.length):∀ (a c:List UInt8),yL Y a c→(∃ m∈M,m.toList=a)→c≠name.toList:=by
 intro a c h
 induction h using yL.ind with
 | one e=>
  rintro⟨m,hm,rfl⟩
  obtain⟨j,hj,rfl⟩:=List.getElem_of_mem hm
  exact(hc j _ hj (List.getElem?_eq_getElem hj) _ e).1
 | more e _ ih=>
  rintro⟨m,hm,rfl⟩
  obtain⟨j,hj,rfl⟩:=List.getElem_of_mem hm
  exact ih (hc j _ hj (List.getElem?_eq_getElem hj) _ e).2
theorem OB (Y:List IV) (name:ByteArray):holdsB Y name=true↔yL Y name.toList name.toList:=by
 have hg:Good (univ Y name) [name]:=⟨by simp,fun m hm=>by simp at hm;subst hm;simp[univ]⟩
 constructor
 ·intro h
  exact uS _ [name] 0 hg (fun m hm=>by simp at hm;subst hm;exact Or.inl rfl) h
 ·intro hw
  cases hh:holdsB Y name with
  | true=>rfl
  | false=>
   obtain⟨M',h1,h2⟩:=tq _ [name] 0 hg (by omega) (fun j m hj=>by omega) (by simp) hh
   exact absurd rfl (SC h2 _ _ hw ⟨name,h1,rfl⟩)
def Twin (X:List bY) (Y:List IV):Prop:=Y.map (fun y=>y.it)=X.map (fun x=>toR x.it)
theorem Twin.atR {X:List bY} {Y:List IV} (h:Twin X Y) {i:Nat} {y:IV} (hy:Y[i]? = some y):∃ x,X[i]? = some x∧y.it=toR x.it:=by
 have:=congrArg (fun l=>l[i]?) h
 simp only[List.getElem?_map,hy,Option.map_some] at this
 cases hx:X[i]? with
 | none=>rw[hx] at this;cases this
 | some x=>rw[hx] at this;exact⟨x,rfl,by simpa using this⟩
theorem Twin.atP {X:List bY} {Y:List IV} (h:Twin X Y) {i:Nat} {x:bY} (hx:X[i]? = some x):∃ y,Y[i]? = some y∧y.it=toR x.it:=by
 have:=congrArg (fun l=>l[i]?) h
 simp only[List.getElem?_map,hx,Option.map_some] at this
 cases hy:Y[i]? with
 | none=>rw[hy] at this;cases this
 | some y=>rw[hy] at this;exact⟨y,rfl,by simpa using this⟩
theorem nC (k:Nat):dQ (oz k).toList=gZ k:=by
 unfold oz gZ
 by_cases h0:k=0
 ·subst h0;rw[if_pos rfl,ByteArray.toList_eq];decide
 ·rw[if_neg h0]
  by_cases h1:k=1
  ·subst h1;rw[if_pos rfl,ByteArray.toList_eq];decide
  ·rw[if_neg h1]
   have:((k==0)||(k==1))=false:=by simp[h0,h1]
   rw[this]
   by_cases h2:k=2
   ·rw[if_pos h2,ByteArray.toList_eq];decide
   ·rw[if_neg h2,ByteArray.toList_eq];decide
theorem AP (k:Nat):((oz k).toList==[109,101,115,115,97,103,101])=(k==0):=by
 unfold oz
 by_cases h0:k=0
 ·subst h0;rw[if_pos rfl,ByteArray.toList_eq];decide
 ·rw[if_neg h0]
  have:(k==0)=false:=by simp[h0]
  rw[this]
  by_cases h1:k=1
  ·rw[if_pos h1,ByteArray.toList_eq];decide
  ·rw[if_neg h1]
   by_cases h2:k=2
   ·rw[if_pos h2,ByteArray.toList_eq];decide
   ·rw[if_neg h2,ByteArray.toList_eq];decide
theorem OC (n:List UInt8) (p:iy):kE n (toR p)=iq n p:=by
 unfold kE iq toR;simp only;rw[nC]
theorem Twin.find {X:List bY} {Y:List IV} (h:Twin X Y) (n:List UInt8):jm Y n=bT X n:=by
 unfold jm bT
 have e1:Y.findIdx? (fun y=>kE n y.it)=(Y.map (fun y=>y.it)).findIdx? (kE n):=by rw[List.findIdx?_map];rfl
 have e2:X.findIdx? (fun x=>iq n x.it)=(X.map (fun x=>toR x.it)).findIdx? (kE n):=by
  rw[List.findIdx?_map]
  congr 1
  funext x
  simp only[Function.comp]
  exact(OC n x.it).symm
 rw[e1,e2,h]
 cases List.findIdx? (kE n) (List.map (fun x=>toR x.it) X)<;>rfl
theorem uT (n:Nat) (h:n≤2):(lD n).toList.isEmpty=true↔n=0:=by
 have:n=0∨n=1∨n=2:=by omega
 unfold lD je
 rcases this with rfl | rfl | rfl<;>simp[ByteArray.toList_eq,kZ,iY]
theorem Gu {X:List bY} {n:List UInt8} {i:Nat} (h:bT X n=(i:Int)):∃ x,X[i]? = some x∧x.it.name.text.toList=n:=by
 unfold bT at h
 cases hf:X.findIdx? (fun x=>iq n x.it) with
 | none=>rw[hf] at h;simp at h
 | some j=>
  rw[hf] at h
  simp only at h
  have e:j=i:=by omega
  subst e
  rw[List.findIdx?_eq_some_iff_getElem] at hf
  obtain⟨h1,h2,_⟩:=hf
  refine⟨X[j],List.getElem?_eq_getElem h1,?_⟩
  simp only[iq,Bool.and_eq_true] at h2
  exact eq_of_beq h2.2
theorem Way.toN {X:List bY} {Y:List IV} (h:Twin X Y) (hs:∀ x∈X,∀ f∈x.it.fields,f.shape≤2):∀ (i k:Nat),Way X i k→∀ n m,bT X n=(i:Int)→bT X m=(k:Int)→yL Y n m:=by
 have hstep:∀ (i j:Nat),Edge X i j→∀ n,bT X n=(i:Int)→∃ b,AL Y n b∧bT X b=(j:Int):=by
  rintro i j ⟨x,f,hx,hf,h0,he⟩ n hn
  obtain⟨y,hy,ey⟩:=h.atP hx
  refine⟨f.base.toList,⟨i,y,ni f,by rw[h.find];exact hn,hy,by rw[ey];exact List.mem_map.2 ⟨f,hf,rfl⟩,(uT _ (hs x (List.mem_of_getElem? hx) f hf)).2 h0,rfl⟩,he⟩
 have same:∀ b m (k:Nat),bT X b=(k:Int)→bT X m=(k:Int)→b=m:=by
  intro b m k hb hm
  obtain⟨x,hx,e⟩:=Gu hb
  obtain⟨x',hx',e'⟩:=Gu hm
  rw[hx] at hx';cases hx';rw[← e,← e']
 intro i k hw
 induction hw using Way.ind with
 | one e=>
  intro n m hn hm
  obtain⟨b,hb,hk⟩:=hstep _ _ e n hn
  rw[same b m _ hk hm] at hb;exact .one hb
 | more e _ ih=>
  intro n m hn hm
  obtain⟨b,hb,hk⟩:=hstep _ _ e n hn
  exact .more hb (ih b m hk hm)
theorem yL.toI {X:List bY} {Y:List IV} (h:Twin X Y) (hs:∀ x∈X,∀ f∈x.it.fields,f.shape≤2):∀ (n m:List UInt8),yL Y n m→∀ i k:Nat,bT X n=(i:Int)→bT X m=(k:Int)→Way X i k:=by
 have hstep:∀ n b,AL Y n b→∀ i:Nat,bT X n=(i:Int)→∀ j:Nat,bT X b=(j:Int)→Edge X i j:=by
  rintro n b ⟨i',y,g,hf,hy,hg,hk,rfl⟩ i hi j hj
  rw[h.find,hi] at hf
  have:i=i':=by omega
  subst this
  obtain⟨x,hx,ex⟩:=h.atR hy
  rw[ex] at hg
  obtain⟨f,hf',rfl⟩:=List.mem_map.1 hg
  exact⟨x,f,hx,hf',(uT _ (hs x (List.mem_of_getElem? hx) f hf')).1 hk,hj⟩
 have found:∀ b c,yL Y b c→∃ j:Nat,bT X b=(j:Int):=by
  intro b c hw
  induction hw using yL.ind with
  | one e=>obtain⟨i,_,_,hf,_⟩:=e;exact⟨i,by rw[← h.find];exact hf⟩
  | more e _=>obtain⟨i,_,_,hf,_⟩:=e;exact⟨i,by rw[← h.find];exact hf⟩
 intro n m hw
 induction hw using yL.ind with
 | one e=>intro i k hi hk;exact .one (hstep _ _ e i hi k hk)
 | more e hr ih=>
  intro i k hi hk
  obtain⟨j,hj⟩:=found _ _ hr
  exact .more (hstep _ _ e i hi j hj) (ih j k hj hk)
theorem KN {α:Type} {P:List α → Prop} (h0:P []) (h1:∀ l a,P l→P (l++[a])) (l:List α):P l:=by
 have:∀ r:List α,P r.reverse:=by
  intro r
  induction r with
  | nil=>exact h0
  | cons a r ih=>rw[List.reverse_cons];exact h1 _ a ih
 have:=this l.reverse
 rwa [List.reverse_reverse] at this
theorem rX {b:Bool} {a c:Nat}:a∈sZ b c↔b=true∧a=c:=by unfold sZ;cases b<;>simp
theorem oH {b:Bool} {a c:Nat}:a∈jX b c↔b=true∧a=c:=by unfold jX;cases b<;>simp
def kJ (p:iy):List aF:=if p.kind=2 then [⟨2,cellText p.base,cellAt p.base⟩] else if p.kind=3 then [⟨2,cellText p.base,cellAt p.base⟩,⟨2,cellText p.answer,cellAt p.answer⟩] else p.fields.map jc
def wQ (ts:List aF) (a:Nat):Prop:=∃ (k j:Nat) (t u:aF),j<k∧ts[k]? = some t∧ts[j]? = some u∧u.text.toList=t.text.toList∧a=t.at_
theorem DI {ts:List aF} {k:Nat} {l:List UInt8}:(ts.take k).any (fun g=>g.text.toList==l)=true↔∃ (j:Nat) (u:aF),j<k∧ts[j]? = some u∧u.text.toList=l:=by
 rw[List.any_eq_true]
 constructor
 ·rintro⟨u,hu,he⟩
  obtain⟨j,hj,rfl⟩:=List.getElem_of_mem hu
  rw[List.length_take] at hj
  refine⟨j,ts[j],by omega,List.getElem?_eq_getElem (by omega),?_⟩
  rw[List.getElem_take] at he
  exact eq_of_beq he
 ·rintro⟨j,u,hj,hu,he⟩
  refine⟨u,?_,by simp[he]⟩
  exact List.mem_of_getElem? (by rw[List.getElem?_take,if_pos hj];exact hu)
theorem zJ {ts:List aF} {a:Nat}:a∈kH ts ts.length↔wQ ts a:=by
 unfold kH wO
 rw[List.mem_flatMap]
 constructor
 ·rintro⟨k,_,ha⟩
  cases hk:ts[k]? with
  | none=>rw[hk] at ha;simp at ha
  | some t=>
   rw[hk] at ha
   obtain⟨h1,h2⟩:=rX.1 ha
   obtain⟨j,u,hj,hu,he⟩:=DI.1 h1
   exact⟨k,j,t,u,hj,hk,hu,he,h2⟩
 ·rintro⟨k,j,t,u,hj,hk,hu,he,rfl⟩
  refine⟨k,List.mem_range.2 (iR hk),?_⟩
  rw[hk]
  exact rX.2 ⟨DI.2 ⟨j,u,hj,hu,he⟩,rfl⟩
theorem vX {ts:List aF} {a:Nat}:a∈lF [ts]↔wQ ts a:=by
 unfold lF;rw[List.flatMap_cons,List.flatMap_nil,List.append_nil];exact zJ
theorem SE {ts us:List aF} {a:Nat}:a∈lF [ts,us]↔wQ ts a∨wQ us a:=by
 unfold lF;rw[List.flatMap_cons,List.flatMap_cons,List.flatMap_nil,List.append_nil,List.mem_append,zJ,zJ]
theorem wQ.snoc {ts:List aF} {t:aF} {a:Nat}:wQ (ts++[t]) a↔wQ ts a∨((∃ u∈ts,u.text.toList=t.text.toList)∧a=t.at_):=by
 constructor
 ·rintro⟨k,j,t',u,hj,hk,hu,he,h⟩
  have hkl:=iR hk
  rw[List.length_append,List.length_singleton] at hkl
  have hu':ts[j]? = some u:=by rw[List.getElem?_append_left (by omega)] at hu;exact hu
  rcases Nat.lt_or_ge k ts.length with h' | h'
  ·rw[List.getElem?_append_left h'] at hk
   exact Or.inl ⟨k,j,t',u,hj,hk,hu',he,h⟩
  ·rw[List.getElem?_append_right h',show k-ts.length=0 from by omega] at hk
   simp at hk;subst hk
   exact Or.inr ⟨⟨u,List.mem_of_getElem? hu',he⟩,h⟩
 ·rintro(⟨k,j,t',u,hj,hk,hu,he,h⟩ | ⟨⟨u,hu,he⟩,h⟩)
  ·exact⟨k,j,t',u,hj,by rw[List.getElem?_append_left (iR hk)];exact hk,by rw[List.getElem?_append_left (iR hu)];exact hu,he,h⟩
  ·obtain⟨j,hj,rfl⟩:=List.getElem_of_mem hu
   exact⟨ts.length,j,t,ts[j],hj,by simp,by rw[List.getElem?_append_left hj];exact List.getElem?_eq_getElem hj,he,h⟩
theorem DJ (p:bY→Bool) (a:Nat):∀ X:List bY,wQ ((X.filter p).map (fun x=>x.it.name)) a↔∃ (k j:Nat) (x y:bY),j<k∧X[k]? = some x∧X[j]? = some y∧p x=true∧p y=true∧y.it.name.text.toList=x.it.name.text.toList∧a=x.it.name.at_:=by
 intro X
 refine KN (P:=fun X=>wQ ((X.filter p).map (fun x=>x.it.name)) a↔∃ (k j:Nat) (x y:bY),j<k∧X[k]? = some x∧X[j]? = some y∧p x=true∧p y=true∧y.it.name.text.toList=x.it.name.text.toList∧a=x.it.name.at_) ?_ ?_ X
 ·constructor
  ·rintro⟨k,j,t,u,hj,hk,_⟩;simp at hk
  ·rintro⟨k,j,t,u,hj,hk,_⟩;simp at hk
 ·intro l z ih
  have right:(∃ (k j:Nat) (x y:bY),j<k∧(l++[z])[k]? = some x∧(l++[z])[j]? = some y∧p x=true∧p y=true∧y.it.name.text.toList=x.it.name.text.toList∧a=x.it.name.at_)↔(∃ (k j:Nat) (x y:bY),j<k∧l[k]? = some x∧l[j]? = some y∧p x=true∧p y=true∧y.it.name.text.toList=x.it.name.text.toList∧a=x.it.name.at_)∨(p z=true∧(∃ y∈l,p y=true∧y.it.name.text.toList=z.it.name.text.toList)∧a=z.it.name.at_):=by
   constructor
   ·rintro⟨k,j,x,y,hj,hk,hy,h1,h2,h3,h4⟩
    have hkl:=iR hk
    rw[List.length_append,List.length_singleton] at hkl
    have hy':l[j]? = some y:=by rw[List.getElem?_append_left (by omega)] at hy;exact hy
    rcases Nat.lt_or_ge k l.length with h' | h'
    ·rw[List.getElem?_append_left h'] at hk
     exact Or.inl ⟨k,j,x,y,hj,hk,hy',h1,h2,h3,h4⟩
    ·rw[List.getElem?_append_right h',show k-l.length=0 from by omega] at hk
     simp at hk;subst hk
     exact Or.inr ⟨h1,⟨y,List.mem_of_getElem? hy',h2,h3⟩,h4⟩
   ·rintro(⟨k,j,x,y,hj,hk,hy,h⟩ | ⟨h1,⟨y,hy,h2,h3⟩,h4⟩)
    ·exact⟨k,j,x,y,hj,by rw[List.getElem?_append_left (iR hk)];exact hk,by rw[List.getElem?_append_left (iR hy)];exact hy,h⟩
    ·obtain⟨j,hj,rfl⟩:=List.getElem_of_mem hy
     exact⟨l.length,j,z,l[j],hj,by simp,by rw[List.getElem?_append_left hj];exact List.getElem?_eq_getElem hj,h1,h2,h3,h4⟩
  rw[right,← ih,List.filter_append]
  cases hz:p z with
  | false=>simp[hz]
  | true=>
   rw[show List.filter p [z]=[z] by simp[hz],List.map_append,List.map_cons,List.map_nil,wQ.snoc]
   simp only[true_and]
   refine or_congr_right (and_congr_left' ?_)
   constructor
   ·rintro⟨u,hu,he⟩
    obtain⟨y,hy,rfl⟩:=List.mem_map.1 hu
    obtain⟨h1,h2⟩:=List.mem_filter.1 hy
    exact⟨y,h1,h2,he⟩
   ·rintro⟨y,hy,h1,h2⟩
    exact⟨_,List.mem_map.2 ⟨y,List.mem_filter.2 ⟨hy,h1⟩,rfl⟩,h2⟩
theorem zK {fs:List bD} {a:Nat}:∀ n,a∈oZ fs n↔∃ (k:Nat) (f g:bD),1≤k∧k≤n∧fs[k]? = some f∧fs[k-1]? = some g∧f.number≤g.number∧a=f.numberAt
 | 0=>by
  constructor
  ·intro h;simp[oZ] at h
  ·rintro⟨k,f,g,h1,h2,_⟩;omega
 | n+1=>by
  show a∈oZ fs n++xq fs (n+1)↔_
  rw[List.mem_append,zK n]
  constructor
  ·rintro(⟨k,f,g,h1,h2,h⟩ | h)
   ·exact⟨k,f,g,h1,by omega,h⟩
   ·unfold xq at h
    cases hf:fs[n+1]? with
    | none=>rw[hf] at h;simp at h
    | some f=>
     rw[hf] at h
     obtain⟨h1,h2⟩:=rX.1 h
     unfold Qd at h1
     rw[hf] at h1
     cases hg:fs[n+1-1]? with
     | none=>rw[hg] at h1;simp at h1
     | some g=>rw[hg] at h1;exact⟨n+1,f,g,by omega,by omega,hf,hg,by simpa using h1,h2⟩
  ·rintro⟨k,f,g,h1,h2,hf,hg,h3,h4⟩
   rcases Nat.lt_or_ge k (n+1) with h | h
   ·exact Or.inl ⟨k,f,g,h1,by omega,hf,hg,h3,h4⟩
   ·have e:k=n+1:=by omega
    subst e
    right
    unfold xq Qd
    rw[hf,hg]
    exact rX.2 ⟨by simpa using h3,h4⟩
theorem DK {X:List bY} {ts:List aF} {a:Nat}:a∈wC X ts↔∃ t∈ts,hasB X t.text=false∧a=t.at_:=by
 unfold wC
 rw[List.mem_flatMap]
 constructor
 ·rintro⟨t,ht,h⟩
  obtain⟨h1,h2⟩:=rX.1 h
  exact⟨t,ht,by simpa[Fh] using h1,h2⟩
 ·rintro⟨t,ht,h1,h2⟩
  exact⟨t,ht,rX.2 ⟨by simp[Fh,h1],h2⟩⟩
def PFI (X:List bY) (i:Nat) (x:bY) (a:Nat):Prop:=a∈lF [x.it.fields.map fname]∨a∈lF [x.it.names]∨a∈oZ x.it.fields (x.it.fields.length-1)∨a∈wC X (kJ x.it)∨(x.it.kind=0∧Way X i i∧a=x.it.name.at_)
def PF (X:List bY) (a:Nat):Prop:=a∈lF [dL X,bW X]∨∃ i x,X[i]? = some x∧PFI X i x a
theorem rY {X:List bY} {Y:List IV} (h:Twin X Y) (b:ByteArray):jS Y b.toList=hasB X b:=by unfold jS hasB;rw[h.find]
theorem yM {X:List bY} {Y:List IV} (h:Twin X Y) {i:Nat} {x:bY}:uq Y i (toR x.it)=true↔∃ (j:Nat) (y:bY),j<i∧X[j]? = some y∧gZ y.it.kind=gZ x.it.kind∧y.it.name.text.toList=x.it.name.text.toList:=by
 unfold uq
 rw[List.any_eq_true]
 constructor
 ·rintro⟨u,hu,he⟩
  obtain⟨j,hj,rfl⟩:=List.getElem_of_mem hu
  rw[List.length_take] at hj
  rw[List.getElem_take] at he
  obtain⟨y,hy,ey⟩:=h.atR (List.getElem?_eq_getElem (show j<Y.length by omega))
  rw[ey] at he
  simp only[Bool.and_eq_true,beq_iff_eq,toR] at he
  rw[nC,nC] at he
  exact⟨j,y,by omega,hy,he.2.symm,he.1⟩
 ·rintro⟨j,y,hj,hy,h1,h2⟩
  obtain⟨u,hu,eu⟩:=h.atP hy
  refine⟨u,List.mem_of_getElem? (by rw[List.getElem?_take,if_pos hj];exact hu),?_⟩
  rw[eu]
  simp only[Bool.and_eq_true,beq_iff_eq,toR]
  rw[nC,nC]
  exact⟨h2,h1.symm⟩
theorem qQ {X:List bY} {Y:List IV} (h:Twin X Y) {i:Nat} {p:iy} {a:Nat}:a∈fP Y i (toR p) ↔
  ((uq Y i (toR p)=true∧a=p.name.at_)∨(p.kind=0∧holdsB Y p.name.text=true∧a=p.name.at_)) ∨
  (∃ k f,p.fields[k]? = some f∧((uP (p.fields.map ni) k=true∧a=f.numberAt)∨(ug (p.fields.map ni) k k=true∧a=f.nameAt)∨(hasB X f.base=false∧a=f.bV))) ∨
  (∃ k t,p.names[k]? = some t∧uQ (p.names.map aF.text) k k=true∧a=t.at_) ∨
  (∃ t,(p.kind=2∨p.kind=3)∧t∈kJ p∧hasB X t.text=false∧a=t.at_):=by
 have e0:fP Y i (toR p)=oP Y i (toR p)++(List.range p.fields.length).flatMap (jT Y (p.fields.map ni))++(List.range p.names.length).flatMap (qw (p.names.map aF.text) (p.names.map aF.at_))++(List.range (toR p).bases.length).flatMap (qY Y (toR p).bases (toR p).aV):=by
  unfold fP;simp[toR]
 rw[e0,List.mem_append,List.mem_append,List.mem_append,or_assoc,or_assoc]
 refine or_congr ?_ (or_congr ?_ (or_congr ?_ ?_))
 ·unfold oP
  rw[List.mem_append,oH,oH]
  refine or_congr Iff.rfl ?_
  rw[show (toR p).kind=oz p.kind from rfl,AP,show (toR p).name=p.name.text from rfl,show (toR p).nameAt=p.name.at_ from rfl]
  simp[and_assoc]
 ·rw[List.mem_flatMap]
  constructor
  ·rintro⟨k,hk,ha⟩
   unfold jT at ha
   rw[List.getElem?_map] at ha
   cases hf:p.fields[k]? with
   | none=>rw[hf] at ha;simp at ha
   | some f=>
    rw[hf] at ha
    simp only[Option.map_some,List.mem_append,oH,or_assoc] at ha
    refine⟨k,f,hf,?_⟩
    rcases ha with h1 | h1 | h1
    ·exact Or.inl h1
    ·exact Or.inr (Or.inl h1)
    ·refine Or.inr (Or.inr ⟨?_,h1.2⟩)
     rw[← rY h];simpa[ni] using h1.1
  ·rintro⟨k,f,hf,h1⟩
   refine⟨k,List.mem_range.2 (iR hf),?_⟩
   unfold jT
   rw[List.getElem?_map,hf]
   simp only[Option.map_some,List.mem_append,oH,or_assoc]
   rcases h1 with h1 | h1 | h1
   ·exact Or.inl h1
   ·exact Or.inr (Or.inl h1)
   ·refine Or.inr (Or.inr ⟨?_,h1.2⟩)
    have:=h1.1
    rw[← rY h] at this;simpa[ni] using this
 ·rw[List.mem_flatMap]
  constructor
  ·rintro⟨k,hk,ha⟩
   unfold qw at ha
   rw[List.getElem?_map] at ha
   cases hf:p.names[k]? with
   | none=>rw[hf] at ha;simp at ha
   | some f=>
    rw[hf] at ha
    simp only[Option.map_some,oH] at ha
    exact⟨k,f,hf,ha⟩
  ·rintro⟨k,f,hf,h1⟩
   refine⟨k,List.mem_range.2 (iR hf),?_⟩
   unfold qw
   rw[List.getElem?_map,hf]
   simp only[Option.map_some,oH]
   exact h1
 ·rw[List.mem_flatMap]
  by_cases h2:p.kind=2
  ·have e1:(toR p).bases=[cellText p.base]:=by simp[toR,h2]
   have e2:(toR p).aV=[cellAt p.base]:=by simp[toR,h2]
   have e3:kJ p=[⟨2,cellText p.base,cellAt p.base⟩]:=by simp[kJ,h2]
   rw[e1,e2,e3]
   simp[qY,oH,h2,rY h,List.range_succ]
  ·by_cases h3:p.kind=3
   ·have e1:(toR p).bases=[cellText p.base,cellText p.answer]:=by simp[toR,h3]
    have e2:(toR p).aV=[cellAt p.base,cellAt p.answer]:=by simp[toR,h3]
    have e3:kJ p=[⟨2,cellText p.base,cellAt p.base⟩,⟨2,cellText p.answer,cellAt p.answer⟩]:=by simp[kJ,h3]
    rw[e1,e2,e3]
    simp[qY,oH,h3,rY h,List.range_succ]
   ·have e1:(toR p).bases=[]:=by simp[toR,h2,h3]
    rw[e1]
    simp[h2,h3]
theorem KO {fs:List bD} {k:Nat} {f:bD} (hf:fs[k]? = some f):uP (fs.map ni) k=true↔∃ g,1≤k∧fs[k-1]? = some g∧f.number≤g.number:=by
 unfold uP
 rw[List.getElem?_map,List.getElem?_map,hf]
 cases hg:fs[k-1]? with
 | none=>simp
 | some g=>simp[ni];omega
theorem Gv {fs:List bD} {k:Nat} {f:bD} (hf:fs[k]? = some f):ug (fs.map ni) k k=true↔∃ (j:Nat) (g:bD),j<k∧fs[j]? = some g∧g.name.toList=f.name.toList:=by
 unfold ug
 rw[List.getElem?_map,hf]
 simp only[Option.map_some]
 rw[List.any_eq_true]
 constructor
 ·rintro⟨u,hu,he⟩
  obtain⟨j,hj,rfl⟩:=List.getElem_of_mem hu
  rw[List.length_take,List.length_map] at hj
  rw[List.getElem_take,List.getElem_map] at he
  exact⟨j,fs[j],by omega,List.getElem?_eq_getElem (by omega),eq_of_beq he⟩
 ·rintro⟨j,g,hj,hg,he⟩
  refine⟨ni g,List.mem_of_getElem? (by rw[List.getElem?_take,if_pos hj,List.getElem?_map,hg];rfl),?_⟩
  simp[ni,he]
theorem Gw {ts:List aF} {k:Nat} {t:aF} (hf:ts[k]? = some t):uQ (ts.map aF.text) k k=true↔∃ (j:Nat) (u:aF),j<k∧ts[j]? = some u∧u.text.toList=t.text.toList:=by
 unfold uQ
 rw[List.getElem?_map,hf]
 simp only[Option.map_some]
 rw[List.any_eq_true]
 constructor
 ·rintro⟨u,hu,he⟩
  obtain⟨j,hj,rfl⟩:=List.getElem_of_mem hu
  rw[List.length_take,List.length_map] at hj
  rw[List.getElem_take,List.getElem_map] at he
  exact⟨j,ts[j],by omega,List.getElem?_eq_getElem (by omega),eq_of_beq he⟩
 ·rintro⟨j,g,hj,hg,he⟩
  refine⟨g.text,List.mem_of_getElem? (by rw[List.getElem?_take,if_pos hj,List.getElem?_map,hg];rfl),?_⟩
  simp[he]
structure Facts (s:ByteArray) (X:List bY):Prop where
 it:∀ x∈X,∃ lo,Ug s lo s.size x.it
 ahead:(X.map (fun x=>x.it)).Pairwise (Ahead s)
theorem Facts.shapes {s:ByteArray} {X:List bY} (h:Facts s X):∀ x∈X,∀ f∈x.it.fields,f.shape≤2:=fun x hx f hf=>by
 obtain⟨lo,hi⟩:=h.it x hx;exact(hi.f f hf).sh
theorem rZ {s:ByteArray} {X:List bY} {Y:List IV} (h:Twin X Y) (hF:Facts s X) (a:Nat):PF X a↔∃ i y,Y[i]? = some y∧a∈fP Y i y.it:=by
 have hdup:a∈lF [dL X,bW X]↔∃ i x,X[i]? = some x∧uq Y i (toR x.it)=true∧a=x.it.name.at_:=by
  rw[SE]
  unfold dL bW
  rw[DJ,DJ]
  constructor
  ·rintro(⟨k,j,x,y,hj,hk,hy,h1,h2,h3,h4⟩ | ⟨k,j,x,y,hj,hk,hy,h1,h2,h3,h4⟩)
   ·exact⟨k,x,hk,(yM h).2 ⟨j,y,hj,hy,by rw[h1,h2],h3⟩,h4⟩
   ·refine⟨k,x,hk,(yM h).2 ⟨j,y,hj,hy,?_,h3⟩,h4⟩
    simp only[Bool.not_eq_true'] at h1 h2;rw[h1,h2]
  ·rintro⟨k,x,hk,hd,h4⟩
   obtain⟨j,y,hj,hy,h1,h3⟩:=(yM h).1 hd
   cases ht:gZ x.it.kind with
   | true=>exact Or.inl ⟨k,j,x,y,hj,hk,hy,ht,by rw[h1,ht],h3,h4⟩
   | false=>exact Or.inr ⟨k,j,x,y,hj,hk,hy,by simp[ht],by simp[h1,ht],h3,h4⟩
 -- a message that is the first of its name
 have acG:∀ i x,X[i]? = some x→x.it.kind=0→uq Y i (toR x.it)=false→(Way X i i↔holdsB Y x.it.name.text=true):=by
  intro i x hx hk hd
  have hfind:bT X x.it.name.text.toList=(i:Int):=by
   refine Dl hx (by simp[iq,gZ,hk]) (fun j y hj hy=>?_)
   cases hm:iq x.it.name.text.toList y.it with
   | false=>rfl
   | true=>
    simp only[iq,Bool.and_eq_true] at hm
    have:uq Y i (toR x.it)=true:=(yM h).2 ⟨j,y,hj,hy,by rw[hm.1,hk];rfl,eq_of_beq hm.2⟩
    rw[hd] at this;cases this
  rw[OB]
  exact⟨fun hw=>hw.toN h hF.shapes _ _ _ _ hfind hfind,fun hw=>hw.toI h hF.shapes _ _ _ _ hfind hfind⟩
 constructor
 ·rintro(hr | ⟨i,x,hx,hp⟩)
  ·obtain⟨i,x,hx,hd,e⟩:=hdup.1 hr
   obtain⟨y,hy,ey⟩:=h.atP hx
   exact⟨i,y,hy,by rw[ey];exact(qQ h).2 (Or.inl (Or.inl ⟨hd,e⟩))⟩
  ·obtain⟨y,hy,ey⟩:=h.atP hx
   refine⟨i,y,hy,?_⟩
   rw[ey,qQ h]
   rcases hp with hp | hp | hp | hp | ⟨hk,hw,e⟩
   ·obtain⟨k,j,t,u,hj,hk,hu,he,ha⟩:=vX.1 hp
    rw[List.getElem?_map] at hk hu
    cases hf:x.it.fields[k]? with
    | none=>rw[hf] at hk;simp at hk
    | some f=>
     cases hg:x.it.fields[j]? with
     | none=>rw[hg] at hu;simp at hu
     | some g=>
      rw[hf] at hk;rw[hg] at hu
      simp only[Option.map_some,Option.some.injEq] at hk hu
      subst hk;subst hu
      exact Or.inr (Or.inl ⟨k,f,hf,Or.inr (Or.inl ⟨(Gv hf).2 ⟨j,g,hj,hg,he⟩,ha⟩)⟩)
   ·obtain⟨k,j,t,u,hj,hk,hu,he,ha⟩:=vX.1 hp
    exact Or.inr (Or.inr (Or.inl ⟨k,t,hk,(Gw hk).2 ⟨j,u,hj,hu,he⟩,ha⟩))
   ·obtain⟨k,f,g,h1,h2,hf,hg,h3,h4⟩:=(zK _).1 hp
    exact Or.inr (Or.inl ⟨k,f,hf,Or.inl ⟨(KO hf).2 ⟨g,h1,hg,h3⟩,h4⟩⟩)
   ·obtain⟨t,ht,h1,h2⟩:=DK.1 hp
    by_cases hk2:x.it.kind=2
    ·exact Or.inr (Or.inr (Or.inr ⟨t,Or.inl hk2,ht,h1,h2⟩))
    ·by_cases hk3:x.it.kind=3
     ·exact Or.inr (Or.inr (Or.inr ⟨t,Or.inr hk3,ht,h1,h2⟩))
     ·unfold kJ at ht
      rw[if_neg hk2,if_neg hk3] at ht
      obtain⟨f,hf,rfl⟩:=List.mem_map.1 ht
      obtain⟨k,hk,rfl⟩:=List.getElem_of_mem hf
      exact Or.inr (Or.inl ⟨k,_,List.getElem?_eq_getElem hk,Or.inr (Or.inr ⟨h1,h2⟩)⟩)
   ·cases hd:uq Y i (toR x.it) with
    | true=>exact Or.inl (Or.inl ⟨rfl,e⟩)
    | false=>exact Or.inl (Or.inr ⟨hk,(acG i x hx hk hd).1 hw,e⟩)
 ·rintro⟨i,y,hy,ha⟩
  obtain⟨x,hx,ex⟩:=h.atR hy
  rw[ex,qQ h] at ha
  rcases ha with(⟨hd,e⟩ | ⟨hk,hh,e⟩) | ⟨k,f,hf,hc⟩ | ⟨k,t,ht,hn,e⟩ | ⟨t,hk,ht,hb,e⟩
  ·exact Or.inl (hdup.2 ⟨i,x,hx,hd,e⟩)
  ·cases hd:uq Y i (toR x.it) with
   | true=>exact Or.inl (hdup.2 ⟨i,x,hx,hd,e⟩)
   | false=>exact Or.inr ⟨i,x,hx,Or.inr (Or.inr (Or.inr (Or.inr ⟨hk,(acG i x hx hk hd).2 hh,e⟩)))⟩
  ·rcases hc with⟨hn,e⟩ | ⟨hn,e⟩ | ⟨hb,e⟩
   ·obtain⟨g,h1,hg,h3⟩:=(KO hf).1 hn
    exact Or.inr ⟨i,x,hx,Or.inr (Or.inr (Or.inl ((zK _).2 ⟨k,f,g,h1,by have:=iR hf;omega,hf,hg,h3,e⟩)))⟩
   ·obtain⟨j,g,hj,hg,he⟩:=(Gv hf).1 hn
    exact Or.inr ⟨i,x,hx,Or.inl (vX.2 ⟨k,j,fname f,fname g,hj,by rw[List.getElem?_map,hf];rfl,by rw[List.getElem?_map,hg];rfl,he,e⟩)⟩
   ·refine Or.inr ⟨i,x,hx,Or.inr (Or.inr (Or.inr (Or.inl (DK.2 ⟨jc f,?_,hb,e⟩))))⟩
    obtain⟨lo,hi⟩:=hF.it x (List.mem_of_getElem? hx)
    have hlt:¬ 2≤x.it.kind:=fun h2=>by rw[hi.fn h2] at hf;simp at hf
    unfold kJ
    rw[if_neg (by omega),if_neg (by omega)]
    exact List.mem_map.2 ⟨f,List.mem_of_getElem? hf,rfl⟩
  ·obtain⟨j,u,hj,hu,he⟩:=(Gw ht).1 hn
   exact Or.inr ⟨i,x,hx,Or.inr (Or.inl (vX.2 ⟨k,j,t,u,hj,ht,hu,he,e⟩))⟩
  ·exact Or.inr ⟨i,x,hx,Or.inr (Or.inr (Or.inr (Or.inl (DK.2 ⟨t,ht,hb,e⟩))))⟩
theorem SG {s:ByteArray} {lo hi:Nat} {p:iy} (h:Ug s lo hi p) (hk:p.kind=2∨p.kind=3) {t:aF} (ht:t∈kJ p):lo≤t.at_∧t.at_<hi:=by
 obtain⟨u,e,hu⟩:=h.b (by omega)
 have e1:cellAt p.base=u.at_:=by rw[e];exact Dt u
 unfold kJ at ht
 by_cases h2:p.kind=2
 ·rw[if_pos h2] at ht
  rw[List.mem_singleton.1 ht]
  show lo≤cellAt p.base∧cellAt p.base<hi
  rw[e1];exact hu.a
 ·have h3:p.kind=3:=by omega
  rw[if_neg h2,if_pos h3] at ht
  obtain⟨v,e',hv⟩:=h.a h3
  have e2:cellAt p.answer=v.at_:=by rw[e'];exact Dt v
  rcases List.mem_cons.1 ht with rfl | ht
  ·show lo≤cellAt p.base∧cellAt p.base<hi
   rw[e1];exact hu.a
  ·rw[List.mem_singleton.1 ht]
   show lo≤cellAt p.answer∧cellAt p.answer<hi
   rw[e2];exact hv.a
theorem DN {s:ByteArray} {X:List bY} {Y:List IV} (h:Twin X Y) {i:Nat} {p:iy} {lo hi a:Nat} (hp:Ug s lo hi p) (ha:a∈fP Y i (toR p)):lo≤a∧a<hi:=by
 rw[qQ h] at ha
 rcases ha with(⟨_,e⟩ | ⟨_,_,e⟩) | ⟨k,f,hf,hc⟩ | ⟨k,t,ht,_,e⟩ | ⟨t,hk,ht,_,e⟩
 ·rw[e];exact hp.nm.a
 ·rw[e];exact hp.nm.a
 ·have:=hp.f f (List.mem_of_getElem? hf)
  rcases hc with⟨_,e⟩ | ⟨_,e⟩ | ⟨_,e⟩<;>rw[e]
  ·exact this.n
  ·exact this.m
  ·exact this.b
 ·rw[e];exact(hp.n t (List.mem_of_getElem? ht)).a
 ·rw[e];exact SG hp hk ht
theorem OD (L:List Nat):(L=[]∧cZ L = -1)∨∃ m∈L,cZ L=(m:Int)∧∀ a∈L,m≤a:=by
 refine KN (P:=fun L=>(L=[]∧cZ L = -1)∨∃ m∈L,cZ L=(m:Int)∧∀ a∈L,m≤a) (Or.inl ⟨rfl,rfl⟩) (fun l b ih=>?_) L
 right
 rw[qO]
 unfold kS
 rcases ih with⟨rfl,e⟩ | ⟨m,hm,e,hl⟩
 ·rw[e];exact⟨b,by simp,by simp,by simp⟩
 ·rw[e]
  by_cases hb:b<m
  ·refine⟨b,by simp,?_,fun a ha=>?_⟩
   ·rw[if_pos (by omega)]
   ·rcases List.mem_append.1 ha with ha | ha
    ·have:=hl a ha;omega
    ·rw[List.mem_singleton.1 ha];omega
  ·refine⟨m,by simp[hm],?_,fun a ha=>?_⟩
   ·rw[if_neg (by omega)]
   ·rcases List.mem_append.1 ha with ha | ha
    ·exact hl a ha
    ·rw[List.mem_singleton.1 ha];omega
end Go.Proofs.YtgalebcpagmohaaGreatDoor
