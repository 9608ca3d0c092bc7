/- Does a message hold itself: the reference's list of names met says the same as the ways by plain fields (no walk). -/
import Derived.Test.YtdgcamlmjmnpeaaGreatDoorMEqParse
import Derived.Test.YtdgcamlmjmnpeaaGreatDoorMHolds
import Derived.Test.YtdgcamlmjmnpeaaGreatDoorMRefFault
namespace Go.Proofs.YtdgcamlmjmnpeaaGreatDoor
def StepN (Y:List IV) (m b:List UInt8):Prop:=∃ (i:Nat) (x:IV) (f:RField),findI Y m = (i:Int) ∧ Y[i]? = some x ∧ f ∈ x.it.fields ∧ f.kind.toList.isEmpty = true ∧ f.base.toList = b
def WayN (Y:List IV) (i k:List UInt8):Prop := ∃ n,WayL (StepN Y) n i k
theorem WayN.one {Y:List IV} {i j:List UInt8} (e:StepN Y i j):WayN Y i j := ⟨0,e⟩
theorem WayN.more {Y:List IV} {i j k:List UInt8} (e:StepN Y i j) (h:WayN Y j k):WayN Y i k := h.elim fun n hn => ⟨n + 1,j,e,hn⟩
theorem WayN.ind {Y:List IV} {motive:∀ i k,WayN Y i k → Prop} (one:∀ {i j} (e:StepN Y i j),motive i j (.one e)) (more:∀ {i j k} (e:StepN Y i j) (h:WayN Y j k),motive j k h → motive i k (.more e h)):∀ {i k} (h:WayN Y i k),motive i k h :=
  fun {i k} ⟨n,h⟩ => WayL.ind (P := fun i k => ∀ h,motive i k h) (fun _ _ e _ => one e) (fun _ _ _ n e h ih _ => more e ⟨n,h⟩ (ih _)) n i k h _
theorem WayN.snoc {Y:List IV} {a b c:List UInt8} (h:WayN Y a b) (k:StepN Y b c):WayN Y a c:=by
 induction h using WayN.ind with
 | one e=>exact .more e (.one k)
 | more e _ ih=>exact .more e (ih k)
theorem inB_iff {M:List ByteArray} {b:ByteArray}:inB M b = true ↔ ∃ m ∈ M,m.toList = b.toList:=by
 unfold inB;rw [List.any_eq_true];simp
theorem innerP_none {name:ByteArray}:∀ (fs:List RField) (M:List ByteArray),innerP name fs M = none → ∃ f ∈ fs,f.kind.toList.isEmpty = true ∧ f.base.toList = name.toList
 | [],M,h=>by simp [innerP] at h
 | f :: r,M,h=>by
  unfold innerP at h
  by_cases h1:f.kind.toList.isEmpty = false
  ·rw [if_pos h1] at h
   obtain ⟨g,hg,h2⟩:=innerP_none r M h;exact ⟨g,by simp [hg],h2⟩
  ·rw [if_neg h1] at h
   by_cases h2:(f.base.toList == name.toList) = true
   ·exact ⟨f,by simp,by simpa using h1,eq_of_beq h2⟩
   ·rw [if_neg h2] at h
    by_cases h3:inB M f.base = true
    ·rw [if_pos h3] at h
     obtain ⟨g,hg,h2⟩:=innerP_none r M h;exact ⟨g,by simp [hg],h2⟩
    ·rw [if_neg h3] at h
     obtain ⟨g,hg,h2⟩:=innerP_none r _ h;exact ⟨g,by simp [hg],h2⟩
theorem innerP_some {name:ByteArray} {U:List (List UInt8)}:∀ (fs:List RField) (M M':List ByteArray),innerP name fs M = some M' → Good U M → (∀ f ∈ fs,f.base.toList ∈ U) →
  (∃ E,M' = M ++ E ∧ ∀ e ∈ E,∃ f ∈ fs,f.kind.toList.isEmpty = true ∧ f.base = e) ∧ (∀ f ∈ fs,f.kind.toList.isEmpty = true → f.base.toList ≠ name.toList ∧ inB M' f.base = true) ∧ Good U M'
 | [],M,M',h,hg,_=>by simp [innerP] at h;subst h;exact ⟨⟨[],by simp,by simp⟩,by simp,hg⟩
 | f :: r,M,M',h,hg,hU=>by
  have hUr:∀ f ∈ r,f.base.toList ∈ U:=fun g hg=>hU g (by simp [hg])
  unfold innerP at h
  by_cases h1:f.kind.toList.isEmpty = false
  ·rw [if_pos h1] at h
   obtain ⟨⟨E,e1,e2⟩,h2,h3⟩:=innerP_some r M M' h hg hUr
   refine ⟨⟨E,e1,fun e he=>?_⟩,fun g hg' hk=>?_,h3⟩
   ·obtain ⟨q,hq,hq2⟩:=e2 e he;exact ⟨q,by simp [hq],hq2⟩
   ·rcases List.mem_cons.1 hg' with rfl | hg'
    ·rw [h1] at hk;cases hk
    ·exact h2 g hg' hk
  ·rw [if_neg h1] at h
   have h1':f.kind.toList.isEmpty = true:=by simpa using h1
   by_cases h2:(f.base.toList == name.toList) = true
   ·rw [if_pos h2] at h;cases h
   ·rw [if_neg h2] at h
    have h2':f.base.toList ≠ name.toList:=fun e=>h2 (by rw [e];simp)
    by_cases h3:inB M f.base = true
    ·rw [if_pos h3] at h
     obtain ⟨⟨E,e1,e2⟩,h4,h5⟩:=innerP_some r M M' h hg hUr
     refine ⟨⟨E,e1,fun e he=>?_⟩,fun g hg' hk=>?_,h5⟩
     ·obtain ⟨q,hq,hq2⟩:=e2 e he;exact ⟨q,by simp [hq],hq2⟩
     ·rcases List.mem_cons.1 hg' with rfl | hg'
      ·refine ⟨h2',?_⟩
       obtain ⟨m,hm,e⟩:=inB_iff.1 h3
       exact inB_iff.2 ⟨m,by rw [e1];simp [hm],e⟩
      ·exact h4 g hg' hk
    ·rw [if_neg h3] at h
     have hg2:Good U (M ++ [f.base]):=hg.push (hU f (by simp)) (by simpa using h3)
     obtain ⟨⟨E,e1,e2⟩,h4,h5⟩:=innerP_some r _ M' h hg2 hUr
     refine ⟨⟨f.base :: E,by rw [e1];simp,fun e he=>?_⟩,fun g hg' hk=>?_,h5⟩
     ·rcases List.mem_cons.1 he with rfl | he
      ·exact ⟨f,by simp,h1',rfl⟩
      ·obtain ⟨q,hq,hq2⟩:=e2 e he;exact ⟨q,by simp [hq],hq2⟩
     ·rcases List.mem_cons.1 hg' with rfl | hg'
      ·exact ⟨h2',inB_iff.2 ⟨g.base,by rw [e1];simp,rfl⟩⟩
      ·exact h4 g hg' hk
theorem fieldsAt_of {Y:List IV} {m:List UInt8} (h:¬ findI Y m < 0):∃ (i:Nat) (x:IV),findI Y m = (i:Int) ∧ Y[i]? = some x ∧ fieldsAt Y (findI Y m) = x.it.fields:=by
 obtain ⟨i,x,h1,h2⟩:=findI_lt (X:=Y) (n:=m) (by omega)
 refine ⟨i,x,h1,h2,?_⟩
 unfold fieldsAt
 rw [h1,show ((i:Int)).toNat = i from by omega,h2]
theorem outerP_true {Y:List IV} {name:ByteArray}:∀ (f:Nat) (M:List ByteArray) (a:Nat),Good (univ Y name) M → (∀ m ∈ M,m.toList = name.toList ∨ WayN Y name.toList m.toList) → outerP Y name f M a = true → WayN Y name.toList name.toList
 | 0,M,a,_,_,h=>by simp [outerP] at h
 | f + 1,M,a,hg,hM,h=>by
  unfold outerP at h
  cases hm:M[a]? with
  | none=>rw [hm] at h;simp at h
  | some m =>
   rw [hm] at h
   simp only at h
   have hmM:=List.mem_of_getElem? hm
   by_cases h0:findI Y m.toList < 0
   ·rw [if_pos h0] at h;exact outerP_true f M (a + 1) hg hM h
   ·rw [if_neg h0] at h
    obtain ⟨i,x,e1,e2,e3⟩:=fieldsAt_of h0
    rw [e3] at h
    cases hi:innerP name x.it.fields M with
    | none =>
     obtain ⟨g,hg1,hg2,hg3⟩:=innerP_none _ _ hi
     have hst:StepN Y m.toList name.toList:=⟨i,x,g,e1,e2,hg1,hg2,hg3⟩
     rcases hM m hmM with e | e
     ·rw [e] at hst;exact .one hst
     ·exact e.snoc hst
    | some M' =>
     rw [hi] at h
     obtain ⟨⟨E,hE1,hE2⟩,_,hg'⟩:=innerP_some _ _ _ hi hg (fun f hf=>by
      obtain ⟨j,hj,rfl⟩:=List.getElem_of_mem hf
      exact univ_mem e2 (List.getElem?_eq_getElem hj))
     refine outerP_true f M' (a + 1) hg' (fun q hq=>?_) h
     rw [hE1] at hq
     rcases List.mem_append.1 hq with hq | hq
     ·exact hM q hq
     ·obtain ⟨g,hg1,hg2,rfl⟩:=hE2 q hq
      have hst:StepN Y m.toList g.base.toList:=⟨i,x,g,e1,e2,hg1,hg2,rfl⟩
      rcases hM m hmM with e | e
      ·rw [e] at hst;exact Or.inr (.one hst)
      ·exact Or.inr (e.snoc hst)
def Closed (Y:List IV) (name:ByteArray) (M:List ByteArray) (a:Nat):Prop:=∀ j m,j < a → M[j]? = some m → ∀ b,StepN Y m.toList b → b ≠ name.toList ∧ ∃ q ∈ M,q.toList = b
theorem outerP_false {Y:List IV} {name:ByteArray}:∀ (f:Nat) (M:List ByteArray) (a:Nat),Good (univ Y name) M → (univ Y name).length ≤ f + a → Closed Y name M a → name ∈ M → outerP Y name f M a = false → ∃ M',name ∈ M' ∧ Closed Y name M' M'.length
 | 0,M,a,hg,hf,hc,hn,h=>⟨M,hn,fun j m hj hm=>hc j m (by have:=hg.len;omega) hm⟩
 | f + 1,M,a,hg,hf,hc,hn,h=>by
  unfold outerP at h
  cases hm:M[a]? with
  | none =>
   refine ⟨M,hn,fun j m hj hm'=>hc j m ?_ hm'⟩
   rw [List.getElem?_eq_none_iff] at hm;omega
  | some m =>
   rw [hm] at h
   simp only at h
   by_cases h0:findI Y m.toList < 0
   ·rw [if_pos h0] at h
    refine outerP_false f M (a + 1) hg (by omega) (fun j q hj hq b hb=>?_) hn h
    rcases Nat.lt_or_ge j a with hja | hja
    ·exact hc j q hja hq b hb
    ·rw [show j = a from by omega,hm] at hq;simp at hq;subst hq
     obtain ⟨i,_,_,e,_⟩:=hb;omega
   ·rw [if_neg h0] at h
    obtain ⟨i,x,e1,e2,e3⟩:=fieldsAt_of h0
    rw [e3] at h
    cases hi:innerP name x.it.fields M with
    | none=>rw [hi] at h;cases h
    | some M' =>
     rw [hi] at h
     obtain ⟨⟨E,hE1,hE2⟩,hcl,hg'⟩:=innerP_some _ _ _ hi hg (fun f hf=>by
      obtain ⟨j,hj,rfl⟩:=List.getElem_of_mem hf
      exact univ_mem e2 (List.getElem?_eq_getElem hj))
     have halt:a < M.length:=by
      rcases Nat.lt_or_ge a M.length with h | h
      ·exact h
      ·rw [List.getElem?_eq_none h] at hm;cases hm
     refine outerP_false f M' (a + 1) hg' (by omega) (fun j q hj hq b hb=>?_) (by rw [hE1];simp [hn]) h
     have hq':M[j]? = some q:=by rw [hE1,List.getElem?_append_left (by omega)] at hq;exact hq
     rcases Nat.lt_or_ge j a with hja | hja
     ·obtain ⟨h1,r,hr,e⟩:=hc j q hja hq' b hb
      exact ⟨h1,r,by rw [hE1];simp [hr],e⟩
     ·rw [show j = a from by omega,hm] at hq';simp at hq';subst hq'
      obtain ⟨i',x',g,f1,f2,f3,f4,rfl⟩:=hb
      rw [e1] at f1
      have:i' = i:=by omega
      subst this
      rw [e2] at f2;simp at f2;subst f2
      have:=hcl g f3 f4
      exact ⟨this.1,inB_iff.1 this.2⟩
theorem closed_no {Y:List IV} {name:ByteArray} {M:List ByteArray} (hc:Closed Y name M M.length):∀ (a c:List UInt8),WayN Y a c → (∃ m ∈ M,m.toList = a) → c ≠ name.toList:=by
 intro a c h
 induction h using WayN.ind with
 | one e =>
  rintro ⟨m,hm,rfl⟩
  obtain ⟨j,hj,rfl⟩:=List.getElem_of_mem hm
  exact (hc j _ hj (List.getElem?_eq_getElem hj) _ e).1
 | more e _ ih =>
  rintro ⟨m,hm,rfl⟩
  obtain ⟨j,hj,rfl⟩:=List.getElem_of_mem hm
  exact ih (hc j _ hj (List.getElem?_eq_getElem hj) _ e).2
theorem holdsB_iff (Y:List IV) (name:ByteArray):holdsB Y name = true ↔ WayN Y name.toList name.toList:=by
 have hg:Good (univ Y name) [name]:=⟨by simp,fun m hm=>by simp at hm;subst hm;simp [univ]⟩
 constructor
 ·intro h
  exact outerP_true _ [name] 0 hg (fun m hm=>by simp at hm;subst hm;exact Or.inl rfl) h
 ·intro hw
  cases hh:holdsB Y name with
  | true=>rfl
  | false =>
   obtain ⟨M',h1,h2⟩:=outerP_false _ [name] 0 hg (by omega) (fun j m hj=>by omega) (by simp) hh
   exact absurd rfl (closed_no h2 _ _ hw ⟨name,h1,rfl⟩)
def Twin (X:List PIV) (Y:List IV):Prop:=Y.map (fun y=>y.it) = X.map (fun x=>toR x.it)
theorem Twin.atR {X:List PIV} {Y:List IV} (h:Twin X Y) {i:Nat} {y:IV} (hy:Y[i]? = some y):∃ x,X[i]? = some x ∧ y.it = toR x.it:=by
 have:=congrArg (fun l=>l[i]?) h
 simp only [List.getElem?_map,hy,Option.map_some] at this
 cases hx:X[i]? with
 | none=>rw [hx] at this;cases this
 | some x=>rw [hx] at this;exact ⟨x,rfl,by simpa using this⟩
theorem Twin.atP {X:List PIV} {Y:List IV} (h:Twin X Y) {i:Nat} {x:PIV} (hx:X[i]? = some x):∃ y,Y[i]? = some y ∧ y.it = toR x.it:=by
 have:=congrArg (fun l=>l[i]?) h
 simp only [List.getElem?_map,hx,Option.map_some] at this
 cases hy:Y[i]? with
 | none=>rw [hy] at this;cases this
 | some y=>rw [hy] at this;exact ⟨y,rfl,by simpa using this⟩
theorem kindTxt_type (k:Nat):typeWord (kindTxt k).toList = pTypeB k:=by
 unfold kindTxt pTypeB
 by_cases h0:k = 0
 ·subst h0;rw [if_pos rfl,ByteArray.toList_eq];decide
 ·rw [if_neg h0]
  by_cases h1:k = 1
  ·subst h1;rw [if_pos rfl,ByteArray.toList_eq];decide
  ·rw [if_neg h1]
   have:((k == 0) || (k == 1)) = false:=by simp [h0,h1]
   rw [this]
   by_cases h2:k = 2
   ·rw [if_pos h2,ByteArray.toList_eq];decide
   ·rw [if_neg h2,ByteArray.toList_eq];decide
theorem kindTxt_msg (k:Nat):((kindTxt k).toList == [109,101,115,115,97,103,101]) = (k == 0):=by
 unfold kindTxt
 by_cases h0:k = 0
 ·subst h0;rw [if_pos rfl,ByteArray.toList_eq];decide
 ·rw [if_neg h0]
  have:(k == 0) = false:=by simp [h0]
  rw [this]
  by_cases h1:k = 1
  ·rw [if_pos h1,ByteArray.toList_eq];decide
  ·rw [if_neg h1]
   by_cases h2:k = 2
   ·rw [if_pos h2,ByteArray.toList_eq];decide
   ·rw [if_neg h2,ByteArray.toList_eq];decide
theorem matchB_toR (n:List UInt8) (p:PItem):matchB n (toR p) = pMatchB n p:=by
 unfold matchB pMatchB toR;simp only;rw [kindTxt_type]
theorem Twin.find {X:List PIV} {Y:List IV} (h:Twin X Y) (n:List UInt8):findI Y n = pFindI X n:=by
 unfold findI pFindI
 have e1:Y.findIdx? (fun y=>matchB n y.it) = (Y.map (fun y=>y.it)).findIdx? (matchB n):=by rw [List.findIdx?_map];rfl
 have e2:X.findIdx? (fun x=>pMatchB n x.it) = (X.map (fun x=>toR x.it)).findIdx? (matchB n):=by
  rw [List.findIdx?_map]
  congr 1
  funext x
  simp only [Function.comp]
  exact (matchB_toR n x.it).symm
 rw [e1,e2,h]
 cases List.findIdx? (matchB n) (List.map (fun x=>toR x.it) X) <;> rfl
theorem shapeTxt_empty (n:Nat) (h:n ≤ 2):(shapeTxt n).toList.isEmpty = true ↔ n = 0:=by
 have:n = 0 ∨ n = 1 ∨ n = 2:=by omega
 unfold shapeTxt emptyB
 rcases this with rfl | rfl | rfl <;> simp [ByteArray.toList_eq,wOpt,wList]
theorem pFindI_at {X:List PIV} {n:List UInt8} {i:Nat} (h:pFindI X n = (i:Int)):∃ x,X[i]? = some x ∧ x.it.name.text.toList = n:=by
 unfold pFindI at h
 cases hf:X.findIdx? (fun x=>pMatchB n x.it) with
 | none=>rw [hf] at h;simp at h
 | some j =>
  rw [hf] at h
  simp only at h
  have e:j = i:=by omega
  subst e
  rw [List.findIdx?_eq_some_iff_getElem] at hf
  obtain ⟨h1,h2,_⟩:=hf
  refine ⟨X[j],List.getElem?_eq_getElem h1,?_⟩
  simp only [pMatchB,Bool.and_eq_true] at h2
  exact eq_of_beq h2.2
theorem Way.toN {X:List PIV} {Y:List IV} (h:Twin X Y) (hs:∀ x ∈ X,∀ f ∈ x.it.fields,f.shape ≤ 2):∀ (i k:Nat),Way X i k → ∀ n m,pFindI X n = (i:Int) → pFindI X m = (k:Int) → WayN Y n m:=by
 have hstep:∀ (i j:Nat),Edge X i j → ∀ n,pFindI X n = (i:Int) → ∃ b,StepN Y n b ∧ pFindI X b = (j:Int):=by
  rintro i j ⟨x,f,hx,hf,h0,he⟩ n hn
  obtain ⟨y,hy,ey⟩:=h.atP hx
  refine ⟨f.base.toList,⟨i,y,toRF f,by rw [h.find];exact hn,hy,by rw [ey];exact List.mem_map.2 ⟨f,hf,rfl⟩,(shapeTxt_empty _ (hs x (List.mem_of_getElem? hx) f hf)).2 h0,rfl⟩,he⟩
 have same:∀ b m (k:Nat),pFindI X b = (k:Int) → pFindI X m = (k:Int) → b = m:=by
  intro b m k hb hm
  obtain ⟨x,hx,e⟩:=pFindI_at hb
  obtain ⟨x',hx',e'⟩:=pFindI_at hm
  rw [hx] at hx';cases hx';rw [← e,← e']
 intro i k hw
 induction hw using Way.ind with
 | one e =>
  intro n m hn hm
  obtain ⟨b,hb,hk⟩:=hstep _ _ e n hn
  rw [same b m _ hk hm] at hb;exact .one hb
 | more e _ ih =>
  intro n m hn hm
  obtain ⟨b,hb,hk⟩:=hstep _ _ e n hn
  exact .more hb (ih b m hk hm)
theorem WayN.toI {X:List PIV} {Y:List IV} (h:Twin X Y) (hs:∀ x ∈ X,∀ f ∈ x.it.fields,f.shape ≤ 2):∀ (n m:List UInt8),WayN Y n m → ∀ i k:Nat,pFindI X n = (i:Int) → pFindI X m = (k:Int) → Way X i k:=by
 have hstep:∀ n b,StepN Y n b → ∀ i:Nat,pFindI X n = (i:Int) → ∀ j:Nat,pFindI X b = (j:Int) → Edge X i j:=by
  rintro n b ⟨i',y,g,hf,hy,hg,hk,rfl⟩ i hi j hj
  rw [h.find,hi] at hf
  have:i = i':=by omega
  subst this
  obtain ⟨x,hx,ex⟩:=h.atR hy
  rw [ex] at hg
  obtain ⟨f,hf',rfl⟩:=List.mem_map.1 hg
  exact ⟨x,f,hx,hf',(shapeTxt_empty _ (hs x (List.mem_of_getElem? hx) f hf')).1 hk,hj⟩
 have found:∀ b c,WayN Y b c → ∃ j:Nat,pFindI X b = (j:Int):=by
  intro b c hw
  induction hw using WayN.ind with
  | one e=>obtain ⟨i,_,_,hf,_⟩:=e;exact ⟨i,by rw [← h.find];exact hf⟩
  | more e _=>obtain ⟨i,_,_,hf,_⟩:=e;exact ⟨i,by rw [← h.find];exact hf⟩
 intro n m hw
 induction hw using WayN.ind with
 | one e=>intro i k hi hk;exact .one (hstep _ _ e i hi k hk)
 | more e hr ih =>
  intro i k hi hk
  obtain ⟨j,hj⟩:=found _ _ hr
  exact .more (hstep _ _ e i hi j hj) (ih j k hj hk)
end Go.Proofs.YtdgcamlmjmnpeaaGreatDoor
namespace Go.Proofs.YtdgcamlmjmnpeaaGreatDoor
theorem snoc_ind {α:Type} {P:List α → Prop} (h0:P []) (h1:∀ l a,P l → P (l ++ [a])) (l:List α):P l:=by
 have:∀ r:List α,P r.reverse:=by
  intro r
  induction r with
  | nil=>exact h0
  | cons a r ih=>rw [List.reverse_cons];exact h1 _ a ih
 have:=this l.reverse
 rwa [List.reverse_reverse] at this
theorem mem_popt {b:Bool} {a c:Nat}:a ∈ popt b c ↔ b = true ∧ a = c:=by unfold popt;cases b <;> simp
theorem mem_opt1 {b:Bool} {a c:Nat}:a ∈ opt1 b c ↔ b = true ∧ a = c:=by unfold opt1;cases b <;> simp
def basesQ (p:PItem):List PTok:=if p.kind = 2 then [⟨2,cellText p.base,cellAt p.base⟩] else if p.kind = 3 then [⟨2,cellText p.base,cellAt p.base⟩,⟨2,cellText p.answer,cellAt p.answer⟩] else p.fields.map fbase
def DupAt (ts:List PTok) (a:Nat):Prop:=∃ (k j:Nat) (t u:PTok),j < k ∧ ts[k]? = some t ∧ ts[j]? = some u ∧ u.text.toList = t.text.toList ∧ a = t.at_
theorem any_before {ts:List PTok} {k:Nat} {l:List UInt8}:(ts.take k).any (fun g=>g.text.toList == l) = true ↔ ∃ (j:Nat) (u:PTok),j < k ∧ ts[j]? = some u ∧ u.text.toList = l:=by
 rw [List.any_eq_true]
 constructor
 ·rintro ⟨u,hu,he⟩
  obtain ⟨j,hj,rfl⟩:=List.getElem_of_mem hu
  rw [List.length_take] at hj
  refine ⟨j,ts[j],by omega,List.getElem?_eq_getElem (by omega),?_⟩
  rw [List.getElem_take] at he
  exact eq_of_beq he
 ·rintro ⟨j,u,hj,hu,he⟩
  refine ⟨u,?_,by simp [he]⟩
  exact List.mem_of_getElem? (by rw [List.getElem?_take,if_pos hj];exact hu)
theorem mem_repTo {ts:List PTok} {a:Nat}:a ∈ repTo ts ts.length ↔ DupAt ts a:=by
 unfold repTo repAt
 rw [List.mem_flatMap]
 constructor
 ·rintro ⟨k,_,ha⟩
  cases hk:ts[k]? with
  | none=>rw [hk] at ha;simp at ha
  | some t =>
   rw [hk] at ha
   obtain ⟨h1,h2⟩:=mem_popt.1 ha
   obtain ⟨j,u,hj,hu,he⟩:=any_before.1 h1
   exact ⟨k,j,t,u,hj,hk,hu,he,h2⟩
 ·rintro ⟨k,j,t,u,hj,hk,hu,he,rfl⟩
  refine ⟨k,List.mem_range.2 (at_lt hk),?_⟩
  rw [hk]
  exact mem_popt.2 ⟨any_before.2 ⟨j,u,hj,hu,he⟩,rfl⟩
theorem mem_repP1 {ts:List PTok} {a:Nat}:a ∈ repP [ts] ↔ DupAt ts a:=by
 unfold repP;rw [List.flatMap_cons,List.flatMap_nil,List.append_nil];exact mem_repTo
theorem mem_repP2 {ts us:List PTok} {a:Nat}:a ∈ repP [ts,us] ↔ DupAt ts a ∨ DupAt us a:=by
 unfold repP;rw [List.flatMap_cons,List.flatMap_cons,List.flatMap_nil,List.append_nil,List.mem_append,mem_repTo,mem_repTo]
theorem DupAt.snoc {ts:List PTok} {t:PTok} {a:Nat}:DupAt (ts ++ [t]) a ↔ DupAt ts a ∨ ((∃ u ∈ ts,u.text.toList = t.text.toList) ∧ a = t.at_):=by
 constructor
 ·rintro ⟨k,j,t',u,hj,hk,hu,he,h⟩
  have hkl:=at_lt hk
  rw [List.length_append,List.length_singleton] at hkl
  have hu':ts[j]? = some u:=by rw [List.getElem?_append_left (by omega)] at hu;exact hu
  rcases Nat.lt_or_ge k ts.length with h' | h'
  ·rw [List.getElem?_append_left h'] at hk
   exact Or.inl ⟨k,j,t',u,hj,hk,hu',he,h⟩
  ·rw [List.getElem?_append_right h',show k - ts.length = 0 from by omega] at hk
   simp at hk;subst hk
   exact Or.inr ⟨⟨u,List.mem_of_getElem? hu',he⟩,h⟩
 ·rintro (⟨k,j,t',u,hj,hk,hu,he,h⟩ | ⟨⟨u,hu,he⟩,h⟩)
  ·exact ⟨k,j,t',u,hj,by rw [List.getElem?_append_left (at_lt hk)];exact hk,by rw [List.getElem?_append_left (at_lt hu)];exact hu,he,h⟩
  ·obtain ⟨j,hj,rfl⟩:=List.getElem_of_mem hu
   exact ⟨ts.length,j,t,ts[j],hj,by simp,by rw [List.getElem?_append_left hj];exact List.getElem?_eq_getElem hj,he,h⟩
theorem dup_filter (p:PIV → Bool) (a:Nat):∀ X:List PIV,DupAt ((X.filter p).map (fun x=>x.it.name)) a ↔ ∃ (k j:Nat) (x y:PIV),j < k ∧ X[k]? = some x ∧ X[j]? = some y ∧ p x = true ∧ p y = true ∧ y.it.name.text.toList = x.it.name.text.toList ∧ a = x.it.name.at_:=by
 intro X
 refine snoc_ind (P:=fun X=>DupAt ((X.filter p).map (fun x=>x.it.name)) a ↔ ∃ (k j:Nat) (x y:PIV),j < k ∧ X[k]? = some x ∧ X[j]? = some y ∧ p x = true ∧ p y = true ∧ y.it.name.text.toList = x.it.name.text.toList ∧ a = x.it.name.at_) ?_ ?_ X
 ·constructor
  ·rintro ⟨k,j,t,u,hj,hk,_⟩;simp at hk
  ·rintro ⟨k,j,t,u,hj,hk,_⟩;simp at hk
 ·intro l z ih
  have right:(∃ (k j:Nat) (x y:PIV),j < k ∧ (l ++ [z])[k]? = some x ∧ (l ++ [z])[j]? = some y ∧ p x = true ∧ p y = true ∧ y.it.name.text.toList = x.it.name.text.toList ∧ a = x.it.name.at_) ↔ (∃ (k j:Nat) (x y:PIV),j < k ∧ l[k]? = some x ∧ l[j]? = some y ∧ p x = true ∧ p y = true ∧ y.it.name.text.toList = x.it.name.text.toList ∧ a = x.it.name.at_) ∨ (p z = true ∧ (∃ y ∈ l,p y = true ∧ y.it.name.text.toList = z.it.name.text.toList) ∧ a = z.it.name.at_):=by
   constructor
   ·rintro ⟨k,j,x,y,hj,hk,hy,h1,h2,h3,h4⟩
    have hkl:=at_lt hk
    rw [List.length_append,List.length_singleton] at hkl
    have hy':l[j]? = some y:=by rw [List.getElem?_append_left (by omega)] at hy;exact hy
    rcases Nat.lt_or_ge k l.length with h' | h'
    ·rw [List.getElem?_append_left h'] at hk
     exact Or.inl ⟨k,j,x,y,hj,hk,hy',h1,h2,h3,h4⟩
    ·rw [List.getElem?_append_right h',show k - l.length = 0 from by omega] at hk
     simp at hk;subst hk
     exact Or.inr ⟨h1,⟨y,List.mem_of_getElem? hy',h2,h3⟩,h4⟩
   ·rintro (⟨k,j,x,y,hj,hk,hy,h⟩ | ⟨h1,⟨y,hy,h2,h3⟩,h4⟩)
    ·exact ⟨k,j,x,y,hj,by rw [List.getElem?_append_left (at_lt hk)];exact hk,by rw [List.getElem?_append_left (at_lt hy)];exact hy,h⟩
    ·obtain ⟨j,hj,rfl⟩:=List.getElem_of_mem hy
     exact ⟨l.length,j,z,l[j],hj,by simp,by rw [List.getElem?_append_left hj];exact List.getElem?_eq_getElem hj,h1,h2,h3,h4⟩
  rw [right,← ih,List.filter_append]
  cases hz:p z with
  | false=>simp [hz]
  | true =>
   rw [show List.filter p [z] = [z] by simp [hz],List.map_append,List.map_cons,List.map_nil,DupAt.snoc]
   simp only [true_and]
   refine or_congr_right (and_congr_left' ?_)
   constructor
   ·rintro ⟨u,hu,he⟩
    obtain ⟨y,hy,rfl⟩:=List.mem_map.1 hu
    obtain ⟨h1,h2⟩:=List.mem_filter.1 hy
    exact ⟨y,h1,h2,he⟩
   ·rintro ⟨y,hy,h1,h2⟩
    exact ⟨_,List.mem_map.2 ⟨y,List.mem_filter.2 ⟨hy,h1⟩,rfl⟩,h2⟩
theorem mem_sunkP {fs:List PField} {a:Nat}:∀ n,a ∈ sunkP fs n ↔ ∃ (k:Nat) (f g:PField),1 ≤ k ∧ k ≤ n ∧ fs[k]? = some f ∧ fs[k - 1]? = some g ∧ f.number ≤ g.number ∧ a = f.numberAt
 | 0=>by
  constructor
  ·intro h;simp [sunkP] at h
  ·rintro ⟨k,f,g,h1,h2,_⟩;omega
 | n + 1=>by
  show a ∈ sunkP fs n ++ sunkAt fs (n + 1) ↔ _
  rw [List.mem_append,mem_sunkP n]
  constructor
  ·rintro (⟨k,f,g,h1,h2,h⟩ | h)
   ·exact ⟨k,f,g,h1,by omega,h⟩
   ·unfold sunkAt at h
    cases hf:fs[n + 1]? with
    | none=>rw [hf] at h;simp at h
    | some f =>
     rw [hf] at h
     obtain ⟨h1,h2⟩:=mem_popt.1 h
     unfold sunkB at h1
     rw [hf] at h1
     cases hg:fs[n + 1 - 1]? with
     | none=>rw [hg] at h1;simp at h1
     | some g=>rw [hg] at h1;exact ⟨n + 1,f,g,by omega,by omega,hf,hg,by simpa using h1,h2⟩
  ·rintro ⟨k,f,g,h1,h2,hf,hg,h3,h4⟩
   rcases Nat.lt_or_ge k (n + 1) with h | h
   ·exact Or.inl ⟨k,f,g,h1,by omega,hf,hg,h3,h4⟩
   ·have e:k = n + 1:=by omega
    subst e
    right
    unfold sunkAt sunkB
    rw [hf,hg]
    exact mem_popt.2 ⟨by simpa using h3,h4⟩
theorem mem_unkP {X:List PIV} {ts:List PTok} {a:Nat}:a ∈ unkP X ts ↔ ∃ t ∈ ts,hasB X t.text = false ∧ a = t.at_:=by
 unfold unkP
 rw [List.mem_flatMap]
 constructor
 ·rintro ⟨t,ht,h⟩
  obtain ⟨h1,h2⟩:=mem_popt.1 h
  exact ⟨t,ht,by simpa [unkB] using h1,h2⟩
 ·rintro ⟨t,ht,h1,h2⟩
  exact ⟨t,ht,mem_popt.2 ⟨by simp [unkB,h1],h2⟩⟩
def PFI (X:List PIV) (i:Nat) (x:PIV) (a:Nat):Prop:=a ∈ repP [x.it.fields.map fname] ∨ a ∈ repP [x.it.names] ∨ a ∈ sunkP x.it.fields (x.it.fields.length - 1) ∨ a ∈ unkP X (basesQ x.it) ∨ (x.it.kind = 0 ∧ Way X i i ∧ a = x.it.name.at_)
def PF (X:List PIV) (a:Nat):Prop:=a ∈ repP [tyNames X,otNames X] ∨ ∃ i x,X[i]? = some x ∧ PFI X i x a
theorem typeB_has {X:List PIV} {Y:List IV} (h:Twin X Y) (b:ByteArray):typeB Y b.toList = hasB X b:=by unfold typeB hasB;rw [h.find]
theorem dupB_iff {X:List PIV} {Y:List IV} (h:Twin X Y) {i:Nat} {x:PIV}:dupB Y i (toR x.it) = true ↔ ∃ (j:Nat) (y:PIV),j < i ∧ X[j]? = some y ∧ pTypeB y.it.kind = pTypeB x.it.kind ∧ y.it.name.text.toList = x.it.name.text.toList:=by
 unfold dupB
 rw [List.any_eq_true]
 constructor
 ·rintro ⟨u,hu,he⟩
  obtain ⟨j,hj,rfl⟩:=List.getElem_of_mem hu
  rw [List.length_take] at hj
  rw [List.getElem_take] at he
  obtain ⟨y,hy,ey⟩:=h.atR (List.getElem?_eq_getElem (show j < Y.length by omega))
  rw [ey] at he
  simp only [Bool.and_eq_true,beq_iff_eq,toR] at he
  rw [kindTxt_type,kindTxt_type] at he
  exact ⟨j,y,by omega,hy,he.2.symm,he.1⟩
 ·rintro ⟨j,y,hj,hy,h1,h2⟩
  obtain ⟨u,hu,eu⟩:=h.atP hy
  refine ⟨u,List.mem_of_getElem? (by rw [List.getElem?_take,if_pos hj];exact hu),?_⟩
  rw [eu]
  simp only [Bool.and_eq_true,beq_iff_eq,toR]
  rw [kindTxt_type,kindTxt_type]
  exact ⟨h2,h1.symm⟩
theorem mem_faultPl {X:List PIV} {Y:List IV} (h:Twin X Y) {i:Nat} {p:PItem} {a:Nat}:a ∈ faultPl Y i (toR p) ↔
  ((dupB Y i (toR p) = true ∧ a = p.name.at_) ∨ (p.kind = 0 ∧ holdsB Y p.name.text = true ∧ a = p.name.at_)) ∨
  (∃ k f,p.fields[k]? = some f ∧ ((numF (p.fields.map toRF) k = true ∧ a = f.numberAt) ∨ (nameF (p.fields.map toRF) k k = true ∧ a = f.nameAt) ∨ (hasB X f.base = false ∧ a = f.baseAt))) ∨
  (∃ k t,p.names[k]? = some t ∧ nameN (p.names.map PTok.text) k k = true ∧ a = t.at_) ∨
  (∃ t,(p.kind = 2 ∨ p.kind = 3) ∧ t ∈ basesQ p ∧ hasB X t.text = false ∧ a = t.at_):=by
 have e0:faultPl Y i (toR p) = headPl Y i (toR p) ++ (List.range p.fields.length).flatMap (fieldPl Y (p.fields.map toRF)) ++ (List.range p.names.length).flatMap (namePl (p.names.map PTok.text) (p.names.map PTok.at_)) ++ (List.range (toR p).bases.length).flatMap (basePl Y (toR p).bases (toR p).basesAt):=by
  unfold faultPl;simp [toR]
 rw [e0,List.mem_append,List.mem_append,List.mem_append,or_assoc,or_assoc]
 refine or_congr ?_ (or_congr ?_ (or_congr ?_ ?_))
 ·unfold headPl
  rw [List.mem_append,mem_opt1,mem_opt1]
  refine or_congr Iff.rfl ?_
  rw [show (toR p).kind = kindTxt p.kind from rfl,kindTxt_msg,show (toR p).name = p.name.text from rfl,show (toR p).nameAt = p.name.at_ from rfl]
  simp [and_assoc]
 ·rw [List.mem_flatMap]
  constructor
  ·rintro ⟨k,hk,ha⟩
   unfold fieldPl at ha
   rw [List.getElem?_map] at ha
   cases hf:p.fields[k]? with
   | none=>rw [hf] at ha;simp at ha
   | some f =>
    rw [hf] at ha
    simp only [Option.map_some,List.mem_append,mem_opt1,or_assoc] at ha
    refine ⟨k,f,hf,?_⟩
    rcases ha with h1 | h1 | h1
    ·exact Or.inl h1
    ·exact Or.inr (Or.inl h1)
    ·refine Or.inr (Or.inr ⟨?_,h1.2⟩)
     rw [← typeB_has h];simpa [toRF] using h1.1
  ·rintro ⟨k,f,hf,h1⟩
   refine ⟨k,List.mem_range.2 (at_lt hf),?_⟩
   unfold fieldPl
   rw [List.getElem?_map,hf]
   simp only [Option.map_some,List.mem_append,mem_opt1,or_assoc]
   rcases h1 with h1 | h1 | h1
   ·exact Or.inl h1
   ·exact Or.inr (Or.inl h1)
   ·refine Or.inr (Or.inr ⟨?_,h1.2⟩)
    have:=h1.1
    rw [← typeB_has h] at this;simpa [toRF] using this
 ·rw [List.mem_flatMap]
  constructor
  ·rintro ⟨k,hk,ha⟩
   unfold namePl at ha
   rw [List.getElem?_map] at ha
   cases hf:p.names[k]? with
   | none=>rw [hf] at ha;simp at ha
   | some f =>
    rw [hf] at ha
    simp only [Option.map_some,mem_opt1] at ha
    exact ⟨k,f,hf,ha⟩
  ·rintro ⟨k,f,hf,h1⟩
   refine ⟨k,List.mem_range.2 (at_lt hf),?_⟩
   unfold namePl
   rw [List.getElem?_map,hf]
   simp only [Option.map_some,mem_opt1]
   exact h1
 ·rw [List.mem_flatMap]
  by_cases h2:p.kind = 2
  ·have e1:(toR p).bases = [cellText p.base]:=by simp [toR,h2]
   have e2:(toR p).basesAt = [cellAt p.base]:=by simp [toR,h2]
   have e3:basesQ p = [⟨2,cellText p.base,cellAt p.base⟩]:=by simp [basesQ,h2]
   rw [e1,e2,e3]
   simp [basePl,mem_opt1,h2,typeB_has h,List.range_succ]
  ·by_cases h3:p.kind = 3
   ·have e1:(toR p).bases = [cellText p.base,cellText p.answer]:=by simp [toR,h3]
    have e2:(toR p).basesAt = [cellAt p.base,cellAt p.answer]:=by simp [toR,h3]
    have e3:basesQ p = [⟨2,cellText p.base,cellAt p.base⟩,⟨2,cellText p.answer,cellAt p.answer⟩]:=by simp [basesQ,h3]
    rw [e1,e2,e3]
    simp [basePl,mem_opt1,h3,typeB_has h,List.range_succ]
   ·have e1:(toR p).bases = []:=by simp [toR,h2,h3]
    rw [e1]
    simp [h2,h3]
theorem numF_iff {fs:List PField} {k:Nat} {f:PField} (hf:fs[k]? = some f):numF (fs.map toRF) k = true ↔ ∃ g,1 ≤ k ∧ fs[k - 1]? = some g ∧ f.number ≤ g.number:=by
 unfold numF
 rw [List.getElem?_map,List.getElem?_map,hf]
 cases hg:fs[k - 1]? with
 | none=>simp
 | some g=>simp [toRF];omega
theorem nameF_iff {fs:List PField} {k:Nat} {f:PField} (hf:fs[k]? = some f):nameF (fs.map toRF) k k = true ↔ ∃ (j:Nat) (g:PField),j < k ∧ fs[j]? = some g ∧ g.name.toList = f.name.toList:=by
 unfold nameF
 rw [List.getElem?_map,hf]
 simp only [Option.map_some]
 rw [List.any_eq_true]
 constructor
 ·rintro ⟨u,hu,he⟩
  obtain ⟨j,hj,rfl⟩:=List.getElem_of_mem hu
  rw [List.length_take,List.length_map] at hj
  rw [List.getElem_take,List.getElem_map] at he
  exact ⟨j,fs[j],by omega,List.getElem?_eq_getElem (by omega),eq_of_beq he⟩
 ·rintro ⟨j,g,hj,hg,he⟩
  refine ⟨toRF g,List.mem_of_getElem? (by rw [List.getElem?_take,if_pos hj,List.getElem?_map,hg];rfl),?_⟩
  simp [toRF,he]
theorem nameN_iff {ts:List PTok} {k:Nat} {t:PTok} (hf:ts[k]? = some t):nameN (ts.map PTok.text) k k = true ↔ ∃ (j:Nat) (u:PTok),j < k ∧ ts[j]? = some u ∧ u.text.toList = t.text.toList:=by
 unfold nameN
 rw [List.getElem?_map,hf]
 simp only [Option.map_some]
 rw [List.any_eq_true]
 constructor
 ·rintro ⟨u,hu,he⟩
  obtain ⟨j,hj,rfl⟩:=List.getElem_of_mem hu
  rw [List.length_take,List.length_map] at hj
  rw [List.getElem_take,List.getElem_map] at he
  exact ⟨j,ts[j],by omega,List.getElem?_eq_getElem (by omega),eq_of_beq he⟩
 ·rintro ⟨j,g,hj,hg,he⟩
  refine ⟨g.text,List.mem_of_getElem? (by rw [List.getElem?_take,if_pos hj,List.getElem?_map,hg];rfl),?_⟩
  simp [he]
structure Facts (s:ByteArray) (X:List PIV):Prop where
 it:∀ x ∈ X,∃ lo,ItP s lo s.size x.it
 ahead:(X.map (fun x=>x.it)).Pairwise (Ahead s)
theorem Facts.shapes {s:ByteArray} {X:List PIV} (h:Facts s X):∀ x ∈ X,∀ f ∈ x.it.fields,f.shape ≤ 2:=fun x hx f hf=>by
 obtain ⟨lo,hi⟩:=h.it x hx;exact (hi.f f hf).sh
theorem fault_eq {s:ByteArray} {X:List PIV} {Y:List IV} (h:Twin X Y) (hF:Facts s X) (a:Nat):PF X a ↔ ∃ i y,Y[i]? = some y ∧ a ∈ faultPl Y i y.it:=by
 have hdup:a ∈ repP [tyNames X,otNames X] ↔ ∃ i x,X[i]? = some x ∧ dupB Y i (toR x.it) = true ∧ a = x.it.name.at_:=by
  rw [mem_repP2]
  unfold tyNames otNames
  rw [dup_filter,dup_filter]
  constructor
  ·rintro (⟨k,j,x,y,hj,hk,hy,h1,h2,h3,h4⟩ | ⟨k,j,x,y,hj,hk,hy,h1,h2,h3,h4⟩)
   ·exact ⟨k,x,hk,(dupB_iff h).2 ⟨j,y,hj,hy,by rw [h1,h2],h3⟩,h4⟩
   ·refine ⟨k,x,hk,(dupB_iff h).2 ⟨j,y,hj,hy,?_,h3⟩,h4⟩
    simp only [Bool.not_eq_true'] at h1 h2;rw [h1,h2]
  ·rintro ⟨k,x,hk,hd,h4⟩
   obtain ⟨j,y,hj,hy,h1,h3⟩:=(dupB_iff h).1 hd
   cases ht:pTypeB x.it.kind with
   | true=>exact Or.inl ⟨k,j,x,y,hj,hk,hy,ht,by rw [h1,ht],h3,h4⟩
   | false=>exact Or.inr ⟨k,j,x,y,hj,hk,hy,by simp [ht],by simp [h1,ht],h3,h4⟩
 -- a message that is the first of its name
 have hway:∀ i x,X[i]? = some x → x.it.kind = 0 → dupB Y i (toR x.it) = false → (Way X i i ↔ holdsB Y x.it.name.text = true):=by
  intro i x hx hk hd
  have hfind:pFindI X x.it.name.text.toList = (i:Int):=by
   refine pFindI_hit hx (by simp [pMatchB,pTypeB,hk]) (fun j y hj hy=>?_)
   cases hm:pMatchB x.it.name.text.toList y.it with
   | false=>rfl
   | true =>
    simp only [pMatchB,Bool.and_eq_true] at hm
    have:dupB Y i (toR x.it) = true:=(dupB_iff h).2 ⟨j,y,hj,hy,by rw [hm.1,hk];rfl,eq_of_beq hm.2⟩
    rw [hd] at this;cases this
  rw [holdsB_iff]
  exact ⟨fun hw=>hw.toN h hF.shapes _ _ _ _ hfind hfind,fun hw=>hw.toI h hF.shapes _ _ _ _ hfind hfind⟩
 constructor
 ·rintro (hr | ⟨i,x,hx,hp⟩)
  ·obtain ⟨i,x,hx,hd,e⟩:=hdup.1 hr
   obtain ⟨y,hy,ey⟩:=h.atP hx
   exact ⟨i,y,hy,by rw [ey];exact (mem_faultPl h).2 (Or.inl (Or.inl ⟨hd,e⟩))⟩
  ·obtain ⟨y,hy,ey⟩:=h.atP hx
   refine ⟨i,y,hy,?_⟩
   rw [ey,mem_faultPl h]
   rcases hp with hp | hp | hp | hp | ⟨hk,hw,e⟩
   ·obtain ⟨k,j,t,u,hj,hk,hu,he,ha⟩:=mem_repP1.1 hp
    rw [List.getElem?_map] at hk hu
    cases hf:x.it.fields[k]? with
    | none=>rw [hf] at hk;simp at hk
    | some f =>
     cases hg:x.it.fields[j]? with
     | none=>rw [hg] at hu;simp at hu
     | some g =>
      rw [hf] at hk;rw [hg] at hu
      simp only [Option.map_some,Option.some.injEq] at hk hu
      subst hk;subst hu
      exact Or.inr (Or.inl ⟨k,f,hf,Or.inr (Or.inl ⟨(nameF_iff hf).2 ⟨j,g,hj,hg,he⟩,ha⟩)⟩)
   ·obtain ⟨k,j,t,u,hj,hk,hu,he,ha⟩:=mem_repP1.1 hp
    exact Or.inr (Or.inr (Or.inl ⟨k,t,hk,(nameN_iff hk).2 ⟨j,u,hj,hu,he⟩,ha⟩))
   ·obtain ⟨k,f,g,h1,h2,hf,hg,h3,h4⟩:=(mem_sunkP _).1 hp
    exact Or.inr (Or.inl ⟨k,f,hf,Or.inl ⟨(numF_iff hf).2 ⟨g,h1,hg,h3⟩,h4⟩⟩)
   ·obtain ⟨t,ht,h1,h2⟩:=mem_unkP.1 hp
    by_cases hk2:x.it.kind = 2
    ·exact Or.inr (Or.inr (Or.inr ⟨t,Or.inl hk2,ht,h1,h2⟩))
    ·by_cases hk3:x.it.kind = 3
     ·exact Or.inr (Or.inr (Or.inr ⟨t,Or.inr hk3,ht,h1,h2⟩))
     ·unfold basesQ at ht
      rw [if_neg hk2,if_neg hk3] at ht
      obtain ⟨f,hf,rfl⟩:=List.mem_map.1 ht
      obtain ⟨k,hk,rfl⟩:=List.getElem_of_mem hf
      exact Or.inr (Or.inl ⟨k,_,List.getElem?_eq_getElem hk,Or.inr (Or.inr ⟨h1,h2⟩)⟩)
   ·cases hd:dupB Y i (toR x.it) with
    | true=>exact Or.inl (Or.inl ⟨rfl,e⟩)
    | false=>exact Or.inl (Or.inr ⟨hk,(hway i x hx hk hd).1 hw,e⟩)
 ·rintro ⟨i,y,hy,ha⟩
  obtain ⟨x,hx,ex⟩:=h.atR hy
  rw [ex,mem_faultPl h] at ha
  rcases ha with (⟨hd,e⟩ | ⟨hk,hh,e⟩) | ⟨k,f,hf,hc⟩ | ⟨k,t,ht,hn,e⟩ | ⟨t,hk,ht,hb,e⟩
  ·exact Or.inl (hdup.2 ⟨i,x,hx,hd,e⟩)
  ·cases hd:dupB Y i (toR x.it) with
   | true=>exact Or.inl (hdup.2 ⟨i,x,hx,hd,e⟩)
   | false=>exact Or.inr ⟨i,x,hx,Or.inr (Or.inr (Or.inr (Or.inr ⟨hk,(hway i x hx hk hd).2 hh,e⟩)))⟩
  ·rcases hc with ⟨hn,e⟩ | ⟨hn,e⟩ | ⟨hb,e⟩
   ·obtain ⟨g,h1,hg,h3⟩:=(numF_iff hf).1 hn
    exact Or.inr ⟨i,x,hx,Or.inr (Or.inr (Or.inl ((mem_sunkP _).2 ⟨k,f,g,h1,by have:=at_lt hf;omega,hf,hg,h3,e⟩)))⟩
   ·obtain ⟨j,g,hj,hg,he⟩:=(nameF_iff hf).1 hn
    exact Or.inr ⟨i,x,hx,Or.inl (mem_repP1.2 ⟨k,j,fname f,fname g,hj,by rw [List.getElem?_map,hf];rfl,by rw [List.getElem?_map,hg];rfl,he,e⟩)⟩
   ·refine Or.inr ⟨i,x,hx,Or.inr (Or.inr (Or.inr (Or.inl (mem_unkP.2 ⟨fbase f,?_,hb,e⟩))))⟩
    obtain ⟨lo,hi⟩:=hF.it x (List.mem_of_getElem? hx)
    have hlt:¬ 2 ≤ x.it.kind:=fun h2=>by rw [hi.fn h2] at hf;simp at hf
    unfold basesQ
    rw [if_neg (by omega),if_neg (by omega)]
    exact List.mem_map.2 ⟨f,List.mem_of_getElem? hf,rfl⟩
  ·obtain ⟨j,u,hj,hu,he⟩:=(nameN_iff ht).1 hn
   exact Or.inr ⟨i,x,hx,Or.inr (Or.inl (mem_repP1.2 ⟨k,j,t,u,hj,ht,hu,he,e⟩))⟩
  ·exact Or.inr ⟨i,x,hx,Or.inr (Or.inr (Or.inr (Or.inl (mem_unkP.2 ⟨t,ht,hb,e⟩))))⟩
theorem basesQ_in {s:ByteArray} {lo hi:Nat} {p:PItem} (h:ItP s lo hi p) (hk:p.kind = 2 ∨ p.kind = 3) {t:PTok} (ht:t ∈ basesQ p):lo ≤ t.at_ ∧ t.at_ < hi:=by
 obtain ⟨u,e,hu⟩:=h.b (by omega)
 have e1:cellAt p.base = u.at_:=by rw [e];exact cellAt_tok u
 unfold basesQ at ht
 by_cases h2:p.kind = 2
 ·rw [if_pos h2] at ht
  rw [List.mem_singleton.1 ht]
  show lo ≤ cellAt p.base ∧ cellAt p.base < hi
  rw [e1];exact hu.a
 ·have h3:p.kind = 3:=by omega
  rw [if_neg h2,if_pos h3] at ht
  obtain ⟨v,e',hv⟩:=h.a h3
  have e2:cellAt p.answer = v.at_:=by rw [e'];exact cellAt_tok v
  rcases List.mem_cons.1 ht with rfl | ht
  ·show lo ≤ cellAt p.base ∧ cellAt p.base < hi
   rw [e1];exact hu.a
  ·rw [List.mem_singleton.1 ht]
   show lo ≤ cellAt p.answer ∧ cellAt p.answer < hi
   rw [e2];exact hv.a
theorem faultPl_in {s:ByteArray} {X:List PIV} {Y:List IV} (h:Twin X Y) {i:Nat} {p:PItem} {lo hi a:Nat} (hp:ItP s lo hi p) (ha:a ∈ faultPl Y i (toR p)):lo ≤ a ∧ a < hi:=by
 rw [mem_faultPl h] at ha
 rcases ha with (⟨_,e⟩ | ⟨_,_,e⟩) | ⟨k,f,hf,hc⟩ | ⟨k,t,ht,_,e⟩ | ⟨t,hk,ht,_,e⟩
 ·rw [e];exact hp.nm.a
 ·rw [e];exact hp.nm.a
 ·have:=hp.f f (List.mem_of_getElem? hf)
  rcases hc with ⟨_,e⟩ | ⟨_,e⟩ | ⟨_,e⟩ <;> rw [e]
  ·exact this.n
  ·exact this.m
  ·exact this.b
 ·rw [e];exact (hp.n t (List.mem_of_getElem? ht)).a
 ·rw [e];exact basesQ_in hp hk ht
theorem least_spec (L:List Nat):(L = [] ∧ leastL L = -1) ∨ ∃ m ∈ L,leastL L = (m:Int) ∧ ∀ a ∈ L,m ≤ a:=by
 refine snoc_ind (P:=fun L=>(L = [] ∧ leastL L = -1) ∨ ∃ m ∈ L,leastL L = (m:Int) ∧ ∀ a ∈ L,m ≤ a) (Or.inl ⟨rfl,rfl⟩) (fun l b ih=>?_) L
 right
 rw [leastL_snoc]
 unfold leastI
 rcases ih with ⟨rfl,e⟩ | ⟨m,hm,e,hl⟩
 ·rw [e];exact ⟨b,by simp,by simp,by simp⟩
 ·rw [e]
  by_cases hb:b < m
  ·refine ⟨b,by simp,?_,fun a ha=>?_⟩
   ·rw [if_pos (by omega)]
   ·rcases List.mem_append.1 ha with ha | ha
    ·have:=hl a ha;omega
    ·rw [List.mem_singleton.1 ha];omega
  ·refine ⟨m,by simp [hm],?_,fun a ha=>?_⟩
   ·rw [if_neg (by omega)]
   ·rcases List.mem_append.1 ha with ha | ha
    ·exact hl a ha
    ·rw [List.mem_singleton.1 ha];omega
end Go.Proofs.YtdgcamlmjmnpeaaGreatDoor
