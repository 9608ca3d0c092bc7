/- The statements' own world as it begins: where it lies (no walk). -/
import Derived.Test.YtkpfplbmmglkkaaGreatDoorV45
import Derived.Test.YtkpfplbmmglkkaaGreatDoorV39
import Derived.Test.YtkpfplbmmglkkaaGreatDoorV44
set_option linter.all false
set_option maxHeartbeats 4000000
set_option maxRecDepth 100000
namespace Go.Proofs.YtkpfplbmmglkkaaGreatDoor
open Go.Proofs.Tryz
variable {lo lo' n W D R x gA i:Nat}{w:World}{A B C:List fm}{S T:List Nat}{XC XS X:List PIV}{g:WG}{p:WP}
open Go.RowKit Go.Conc
theorem acW(hA:cE lo w A)(hB:cE lo' w B)(h:∀ a∈A,∀ b∈B,∀ o,a.2 o→b.2 o→False):JD A B:=fun a ha b hb e=>by
 obtain⟨_,o,h1,h2,_⟩:=hA.all a ha;obtain⟨_,o',h3,h4,_⟩:=hB.all b hb;rw[e,h3] at h1;cases h1;exact h a ha b hb _ h2 h4
def anW:Obj→Nat
 | .cells _ T _=>T+2
 | .chan _ _ _ _ _ _=>0
 | _=>1
def kG(S:List Nat)(A:List fm):Prop:=∀ a∈A,∀ o,a.2 o→anW o∈S
theorem kG.bM(h:kG S A)(k:kG T B):kG (S++T) (A++B):=fun a ha o ho=>by
 rcases List.mem_append.1 ha with ha | ha
 ·exact List.mem_append_left _ (h a ha o ho)
 ·exact List.mem_append_right _ (k a ha o ho)
theorem kG.ap(b:Nat)(T:TypeId)(xs:List Value):kG [T+2] [eL b T xs]:=fun a ha o ho=>by
 rw[List.mem_singleton.1 ha] at ho;have ho:o=.cells xs.toArray T (0,0):=ho;subst ho;exact List.mem_singleton.2 rfl
theorem kG.row(e:TypeId)(size:Nat)(v:Value)(n:Nat)(xs:List Value):kG [e+2] (cx e size v n xs):=fun a ha o ho=>by
 unfold cx at ha
 split at ha
 ·rw[List.mem_singleton.1 ha] at ho
  obtain⟨_,_,_,_,cur,rfl,_⟩:=ho;exact List.mem_singleton.2 rfl
 ·cases ha
theorem kG.vi(q:Nat)(L:List aS):kG [0] [pN q L]:=fun a ha o ho=>by
 rw[List.mem_singleton.1 ha] at ho;obtain⟨s,r,rfl⟩:=ho;exact List.mem_singleton.2 rfl
theorem kG.UM(m:Nat)(L:List aS):kG [1] [j9 m L]:=fun a ha o ho=>by
 rw[List.mem_singleton.1 ha] at ho;obtain⟨s,r,rfl,_⟩:=ho;exact List.mem_singleton.2 rfl
theorem kG.anX(m:Nat)(l:List (Nat × Nat)):kG [1] [eI m l]:=fun a ha o ho=>by
 rw[List.mem_singleton.1 ha] at ho;obtain⟨s,r,rfl,_⟩:=ho;exact List.mem_singleton.2 rfl
theorem kG.ahY(m:Nat)(l:List (Nat × WyP)):kG [1] [kT m l]:=fun a ha o ho=>by
 rw[List.mem_singleton.1 ha] at ho;obtain⟨s,r,rfl,_⟩:=ho;exact List.mem_singleton.2 rfl
theorem ik(hA:cE lo w A)(hB:cE lo' w B)(h1:kG S A)(h2:kG T B)(h:∀ t∈S,t∉T):JD A B:=acW hA hB (fun a ha b hb o h3 h4=>h _ (h1 a ha o h3) (h2 b hb o h4))
theorem mY(h:JD A B)(k:JD A C):JD A (B++C):=fun a ha b hb=>by
 rcases List.mem_append.1 hb with hb | hb
 ·exact h a ha b hb
 ·exact k a ha b hb
theorem NW(A:List fm):JD A []:=fun a ha b hb=>by cases hb
theorem UN(h:∀ k,aL A k→k<n)(h':∀ k,aL B k→n≤k):JD A B:=fun a ha b hb e=>by
 have h1:=h a.1 ⟨a,ha,rfl⟩;have h2:=h' b.1 ⟨b,hb,rfl⟩;omega
def pT(t:pO):eZ:=⟨t.ap,t.dJ,[],t.name,t.base,0,false⟩
theorem Jy:∀ (Ts:List pO),(∀ t∈Ts,aZ w t.ap 108 (nP t))→(∀ t∈Ts,lo≤t.ap)→(Ts.map (fun t=>t.ap)).Nodup→(∀ t∈Ts,w.ownsRow lo 103 1 t.dJ 0 [])→Ts.Pairwise (fun x y=>∀ g,x.dJ.ownBlock=some g→y.dJ.ownBlock≠some g)→(∀ t∈Ts,t.count=0∧t.bD=false)→cE lo w ((Ts.map pT).flatMap eZ.aF)∧kG [108+2,103+2] ((Ts.map pT).flatMap eZ.aF)
 | [],_,_,_,_,_,_=>⟨cE.nil _ _,fun a ha=>by cases ha⟩
 | t::r,hB,hl,hn,hk,hp,hf=>by
  obtain⟨ih,ihT⟩:=Jy r (fun y hy=>hB y (List.mem_cons_of_mem _ hy)) (fun y hy=>hl y (List.mem_cons_of_mem _ hy)) (List.nodup_cons.1 hn).2 (fun y hy=>hk y (List.mem_cons_of_mem _ hy)) (List.pairwise_cons.1 hp).2 (fun y hy=>hf y (List.mem_cons_of_mem _ hy));have hBt:=hB t (List.mem_cons_self ..);have hkt:=hk t (List.mem_cons_self ..);obtain⟨KO,uA⟩:=fQ hkt (by decide);obtain⟨f1,f2⟩:=hf t (List.mem_cons_self ..)
  have aA:cE lo w [eL t.ap 108 (dl (pT t))]:=ct (hl t (List.mem_cons_self ..)) (by
   have e:dl (pT t)=nP t:=by unfold pT dl nP;rw[f1,f2]
   rw[e];exact hBt) (by decide)
  have anY:cE lo w (pT t).aF:=ay.2 ⟨aA,ay.2 ⟨KO,cE.nil _ _,NW _⟩,mY (ik aA KO (kG.ap _ _ _) (kG.row _ _ _ _ _) (by decide)) (NW _)⟩;have hTt:kG [108+2,103+2] (pT t).aF:=(kG.ap _ _ _).bM ((kG.row _ _ _ _ _).bM (T:=[]) (fun a ha=>by cases ha));refine⟨ay.2 ⟨anY,ih,fun a ha b hb e=>?_⟩,fun a ha o ho=>?_⟩
  ·obtain⟨m,hm,hb⟩:=List.mem_flatMap.1 hb
   obtain⟨y,hy,rfl⟩:=List.mem_map.1 hm;have PG:=hB y (List.mem_cons_of_mem _ hy);have hky:=hk y (List.mem_cons_of_mem _ hy);have hka:aL (pT t).aF a.1:=⟨a,ha,rfl⟩
   have Zi:aL (pT y).aF b.1:=⟨b,hb,rfl⟩
   obtain⟨_,Tt⟩:=fQ hky (by decide)
   have sp:∀ (z:pO),du 1 z.dJ 0 []→∀ k,aL (pT z).aF k→k=z.ap∨z.dJ.ownBlock=some k:=fun z hz k hk=>by
    rcases aL.bM.1 hk with h | h
    ·exact Or.inl (aL.one.1 h)
    ·rcases aL.bM.1 h with h | h
     ·exact Or.inr ((be (e:=103) hz).1 h)
     ·exact absurd h aL.nil
   have h1:=sp t uA _ hka;have h2:=sp y Tt _ Zi;rw[e] at h1
   rcases h1 with h1 | h1<;>rcases h2 with h2 | h2
   ·exact(List.nodup_cons.1 hn).1 (List.mem_map.2 ⟨y,hy,by rw[← h2,h1]⟩)
   ·rw[h1] at h2
    exact hBt.bY hky (by decide) h2
   ·rw[h2] at h1
    exact PG.bY hkt (by decide) h1
   ·exact(List.pairwise_cons.1 hp).1 y hy _ h1 h2
  ·rcases List.mem_append.1 ha with ha | ha
   ·exact hTt a ha o ho
   ·exact ihT a ha o ho
def ahZ:Bool:=decide ((yG.filter (fun x=>x.kind==2)).map (fun x=>(x.name.text,jA x.base))=(WP.XE 1 1).s.au.map (fun t=>(t.name,t.base)))
theorem ah0:ahZ=true:=by kernel_rfl
def UO(b q m:Nat)(iv:Value)(W D R:Nat)(tv:Value)(Ts:List pO)(ms mo:Nat):SG:=⟨b,q,m,iv,W,D,R,0,false,false,[],tv,Ts.map pT,ms,none,false,0,.slice none 0 0,[],0,mo,[]⟩
theorem UP{ms:Nat}(hl:lo≤ms)(h:pJ w ms):cE lo w [eI ms []]:=⟨by simp,fun p hp=>by
 rw[List.mem_singleton.1 hp]
 exact⟨hl,_,h,⟨#[],0,rfl,rfl,fun e he=>by cases he⟩,(by decide:(0:Nat)∉[117+2,246+2,113+2])⟩⟩
theorem Qv{mo:Nat}(hl:lo≤mo)(h:pJ w mo):cE lo w [kT mo []]:=⟨by simp,fun p hp=>by
 rw[List.mem_singleton.1 hp]
 exact⟨hl,_,h,⟨#[],0,rfl,rfl⟩,(by decide:(0:Nat)∉[117+2,246+2,113+2])⟩⟩
theorem FK{a b:fm}(h:a.1≠b.1):JD [a] [b]:=fun x hx y hy=>by
 rw[List.mem_singleton.1 hx,List.mem_singleton.1 hy];exact h
theorem UQ(h:JD A C)(k:JD B C):JD (A++B) C:=(mY h.symm k.symm).symm
structure acX(lo:Nat)(w:World)(x W D R gA:Nat)(g:SG)(X:List PIV):Prop where
 cN:cB lo w g
 st:g.st=(WP.XE W gA).s
 cf:g.W=W∧g.D=D∧g.R=R
 bx:aZ w x 67 [aJ g.b]
 lx:lo≤x
 tg:kG [91+2,0,1,100+2,108+2,103+2] g.aF
 ps:(parseP cX).1=some (X.map (fun x=>x.it))
 pi:PIts w lo g.iv X
 xs:M0 X∧DE X∧Pq (nJ X)
theorem X8(gA:Nat)(h:NV cX W D R lo w x):∃ g X,acX lo w x W D R gA g X:=by
 obtain⟨b,a,n,c,q,m,X,au,ms,mo,Ts,X7,hlx,hA,Zk,h4,hp,hl,hI,hb,hq,hm,hE,hT,BQ,TX,hvo,l1,l2,d1,d2,d3⟩:=h;have zO:∀ t∈Ts,t.count=0∧t.bD=false:=fun t ht=>⟨(BQ.fj t ht).1,(BQ.fj t ht).2.2⟩
 obtain⟨ij,np⟩:=Jy (lo:=lo) (w:=w) Ts hT.ue BQ.low hT.qc (fun t ht=>by
  have:=(hT.dJ t ht).1;rw[(BQ.fj t ht).2.1] at this
  exact this) (List.pairwise_iff_getElem.2 (fun i j hi hj U0 g hg=>hT.xd i j _ _ (List.getElem?_eq_getElem hi) (List.getElem?_eq_getElem hj) (by omega) g hg)) zO
 obtain⟨KO,uA⟩:=fQ hT.row (by decide);have zA:cE lo w [eL b 91 (UO b q m (.slice a n c) W D R au Ts ms mo).cells]:=ct hb hE.ap (by decide);have hqs:=oB hq hm hE.vi hE.D9;have Qz:=Mz hq hE.vi;have ee:=MA hm hE.D9;have gY:=UP l1 TX;have ho1:=Qv l2 hvo
 have eT:cx 100 1 au (Ts.map (fun t=>t.ap)).length ((Ts.map (fun t=>t.ap)).map aJ)=(UO b q m (.slice a n c) W D R au Ts ms mo).jy:=by
  unfold SG.jy UO;simp only[List.length_map,List.map_map];rfl
 have Vt:cE lo w ([eI ms []]++[kT mo []]):=ay.2 ⟨gY,ho1,FK d1⟩;have htg:kG [1,1] ([eI ms []]++[kT mo []]):=(kG.anX _ _).bM (kG.ahY _ _);have hto:cE lo w ((Ts.map pT).flatMap eZ.aF++([eI ms []]++[kT mo []])):=ay.2 ⟨ij,Vt,ik ij Vt np htg (by decide)⟩;have hrt:cE lo w (cx 100 1 au (Ts.map (fun t=>t.ap)).length ((Ts.map (fun t=>t.ap)).map aJ)++((Ts.map pT).flatMap eZ.aF++([eI ms []]++[kT mo []]))):=ay.2 ⟨KO,hto,ik KO hto (kG.row _ _ _ _ _) (np.bM htg) (by decide)⟩
 have hqr:JD ([pN q []]++[j9 m []]) (cx 100 1 au (Ts.map (fun t=>t.ap)).length ((Ts.map (fun t=>t.ap)).map aJ)++((Ts.map pT).flatMap eZ.aF++([eI ms []]++[kT mo []]))) :=
  UQ (ik Qz hrt (kG.vi _ _) ((kG.row _ _ _ _ _).bM (np.bM htg)) (by decide)) (mY (ik ee KO (kG.UM _ _) (kG.row _ _ _ _ _) (by decide)) (mY (ik ee ij (kG.UM _ _) np (by decide)) (mY (FK (Ne.symm d2)) (FK (Ne.symm d3)))))
 have J0:=ay.2 ⟨hqs,hrt,hqr⟩;have NX:kG ([91+2]++(([0]++[1])++([100+2]++([108+2,103+2]++[1,1])))) _:=(kG.ap b 91 (UO b q m (.slice a n c) W D R au Ts ms mo).cells).bM (((kG.vi q []).bM (kG.UM m [])).bM ((kG.row 100 1 au (Ts.map (fun t=>t.ap)).length ((Ts.map (fun t=>t.ap)).map aJ)).bM (np.bM htg)));have mG:=ay.2 ⟨zA,J0,ik zA J0 (kG.ap _ _ _) (((kG.vi q []).bM (kG.UM m [])).bM ((kG.row _ _ _ _ _).bM (np.bM htg))) (by decide)⟩;rw[eT] at mG NX;refine⟨UO b q m (.slice a n c) W D R au Ts ms mo,X,⟨mG,?_,?_,(fun s hs=>by cases hs),Or.inl ⟨rfl,rfl,rfl⟩⟩,?_,⟨rfl,rfl,rfl⟩,X7,hlx,fun y hy o ho=>?_,hp,hI,M0.of h4 hp hl,Fx hp,Nl h4 hp (Fx hp)⟩
 ·show du 1 au (Ts.map pT).length ((Ts.map pT).map (fun t=>aJ t.ap))
  simp only[List.length_map,List.map_map] at uA ⊢;exact uA
 ·intro t ht
  obtain⟨y,hy,rfl⟩:=List.mem_map.1 ht;have:=(hT.dJ y hy).1;rw[(BQ.fj y hy).2.1] at this;exact⟨(fQ this (by decide)).2,fun k hk=>by cases hk⟩
 ·have e1:(Ts.map pT).map eZ.t=(Ts.map (fun t=>(t.name,t.base))).map (fun x=>(⟨x.1,x.2,0,[],false⟩:jS)):=by rw[List.map_map,List.map_map];rfl
  have e2:(X.filter (fun x=>x.it.kind==2)).map (fun x=>(x.it.name.text,jA x.it.base))=(yG.filter (fun x=>x.kind==2)).map (fun x=>(x.name.text,jA x.base)):=by
   rw[← rz hp,List.filter_map,List.map_map];rfl
  have e3:=of_decide_eq_true (show decide _=true from ah0);show (⟨0,false,false,[],(Ts.map pT).map eZ.t,none,false,0,[],0,[]⟩:SP)=_;rw[e1,BQ.map,e2,e3];rfl
 ·have:=NX y hy o ho
  simp only[List.mem_append,List.mem_cons,List.not_mem_nil,or_false] at this ⊢;omega
structure acY(lo:Nat)(w:World)(x W D R gA:Nat)(g:CG)(X:List PIV):Prop where
 dM:eH lo w g
 st:g.st=(WP.XE W gA).c
 cf:g.W=W∧g.D=D∧g.R=R
 bx:aZ w x 72 [aJ g.b]
 lx:lo≤x
 tg:kG [99+2,0,1] g.aF
 ps:(parseP cX).1=some (X.map (fun x=>x.it))
 pi:PIts w lo g.iv X
 xs:M0 X∧DE X∧Pq (nJ X)
theorem X9(h:NU cX W D R gA lo w x):∃ g X,acY lo w x W D R gA g X:=by
 obtain⟨b,a,n,c,q,m,X,X7,hlx,hA,Zk,h4,hp,hl,hI,hb,hq,hm,hE⟩:=h;have zA:cE lo w [eL b 99 (CG.cells ⟨b,q,m,.slice a n c,W,D,R,0,false,false,[],gA,0,0,0,.slice none 0 0,[],0,.slice none 0 0,[],0,.slice none 0 0,[],0⟩)]:=ct hb hE.ap (by decide);have hqs:=oB hq hm hE.vi hE.D9;have hT:kG ([0]++[1]) ([pN q []]++[j9 m []]):=(kG.vi q []).bM (kG.UM m []);have mG:=ay.2 ⟨zA,hqs,ik zA hqs (kG.ap _ _ _) hT (by decide)⟩;have NX:=(kG.ap b 99 (CG.cells ⟨b,q,m,.slice a n c,W,D,R,0,false,false,[],gA,0,0,0,.slice none 0 0,[],0,.slice none 0 0,[],0,.slice none 0 0,[],0⟩)).bM hT;have er:(CG.aF ⟨b,q,m,.slice a n c,W,D,R,0,false,false,[],gA,0,0,0,.slice none 0 0,[],0,.slice none 0 0,[],0,.slice none 0 0,[],0⟩)=[eL b 99 (CG.cells ⟨b,q,m,.slice a n c,W,D,R,0,false,false,[],gA,0,0,0,.slice none 0 0,[],0,.slice none 0 0,[],0,.slice none 0 0,[],0⟩)]++([pN q []]++[j9 m []]):=rfl;refine⟨⟨b,q,m,.slice a n c,W,D,R,0,false,false,[],gA,0,0,0,.slice none 0 0,[],0,.slice none 0 0,[],0,.slice none 0 0,[],0⟩,X,⟨by rw[er];exact mG,Or.inl ⟨rfl,rfl,rfl⟩,Or.inl ⟨rfl,rfl,rfl⟩,Or.inl ⟨rfl,rfl,rfl⟩,fun m hm=>by cases hm⟩,rfl,⟨rfl,rfl,rfl⟩,X7,hlx,by rw[er];exact NX,hp,hI,M0.of h4 hp hl,Fx hp,Nl h4 hp (Fx hp)⟩
structure UR(lo:Nat)(w:World)(W D R gA:Nat)(g:WG)(XC XS:List PIV):Prop where
 eY:Fol lo XC XS w g (WP.XE W gA)
 cf:g.D=D∧g.R=R
 pc:(parseP cX).1=some (XC.map (fun x=>x.it))
 ps:(parseP cX).1=some (XS.map (fun x=>x.it))
theorem Ya{w1 w2 w3:World}{xs xc:Nat}(hS:NV cX W D R lo w1 xs)(aW:Below w1.heap.size w1 w2)(hC:NU cX W D R gA w1.heap.size w2 xc)(bP:Below w2.heap.size w2 w3)
  (hB:aZ w3 w2.heap.size 38 [aJ xs,aJ xc,vI W,vI D,vI R,vI 0,vI 0,vI 0,.slice none 0 0,.slice none 0 0,.slice none 0 0,.slice none 0 0,.slice none 0 0,.bool false,.bool false,.bool false,.slice none 0 0,.slice none 0 0,vI 0,vI 0,vI 0,.bool false,.bool false])
  (di:lo≤w1.heap.size) (hE:mR w3) (hO:∀ k,lo≤k→KK k) (hW:W≤8) (hD:4≤D):∃ g XC XS,UR lo w3 W D R gA g XC XS∧g.b=w2.heap.size:=by
 obtain⟨sg,XS,nS⟩:=X8 gA hS;obtain⟨cg,XC,nC⟩:=X9 hC;have s12:=aW.size;have s23:=bP.size;have Q6:cB lo w3 sg:=(nS.cN.below aW).below bP;have js:=nC.dM.below bP;have an0:∀ {G:List fm},cE w1.heap.size w3 G→cE lo w3 G:=fun h=>⟨h.qc,fun p hp=>⟨Nat.le_trans di (h.all p hp).1,(h.all p hp).2⟩⟩
 have Uo:eH lo w3 cg:=⟨an0 js.dR,js.ra,js.rs,js.rc,js.rv⟩
 have hBS:cE lo w3 [eL xs 67 [aJ sg.b]]:=ct nS.lx ((nS.bx.below aW).below bP) (by decide);have QU:cE lo w3 [eL xc 72 [aJ cg.b]]:=ct (Nat.le_trans di nC.lx) (nC.bx.below bP) (by decide);have hBW:=ct (lo:=lo) (by omega) hB (by decide);have kS:∀ k,aL sg.aF k→k<w1.heap.size:=fun k hk=>(nS.cN.dR.lt hk).2
 have kC:∀ k,aL cg.aF k→w1.heap.size≤k∧k<w2.heap.size:=fun k hk=>nC.dM.dR.lt hk
 have lxs:=nS.bx.lt;have lxc:=nC.bx.lt;have hSC:cE lo w3 (sg.aF++cg.aF):=ay.2 ⟨Q6.dR,Uo.dR,UN kS (fun k hk=>(kC k hk).1)⟩;have jk:cE lo w3 ([eL xc 72 [aJ cg.b]]++(sg.aF++cg.aF)):=ay.2 ⟨QU,hSC,mY (ik QU Q6.dR (kG.ap _ _ _) nS.tg (by decide)) (ik QU Uo.dR (kG.ap _ _ _) nC.tg (by decide))⟩;have gY:cE lo w3 ([eL xs 67 [aJ sg.b]]++([eL xc 72 [aJ cg.b]]++(sg.aF++cg.aF))):=ay.2 ⟨hBS,jk,mY (ik hBS QU (kG.ap _ _ _) (kG.ap _ _ _) (by decide)) (mY (ik hBS Q6.dR (kG.ap _ _ _) nS.tg (by decide)) (ik hBS Uo.dR (kG.ap _ _ _) nC.tg (by decide)))⟩
 have ee:=ay.2 ⟨hBW,gY,(UN (n:=w2.heap.size) (A:=[eL xs 67 [aJ sg.b]]++([eL xc 72 [aJ cg.b]]++(sg.aF++cg.aF))) (fun k hk=>by
  rcases aL.bM.1 hk with h | h
  ·have h:k=xs:=aL.one.1 h
   omega
  ·rcases aL.bM.1 h with h | h
   ·have h:k=xc:=aL.one.1 h
    omega
   ·rcases aL.bM.1 h with h | h
    ·have:=kS k h;omega
    ·exact(kC k h).2) (fun k hk=>by
  have h:k=w2.heap.size:=aL.one.1 hk
  omega)).symm⟩
 let g:WG:=⟨w2.heap.size,xs,xc,sg,cg,W,D,R,0,0,0,.slice none 0 0,[],.slice none 0 0,[],.slice none 0 0,[],.slice none 0 0,[],.slice none 0 0,[],false,false,false,.slice none 0 0,[],.slice none 0 0,[],0,0,0,false,false⟩
 have er:g.aF=[eL w2.heap.size 38 g.cells]++([eL xs 67 [aJ sg.b]]++([eL xc 72 [aJ cg.b]]++(sg.aF++(cg.aF++[])))):=rfl;rw[List.append_nil] at er;refine⟨g,XC,XS,⟨⟨⟨by rw[er];exact ee,Q6,Uo,Or.inl ⟨rfl,rfl,rfl⟩,Or.inl ⟨rfl,rfl,rfl⟩,(fun m hm=>by cases hm),(fun m hm=>by cases hm),Or.inl ⟨rfl,rfl,rfl⟩,Or.inl ⟨rfl,rfl,rfl⟩,Or.inl ⟨rfl,rfl,rfl⟩,Or.inl ⟨rfl,rfl,rfl⟩,Or.inl ⟨rfl,rfl,rfl⟩,nS.cf,nC.cf⟩,?_,⟨rfl,rfl,hW⟩,by omega,hD,?_,?_⟩,⟨rfl,rfl⟩,nC.ps,nS.ps⟩,rfl⟩
 ·show (⟨sg.st,cg.st,W,D,R,0,0,0,[],[],[],[],[],false,false,false,[],[],0,0,0,false,false⟩:WP)=_
  rw[nS.st,nC.st];rfl
 ·exact⟨⟨_,nC.pi.below bP⟩,nC.xs.1,nC.xs.2.1,nC.xs.2.2,hE,hO⟩
 ·exact⟨⟨_,(nS.pi.below aW).below bP⟩,nS.xs.1,nS.xs.2.1,nS.xs.2.2,hE,hO⟩
theorem wU{G:List fm}(h:cE lo w G)(hl:lo'≤lo):cE lo' w G:=⟨h.qc,fun p hp=>⟨Nat.le_trans hl (h.all p hp).1,(h.all p hp).2⟩⟩
theorem Fol.l9(h:Fol lo XC XS w g p)(hl:lo'≤lo)(hO:∀ k,lo'≤k→KK k):Fol lo' XC XS w g p :=
 ⟨⟨wU h.bL.dR hl,⟨wU h.bL.cN.dR hl,h.bL.cN.rt,h.bL.cN.tp,h.bL.cN.ss,h.bL.cN.rw⟩,⟨wU h.bL.dM.dR hl,h.bL.dM.ra,h.bL.dM.rs,h.bL.dM.rc,h.bL.dM.rv⟩,h.bL.rs,h.bL.rc,h.bL.fs,h.bL.fc,h.bL.r0,h.bL.r1,h.bL.r2,h.bL.rt,h.bL.ra,h.bL.rV,h.bL.wH⟩,h.st,h.cf,Nat.le_trans hl h.hl,h.D,⟨h.sc.i,h.sc.xo,h.sc.pl,h.sc.ty,h.sc.WQ,hO⟩,⟨h.ss.i,h.ss.xo,h.ss.pl,h.ss.ty,h.ss.WQ,hO⟩⟩
def NY(W D R gA:Nat)(w:World)(e:Ending)(w':World):Prop:=∃ g XC XS,e=.returned (.tuple #[.pointer (some ⟨g.b,0,none⟩),.bool true])∧UR w.heap.size w' W D R gA g XC XS∧Below w.heap.size w w'
theorem acZ(jL deadline jM:Int)(gA:Nat)(ht:gA≤10)(h1:-9223372036854775808≤jL∧jL≤9223372036854775807)(h2:-9223372036854775808≤deadline∧deadline≤9223372036854775807)(h3:-9223372036854775808≤jM∧jM≤9223372036854775807)(w:World)(hE:mR w)(hO:∀ k,w.heap.size≤k→KK k):
  aT 4 #[vI jL,vI deadline,vI jM,vI gA] w (NY (1+cI jL 8) (4+cI deadline 20) (1+cI jM 16) gA w):=by
 have jP:=U (gE jL 8 w (by decide) (by unfold maxLen;omega) h1);have jn:=U (gE deadline 20 w (by decide) (by unfold maxLen;omega) h2);have nI:=U (gE jM 16 w (by decide) (by unfold maxLen;omega) h3);have l1:=fw jL (n:=8) (by decide);have l2:=fw deadline (n:=20) (by decide);have l3:=fw jM (n:=16) (by decide);obtain⟨W,hW⟩:∃ W,cI jL 8=W:=⟨_,rfl⟩
 obtain⟨D,hD⟩:∃ D,cI deadline 20=D:=⟨_,rfl⟩
 obtain⟨R,hR⟩:∃ R,cI jM 16=R:=⟨_,rfl⟩
 rw[hW] at jP l1 ⊢;rw[hD] at jn l2 ⊢;rw[hR] at nI l3 ⊢;have HE:=U hE;have HO:=U hO;clear hE hO hW hD hR h1 h2 h3;obtain⟨W1,Yz⟩:∃ W1:Nat,Hid (1+W=W1):=⟨_,U rfl⟩
 obtain⟨D1,Dq⟩:∃ D1:Nat,Hid (4+D=D1):=⟨_,U rfl⟩
 obtain⟨R1,QQ⟩:∃ R1:Nat,Hid (1+R=R1):=⟨_,U rfl⟩
 rw[Yz.o,Dq.o,QQ.o];have eW:(1:Int)+(W:Int)=(W1:Int):=by have:=Yz.o;omega
 have eD:(4:Int)+(D:Int)=(D1:Int):=by have:=Dq.o;omega
 have eR:(1:Int)+(R:Int)=(R1:Int):=by have:=QQ.o;omega
 have HCf:=U (show iw (W1:Int) (D1:Int) (R1:Int)=true by
  have h1:=Yz.o;have h2:=Dq.o;have h3:=QQ.o;unfold iw ET;simp
  omega)
 obtain⟨w0,eM,aN,aD⟩:=cS w [vI W1,vI D1,vI R1] 27;have c0:=aD.ce 0 rfl;have c1:=aD.ce 1 rfl;have c2:=aD.ce 2 rfl;have XR:=U (HE.o.below aN);have gZ:=U aN;have ii:=U aD;clear aN aD
 go_enter func4,ntmps4
 go_wp2_with fail
 refine jP.o.mono ?_;rintro e wx ⟨rfl,Vq⟩;rw[Vq];clear Vq wx
 go_wp2_with fail
 refine jn.o.mono ?_;rintro e wx ⟨rfl,Vq⟩;rw[Vq];clear Vq wx
 go_wp2_with fail
 refine nI.o.mono ?_;rintro e wx ⟨rfl,Vq⟩;rw[Vq];clear Vq wx
 go_wp2_with fail
 refine(Mq cX W1 D1 R1 w0 XR.o (by have:=szK;unfold maxLen;omega)).mono ?_;rintro e w1 ⟨aA,⟨rfl,E,P,hA,bT⟩ | ⟨rfl,hA,hO⟩ | ⟨xs,rfl,hS⟩⟩
 ·exact absurd (ahw hA) bT
 ·rw[HCf.o] at hO;cases hO
 have kJ:=U (ii.o.below aA);have a0:=kJ.o.ce 0 rfl;have a1:=kJ.o.ce 1 rfl;have a2:=kJ.o.ce 2 rfl;have HS:=U hS;have CY:=U (XR.o.below aA);have iV:=U (gZ.o.trans (aA.mono gZ.o.size));have Hsz:=U (show w.heap.size≤w0.heap.size∧w0.heap.size≤w1.heap.size from⟨gZ.o.size,aA.size⟩);clear hS aA
 go_wp2_with fail
 refine(Mo cX W1 D1 R1 gA w1 CY.o (by have:=szK;unfold maxLen;omega)).mono ?_;rintro e w2 ⟨aW,⟨rfl,E,P,hA,bT⟩ | ⟨rfl,hA,hO⟩ | ⟨xc,rfl,hC⟩⟩
 ·exact absurd (ahw hA) bT
 ·rw[HCf.o] at hO;cases hO
 have gX:=U (kJ.o.below aW);have e0:=gX.o.ce 0 rfl;have e1:=gX.o.ce 1 rfl;have e2:=gX.o.ce 2 rfl;have HC:=U hC;have pd:=U (CY.o.below aW);have Dx:=U aW;clear hC aW
 go_wp2_with fail
 have bP:Below w2.heap.size w2 (w2.alloc (.cells #[aJ xs,aJ xc,vI W1,vI D1,vI R1,vI 0,vI 0,vI 0,.slice none 0 0,.slice none 0 0,.slice none 0 0,.slice none 0 0,.slice none 0 0,.bool false,.bool false,.bool false,.slice none 0 0,.slice none 0 0,vI 0,vI 0,vI 0,.bool false,.bool false] 38)):=(Below.refl _ _).alloc (Nat.le_refl _) _;obtain⟨g,XC,XS,hN,EY⟩:=Ya HS.o Dx.o HC.o bP (heap_alloc_new w2 _) Hsz.o.2 (pd.o.below bP) (fun k hk=>HO.o k (Nat.le_trans Hsz.o.1 hk)) (by have:=Yz.o;omega) (by have:=Dq.o;omega);have EU:=(iV.o.trans (Dx.o.mono iV.o.size)).trans (bP.mono (Nat.le_trans iV.o.size Dx.o.size));have tq:=U (show NY W1 D1 R1 gA w (.returned (.tuple #[aM w2.heap.size,.bool true])) _ from⟨g,XC,XS,by rw[EY],⟨hN.eY.l9 Hsz.o.1 HO.o,hN.cf,hN.pc,hN.ps⟩,EU⟩)
 go_ret2
 exact tq.o
theorem Qw(h:cH lo XC XS w g p):
  aT 9 #[aM g.sb] w (fun e w'=>e=.returned (.tuple #[])∧∃ g',dL lo XC XS w g { p with s:=p.s.qT } w' g'):=by
 refine((py w g.sb g.sg.b (h.bL.cT.cell 0)).AC (fun w'=>∃ g',dw lo w g.sg g.sg.st.qT w' g') (AC h.bL.cN h.hl)).mono ?_;rintro e w' ⟨rfl,pV,hh⟩;have:=h.bL.ko hh;rw[h.st,h.s] at this;exact⟨rfl,_,h.to this⟩
theorem Yb(h:cH lo XC XS w g p):dL lo XC XS w g { p with dN:=true } (w.setCell (aj g.b 21) (.bool true)) { g with dN:=true }:=by
 have hB:aZ (w.setCell (aj g.b 21) (.bool true)) g.b 38 ({ g with dN:=true }:WG).cells:=h.bL.ap.set 21 _;have hc:aQ (fun j=>j=g.b) w (w.setCell (aj g.b 21) (.bool true)):=(aQ.refl _ _).setCell _ _ (fun _=>rfl);have:=h.bL.ke (g':={ g with dN:=true }) hc hB rfl ⟨rfl,rfl⟩ rfl rfl ⟨rfl,rfl,rfl⟩ ⟨rfl,rfl,rfl,rfl⟩ ⟨rfl,rfl,rfl,rfl,rfl,rfl⟩ ⟨rfl,rfl,rfl,rfl⟩;have e:({ g with dN:=true }:WG).st = { g.st with dN:=true }:=rfl;rw[e,h.st] at this;exact h.to this
def NZ(n:Nat):List (ByteArray × List UInt8):=(List.range n).map (fun i=>(kE 1 (3*i),uT (3*i)))
def US(m:Nat):List (ByteArray × List UInt8):=(List.range m).map (fun i=>(kE 1 i,uT i))
theorem jN(n:Nat):(NZ n).length=n:=by unfold NZ;simp
theorem rC(n:Nat):(US n).length=n:=by unfold US;simp
theorem ac0(h:i<n):(NZ n)[i]? = some (kE 1 (3*i),uT (3*i)):=by unfold NZ;simp[h]
theorem ac1(h:i<n):(US n)[i]? = some (kE 1 i,uT i):=by unfold US;simp[h]
theorem ah2(h:(parseP cX).1=some (X.map (fun x=>x.it))){n m:Nat}(hn:n≤16)(hm:m≤32):Mk (dY X) (NZ n++US m):=fun p hp=>by
 rcases List.mem_append.1 hp with e | e
 ·unfold NZ at e
  obtain⟨i,hi,rfl⟩:=List.mem_map.1 e;have:=List.mem_range.1 hi;have hk:=acM h (n:=3*i) (by omega);exact⟨hk.bp,by have:=hk.le;show (uT (3*i)).length≤79;omega⟩
 ·unfold US at e
  obtain⟨i,hi,rfl⟩:=List.mem_map.1 e;have:=List.mem_range.1 hi;have hk:=acM h (n:=i) (by omega);exact⟨hk.bp,by have:=hk.le;show (uT i).length≤79;omega⟩
theorem rD{c:Nat}(h:c<n):cI (c:Int) n=c:=by
 unfold cI;rw[if_neg (by omega),Int.emod_eq_of_lt (by omega) (by omega)];rfl
theorem Jz{r:WP}:∀ (l:List (ByteArray × List UInt8)),bd (fun x q=>WP.pS x q.1 q.2) p l=some r→(r.cy 1).length=(p.cy 1).length+l.length:=by
 intro l
 induction l generalizing p with
 | nil=>intro h;rw[eP] at h;cases h;rfl
 | cons a l ih=>
  intro h;rw[aV] at h
  rcases Option.eq_none_or_eq_some (WP.pS p a.1 a.2) with e | ⟨x,e⟩
  ·rw[e] at h;cases h
  ·rw[e,Option.bind_some] at h
   have h1:=ih h;unfold WP.pS at e
   split at e
   ·obtain rfl:=Option.some.inj e
    have h2:((p.pub 1 a.1 a.2).cy 1).length=(p.cy 1).length+1:=by
     show (p.v1++[a.1]).length=p.v1.length+1;simp
    rw[h1,h2,List.length_cons];omega
   ·cases e
structure ah3(ask:SP.jX)(bp:vh)(W R n k m:Nat)(rs:Bool)(w1 w2 w3 P3 w4 w5 w6 w7:WP)(lt:Bool)(x0 x1:gp):Prop where
 a1:bd (fun x p=>WP.pS x p.1 p.2) (wI W R) (NZ n)=some w1
 a2:w1.wO 0=some w2
 a3:w2.ae.length=1
 a4:w2.mW ask bp=some w3
 a5:w3.ae=[⟨1,0,n,0,lt⟩]
 a6:P3=if rs=true then w3.ahJ else w3
 a7:bd (fun x p=>WP.pS x p.1 p.2) P3 (US m)=some w4
 a8:w4.wO k=some w5
 a9:w5.ae.length=2
 b1:∃ y,w5.ae[1]? = some y∧y.start=k
 b2:w5.LZ=some w6
 b3:w6.mW ask bp=some w7
 b4:w7.ae=[x0,x1]
 b5:rs=true→x1.ended=3∧x1.aE=0
 b6:rs=false→UL (n+m) R k x1∧w4.eh 1 (k+1)=decide (n+m<k+1+R)
 b7:JS w4
 b8:(w4.cy 1).length=n+m
theorem ah4{ask:SP.jX}(h:(parseP cX).1=some (X.map (fun x=>x.it))){W R n k m:Nat}(hC:Jo W R)(hn:1≤n∧n≤R)(hk:1≤k∧k≤n)(hm:m≤2*R)(rs:Bool):∃ w1 w2 w3 P3 w4 w5 w6 w7 lt x0 x1,ah3 ask (dY X) W R n k m rs w1 w2 w3 P3 w4 w5 w6 w7 lt x0 x1:=by
 have hR:=hC.R;have hP:=ah2 h (n:=n) (m:=m) (by omega) (by omega);obtain⟨w1,w2,t,lt,c1,c2,c3,c4,c5,c6⟩:=Mn (ask:=ask) (bp:=dY X) (ps:=NZ n) hC (by rw[jN];exact hn) (fun p hp=>hP p (List.mem_append_left _ hp));have hl:(NZ n++US m).length=n+m:=by rw[List.length_append,jN,rC]
 have vok:∀ {w4 w5:WP},w4.wO k=some w5→JS w4:=fun {w4 w5} hs=>by
  unfold WP.wO at hs
  split at hs
  ·rename_i hG
   unfold XZ at hG;simp only[Bool.and_eq_true] at hG;exact iQ.1 hG.2.1
  ·cases hs
 cases rs with
 | false=>
  obtain⟨w4,w5,w6,w7,x0,x1,y,d1,d2,d3,d4,d5,d6,d7,d8,d9,d10⟩:=Jx (ask:=ask) (bp:=dY X) (k:=k) (ps:=NZ n) (qs:=US m) (lt:=lt) hC (by rw[jN];exact hn) (by rw[rC];exact hm) (by rw[jN];exact hk) hP c4 c5;rw[hl] at d2 d10;refine⟨w1,w2,_,_,w4,w5,w6,w7,lt,x0,x1,⟨c1,c2,c3,c6,by rw[jN];rfl,rfl,d1,d3,d4,⟨y,d5,d6⟩,d7,d8,d9,fun e=>(by cases e),fun _=>⟨d10,d2⟩,vok d3,?_⟩⟩;have:=Jz _ d1;rw[this,rC];show ((NZ n).map (fun p=>p.1)).length+m=n+m;rw[List.length_map,jN]
 | true=>
  obtain⟨w4,w5,w6,w7,x0,x1,y,d1,d3,d4,d5,d6,d7,d8,d9,d10,d11⟩:=FJ (ask:=ask) (bp:=dY X) (k:=k) (ps:=NZ n) (qs:=US m) (lt:=lt) hC (by rw[jN];exact hn) (by rw[rC];exact hm) (by rw[jN];exact hk) c4 c5;refine⟨w1,w2,_,_,w4,w5,w6,w7,lt,x0,x1,⟨c1,c2,c3,c6,by rw[jN];rfl,rfl,d1,d3,d4,⟨y,d5,d6⟩,d7,d8,d9,fun _=>⟨d10,d11⟩,fun e=>(by cases e),vok d3,?_⟩⟩;have:=Jz _ d1;rw[this,rC];show ((NZ n).map (fun p=>p.1)).length+m=n+m;rw[List.length_map,jN]
end Go.Proofs.YtkpfplbmmglkkaaGreatDoor
