/- The statements' own world as it begins: where it lies (no walk). -/
import Derived.Test.YtolfcabodiphmaaGreatDoorV36
import Derived.Test.YtolfcabodiphmaaGreatDoorV38
import Derived.Test.YtolfcabodiphmaaGreatDoorV35
import Derived.Test.YtolfcabodiphmaaGreatDoorV33
import Derived.Test.YtolfcabodiphmaaGreatDoorV20
set_option linter.unusedSimpArgs false
set_option linter.unusedVariables false
set_option maxHeartbeats 4000000
set_option maxRecDepth 100000
namespace Go.Proofs.YtolfcabodiphmaaGreatDoor
open Go.Proofs.Tryz
open Go.RowKit Go.Conc
theorem acT{lo lo':Nat}{w:World}{A B:List fM}(hA:Has lo w A)(hB:Has lo' w B)(h:∀ a∈A,∀ b∈B,∀ o,a.2 o→b.2 o→False):Lc A B:=fun a ha b hb e=>by
 obtain⟨_,o,h1,h2,_⟩:=hA.all a ha
 obtain⟨_,o',h3,h4,_⟩:=hB.all b hb
 rw[e,h3] at h1
 cases h1
 exact h a ha b hb _ h2 h4
def akm:Obj→Nat
 | .cells _ T _=>T+2
 | .chan _ _ _ _ _ _=>0
 | _=>1
def kR(S:List Nat)(A:List fM):Prop:=∀ a∈A,∀ o,a.2 o→akm o∈S
theorem kR.app{S T:List Nat}{A B:List fM}(h:kR S A)(k:kR T B):kR (S++T) (A++B):=fun a ha o ho=>by
 rcases List.mem_append.1 ha with ha | ha
 ·exact List.mem_append_left _ (h a ha o ho)
 ·exact List.mem_append_right _ (k a ha o ho)
theorem kR.blk(b:Nat)(T:TypeId)(xs:List Value):kR [T+2] [iO b T xs]:=fun a ha o ho=>by
 rw[List.mem_singleton.1 ha] at ho
 have ho:o=.cells xs.toArray T (0,0):=ho
 subst ho
 exact List.mem_singleton.2 rfl
theorem kR.row(e:TypeId)(size:Nat)(v:Value)(n:Nat)(xs:List Value):kR [e+2] (dh e size v n xs):=fun a ha o ho=>by
 unfold dh at ha
 split at ha
 ·rw[List.mem_singleton.1 ha] at ho
  obtain⟨_,_,_,_,cur,rfl,_⟩:=ho
  exact List.mem_singleton.2 rfl
 ·cases ha
theorem kR.uH(q:Nat)(L:List aP):kR [0] [qJ q L]:=fun a ha o ho=>by
 rw[List.mem_singleton.1 ha] at ho
 obtain⟨s,r,rfl⟩:=ho
 exact List.mem_singleton.2 rfl
theorem kR.wait(m:Nat)(L:List aP):kR [1] [kG m L]:=fun a ha o ho=>by
 rw[List.mem_singleton.1 ha] at ho
 obtain⟨s,r,rfl,_⟩:=ho
 exact List.mem_singleton.2 rfl
theorem kR.akn(m:Nat)(l:List (Nat × Nat)):kR [1] [iH m l]:=fun a ha o ho=>by
 rw[List.mem_singleton.1 ha] at ho
 obtain⟨s,r,rfl,_⟩:=ho
 exact List.mem_singleton.2 rfl
theorem kR.agq(m:Nat)(l:List (Nat × zK)):kR [1] [fH m l]:=fun a ha o ho=>by
 rw[List.mem_singleton.1 ha] at ho
 obtain⟨s,r,rfl,_⟩:=ho
 exact List.mem_singleton.2 rfl
theorem ji{lo lo':Nat}{w:World}{A B:List fM}{S T:List Nat}(hA:Has lo w A)(hB:Has lo' w B)(h1:kR S A)(h2:kR T B)(h:∀ t∈S,t∉T):Lc A B:=acT hA hB (fun a ha b hb o h3 h4=>h _ (h1 a ha o h3) (h2 b hb o h4))
theorem og{A B C:List fM}(h:Lc A B)(k:Lc A C):Lc A (B++C):=fun a ha b hb=>by
 rcases List.mem_append.1 hb with hb | hb
 ·exact h a ha b hb
 ·exact k a ha b hb
theorem PE(A:List fM):Lc A []:=fun a ha b hb=>by cases hb
theorem Xe{A B:List fM}{n:Nat}(h:∀ k,Key A k→k<n)(h':∀ k,Key B k→n≤k):Lc A B:=fun a ha b hb e=>by
 have h1:=h a.1 ⟨a,ha,rfl⟩
 have h2:=h' b.1 ⟨b,hb,rfl⟩
 omega
def qO(t:jv):yO:=⟨t.blk,t.kept,[],t.name,t.base,0,false⟩
theorem KZ{lo:Nat}{w:World}:∀ (Ts:List jv),(∀ t∈Ts,aK w t.blk 149 (qY t))→(∀ t∈Ts,lo≤t.blk)→(Ts.map (fun t=>t.blk)).Nodup→(∀ t∈Ts,w.ownsRow lo 64 1 t.kept 0 [])→Ts.Pairwise (fun x y=>∀ g,x.kept.ownBlock=some g→y.kept.ownBlock≠some g)→(∀ t∈Ts,t.count=0∧t.fin=false)→Has lo w ((Ts.map qO).flatMap yO.res)∧kR [149 + 2,64 + 2] ((Ts.map qO).flatMap yO.res)
 | [],_,_,_,_,_,_=>⟨Has.nil _ _,fun a ha=>by cases ha⟩
 | t::r,hB,hl,hn,hk,hp,hf=>by
  obtain⟨ih,ihT⟩:=KZ (lo:=lo) (w:=w) r (fun y hy=>hB y (List.mem_cons_of_mem _ hy)) (fun y hy=>hl y (List.mem_cons_of_mem _ hy)) (List.nodup_cons.1 hn).2 (fun y hy=>hk y (List.mem_cons_of_mem _ hy)) (List.pairwise_cons.1 hp).2 (fun y hy=>hf y (List.mem_cons_of_mem _ hy))
  have hBt:=hB t (List.mem_cons_self ..)
  have hkt:=hk t (List.mem_cons_self ..)
  obtain⟨hr1,hr2⟩:=jR hkt (by decide)
  obtain⟨f1,f2⟩:=hf t (List.mem_cons_self ..)
  have hb1:Has lo w [iO t.blk 149 (xI (qO t))]:=dH (hl t (List.mem_cons_self ..)) (by
   have e:xI (qO t)=qY t:=by unfold qO xI qY;rw[f1,f2]
   rw[e];exact hBt) (by decide)
  have hres:Has lo w (qO t).res:=aA.2 ⟨hb1,aA.2 ⟨hr1,Has.nil _ _,PE _⟩,og (ji hb1 hr1 (kR.blk _ _ _) (kR.row _ _ _ _ _) (by decide)) (PE _)⟩
  have hTt:kR [149 + 2,64 + 2] (qO t).res:=(kR.blk _ _ _).app ((kR.row _ _ _ _ _).app (T:=[]) (fun a ha=>by cases ha))
  refine⟨aA.2 ⟨hres,ih,fun a ha b hb e=>?_⟩,fun a ha o ho=>?_⟩
  ·obtain⟨m,hm,hb⟩:=List.mem_flatMap.1 hb
   obtain⟨y,hy,rfl⟩:=List.mem_map.1 hm
   have Xx:=hB y (List.mem_cons_of_mem _ hy)
   have hky:=hk y (List.mem_cons_of_mem _ hy)
   have hka:Key (qO t).res a.1:=⟨a,ha,rfl⟩
   have hkb:Key (qO y).res b.1:=⟨b,hb,rfl⟩
   obtain⟨_,hy2⟩:=jR hky (by decide)
   have sp:∀ (z:jv),eX 1 z.kept 0 []→∀ k,Key (qO z).res k→k=z.blk∨z.kept.ownBlock=some k:=fun z hz k hk=>by
    rcases Key.app.1 hk with h | h
    ·exact Or.inl (Key.one.1 h)
    ·rcases Key.app.1 h with h | h
     ·exact Or.inr ((bQ (e:=64) hz).1 h)
     ·exact absurd h Key.nil
   have h1:=sp t hr2 _ hka
   have h2:=sp y hy2 _ hkb
   rw[e] at h1
   rcases h1 with h1 | h1<;>rcases h2 with h2 | h2
   ·exact(List.nodup_cons.1 hn).1 (List.mem_map.2 ⟨y,hy,by rw[← h2,h1]⟩)
   ·rw[h1] at h2
    exact hBt.dF hky (by decide) h2
   ·rw[h2] at h1
    exact Xx.dF hkt (by decide) h1
   ·exact(List.pairwise_cons.1 hp).1 y hy _ h1 h2
  ·rcases List.mem_append.1 ha with ha | ha
   ·exact hTt a ha o ho
   ·exact ihT a ha o ho
def agr:Bool:=decide ((zY.filter (fun x=>x.kind==2)).map (fun x=>(x.name.text,cellText x.base))=(WP.init 1 1).s.aX.map (fun t=>(t.name,t.base)))
theorem ags:agr=true:=by kernel_rfl
def Xf(b q m:Nat)(iv:Value)(W D R:Nat)(tv:Value)(Ts:List jv)(ms mo:Nat):SG:=⟨b,q,m,iv,W,D,R,0,false,false,[],tv,Ts.map qO,ms,none,false,0,.slice none 0 0,[],0,mo,[]⟩
theorem Xg{lo:Nat}{w:World}{ms:Nat}(hl:lo≤ms)(h:Void w ms):Has lo w [iH ms []]:=⟨by simp,fun p hp=>by
 rw[List.mem_singleton.1 hp]
 exact⟨hl,_,h,⟨#[],0,rfl,rfl,fun e he=>by cases he⟩,(by decide:(0:Nat)∉[116 + 2,242 + 2,112 + 2])⟩⟩
theorem S9{lo:Nat}{w:World}{mo:Nat}(hl:lo≤mo)(h:Void w mo):Has lo w [fH mo []]:=⟨by simp,fun p hp=>by
 rw[List.mem_singleton.1 hp]
 exact⟨hl,_,h,⟨#[],0,rfl,rfl⟩,(by decide:(0:Nat)∉[116 + 2,242 + 2,112 + 2])⟩⟩
theorem IE{a b:fM}(h:a.1≠b.1):Lc [a] [b]:=fun x hx y hy=>by
 rw[List.mem_singleton.1 hx,List.mem_singleton.1 hy]
 exact h
theorem Xh{A B C:List fM}(h:Lc A C)(k:Lc B C):Lc (A++B) C:=(og h.symm k.symm).symm
structure acU(lo:Nat)(w:World)(x W D R tok:Nat)(g:SG)(X:List aO):Prop where
 srv:Srv lo w g
 st:g.st=(WP.init W tok).s
 cf:g.W=W∧g.D=D∧g.R=R
 bx:aK w x 79 [aJ g.b]
 lx:lo≤x
 tg:kR [105 + 2,0,1,147 + 2,149 + 2,64 + 2] g.res
 ps:(aV bH).1=some (X.map (fun x=>x.it))
 pi:dK w lo g.iv X
 xs:OD X∧Plain X∧QZ (tyP X)
theorem ZU{lo:Nat}{w:World}{W D R x:Nat}(tok:Nat)(h:PD bH W D R lo w x):∃ g X,acU lo w x W D R tok g X:=by
 obtain⟨b,a,n,c,q,m,X,aX,ms,mo,Ts,hBx,hlx,hA,hcf,h4,hp,hl,hI,hb,hq,hm,hE,hT,hTR,hvs,hvo,l1,l2,d1,d2,d3⟩:=h
 have hfr:∀ t∈Ts,t.count=0∧t.fin=false:=fun t ht=>⟨(hTR.fresh t ht).1,(hTR.fresh t ht).2.2⟩
 obtain⟨ht1,ht2⟩:=KZ (lo:=lo) (w:=w) Ts hT.each hTR.low hT.nodup (fun t ht=>by
  have:=(hT.kept t ht).1
  rw[(hTR.fresh t ht).2.1] at this
  exact this) (List.pairwise_iff_getElem.2 (fun i j hi hj hij g hg=>hT.apart i j _ _ (List.getElem?_eq_getElem hi) (List.getElem?_eq_getElem hj) (by omega) g hg)) hfr
 obtain⟨hr1,hr2⟩:=jR hT.row (by decide)
 have hbl:Has lo w [iO b 105 (Xf b q m (.slice a n c) W D R aX Ts ms mo).cells]:=dH hb hE.blk (by decide)
 have hqs:=pO hq hm hE.uH hE.AL
 have hq1:=N8 hq hE.uH
 have hw1:=N9 hm hE.AL
 have hs1:=Xg l1 hvs
 have ho1:=S9 l2 hvo
 have eT:dh 147 1 aX (Ts.map (fun t=>t.blk)).length ((Ts.map (fun t=>t.blk)).map aJ)=(Xf b q m (.slice a n c) W D R aX Ts ms mo).rowT:=by
  unfold SG.rowT Xf
  simp only[List.length_map,List.map_map]
  rfl
 have hso:Has lo w ([iH ms []]++[fH mo []]):=aA.2 ⟨hs1,ho1,IE d1⟩
 have htg:kR [1,1] ([iH ms []]++[fH mo []]):=(kR.akn _ _).app (kR.agq _ _)
 have hto:Has lo w ((Ts.map qO).flatMap yO.res++([iH ms []]++[fH mo []])):=aA.2 ⟨ht1,hso,ji ht1 hso ht2 htg (by decide)⟩
 have hrt:Has lo w (dh 147 1 aX (Ts.map (fun t=>t.blk)).length ((Ts.map (fun t=>t.blk)).map aJ)++((Ts.map qO).flatMap yO.res++([iH ms []]++[fH mo []]))):=aA.2 ⟨hr1,hto,ji hr1 hto (kR.row _ _ _ _ _) (ht2.app htg) (by decide)⟩
 have hqr:Lc ([qJ q []]++[kG m []]) (dh 147 1 aX (Ts.map (fun t=>t.blk)).length ((Ts.map (fun t=>t.blk)).map aJ)++((Ts.map qO).flatMap yO.res++([iH ms []]++[fH mo []]))) :=
  Xh (ji hq1 hrt (kR.uH _ _) ((kR.row _ _ _ _ _).app (ht2.app htg)) (by decide)) (og (ji hw1 hr1 (kR.wait _ _) (kR.row _ _ _ _ _) (by decide)) (og (ji hw1 ht1 (kR.wait _ _) ht2 (by decide)) (og (IE (Ne.symm d2)) (IE (Ne.symm d3)))))
 have hqq:=aA.2 ⟨hqs,hrt,hqr⟩
 have PG:kR ([105 + 2]++(([0]++[1])++([147 + 2]++([149 + 2,64 + 2]++[1,1])))) _:=(kR.blk b 105 (Xf b q m (.slice a n c) W D R aX Ts ms mo).cells).app (((kR.uH q []).app (kR.wait m [])).app ((kR.row 147 1 aX (Ts.map (fun t=>t.blk)).length ((Ts.map (fun t=>t.blk)).map aJ)).app (ht2.app htg)))
 have hall:=aA.2 ⟨hbl,hqq,ji hbl hqq (kR.blk _ _ _) (((kR.uH q []).app (kR.wait m [])).app ((kR.row _ _ _ _ _).app (ht2.app htg))) (by decide)⟩
 rw[eT] at hall PG
 refine⟨Xf b q m (.slice a n c) W D R aX Ts ms mo,X,⟨hall,?_,?_,(fun s hs=>by cases hs),Or.inl ⟨rfl,rfl,rfl⟩⟩,?_,⟨rfl,rfl,rfl⟩,hBx,hlx,fun y hy o ho=>?_,hp,hI,OD.of h4 hp hl,Iu hp,OL h4 hp (Iu hp)⟩
 ·show eX 1 aX (Ts.map qO).length ((Ts.map qO).map (fun t=>aJ t.blk))
  simp only[List.length_map,List.map_map] at hr2 ⊢
  exact hr2
 ·intro t ht
  obtain⟨y,hy,rfl⟩:=List.mem_map.1 ht
  have:=(hT.kept y hy).1
  rw[(hTR.fresh y hy).2.1] at this
  exact⟨(jR this (by decide)).2,fun k hk=>by cases hk⟩
 ·have e1:(Ts.map qO).map yO.t=(Ts.map (fun t=>(t.name,t.base))).map (fun x=>(⟨x.1,x.2,0,[],false⟩:Tj)):=by rw[List.map_map,List.map_map];rfl
  have e2:(X.filter (fun x=>x.it.kind==2)).map (fun x=>(x.it.name.text,cellText x.it.base))=(zY.filter (fun x=>x.kind==2)).map (fun x=>(x.name.text,cellText x.base)):=by
   rw[← uh hp,List.filter_map,List.map_map];rfl
  have e3:=of_decide_eq_true (show decide _=true from ags)
  show (⟨0,false,false,[],(Ts.map qO).map yO.t,none,false,0,[],0,[]⟩:SP)=_
  rw[e1,hTR.map,e2,e3]
  rfl
 ·have:=PG y hy o ho
  simp only[List.mem_append,List.mem_cons,List.not_mem_nil,or_false] at this ⊢
  omega
structure acV(lo:Nat)(w:World)(x W D R tok:Nat)(g:CG)(X:List aO):Prop where
 cli:Cli lo w g
 st:g.st=(WP.init W tok).c
 cf:g.W=W∧g.D=D∧g.R=R
 bx:aK w x 84 [aJ g.b]
 lx:lo≤x
 tg:kR [96 + 2,0,1] g.res
 ps:(aV bH).1=some (X.map (fun x=>x.it))
 pi:dK w lo g.iv X
 xs:OD X∧Plain X∧QZ (tyP X)
theorem ZV{lo:Nat}{w:World}{W D R x tok:Nat}(h:Pz bH W D R tok lo w x):∃ g X,acV lo w x W D R tok g X:=by
 obtain⟨b,a,n,c,q,m,X,hBx,hlx,hA,hcf,h4,hp,hl,hI,hb,hq,hm,hE⟩:=h
 have hbl:Has lo w [iO b 96 (CG.cells ⟨b,q,m,.slice a n c,W,D,R,0,false,false,[],tok,0,0,0,.slice none 0 0,[],0,.slice none 0 0,[],0,.slice none 0 0,[],0⟩)]:=dH hb hE.blk (by decide)
 have hqs:=pO hq hm hE.uH hE.AL
 have hT:kR ([0]++[1]) ([qJ q []]++[kG m []]):=(kR.uH q []).app (kR.wait m [])
 have hall:=aA.2 ⟨hbl,hqs,ji hbl hqs (kR.blk _ _ _) hT (by decide)⟩
 have PG:=(kR.blk b 96 (CG.cells ⟨b,q,m,.slice a n c,W,D,R,0,false,false,[],tok,0,0,0,.slice none 0 0,[],0,.slice none 0 0,[],0,.slice none 0 0,[],0⟩)).app hT
 have er:(CG.res ⟨b,q,m,.slice a n c,W,D,R,0,false,false,[],tok,0,0,0,.slice none 0 0,[],0,.slice none 0 0,[],0,.slice none 0 0,[],0⟩)=[iO b 96 (CG.cells ⟨b,q,m,.slice a n c,W,D,R,0,false,false,[],tok,0,0,0,.slice none 0 0,[],0,.slice none 0 0,[],0,.slice none 0 0,[],0⟩)]++([qJ q []]++[kG m []]):=rfl
 refine⟨⟨b,q,m,.slice a n c,W,D,R,0,false,false,[],tok,0,0,0,.slice none 0 0,[],0,.slice none 0 0,[],0,.slice none 0 0,[],0⟩,X,⟨by rw[er];exact hall,Or.inl ⟨rfl,rfl,rfl⟩,Or.inl ⟨rfl,rfl,rfl⟩,Or.inl ⟨rfl,rfl,rfl⟩,fun m hm=>by cases hm⟩,rfl,⟨rfl,rfl,rfl⟩,hBx,hlx,by rw[er];exact PG,hp,hI,OD.of h4 hp hl,Iu hp,OL h4 hp (Iu hp)⟩
structure Xi(lo:Nat)(w:World)(W D R tok:Nat)(g:WG)(XC XS:List aO):Prop where
 jO:jh lo XC XS w g (WP.init W tok)
 cf:g.D=D∧g.R=R
 pc:(aV bH).1=some (XC.map (fun x=>x.it))
 ps:(aV bH).1=some (XS.map (fun x=>x.it))
theorem ZW{lo:Nat}{w1 w2 w3:World}{W D R tok xs xc:Nat}(hS:PD bH W D R lo w1 xs)(hb2:Below w1.heap.size w1 w2)(hC:Pz bH W D R tok w1.heap.size w2 xc)(hb3:Below w2.heap.size w2 w3)
  (hB:aK w3 w2.heap.size 39 [aJ xs,aJ xc,.int .i64 W,.int .i64 D,.int .i64 R,.int .i64 0,.int .i64 0,.int .i64 0,.slice none 0 0,.slice none 0 0,.slice none 0 0,.slice none 0 0,.slice none 0 0,.bool false,.bool false,.bool false,.slice none 0 0,.slice none 0 0,.int .i64 0,.int .i64 0,.int .i64 0,.bool false,.bool false])
  (hlo:lo≤w1.heap.size) (hE:Env w3) (hO:∀ k,lo≤k→Own k) (hW:W≤8) (hD:4≤D):∃ g XC XS,Xi lo w3 W D R tok g XC XS∧g.b=w2.heap.size:=by
 obtain⟨sg,XS,nS⟩:=ZU tok hS
 obtain⟨cg,XC,nC⟩:=ZV hC
 have s12:=hb2.size
 have s23:=hb3.size
 have hS3:Srv lo w3 sg:=(nS.srv.below hb2).below hb3
 have hc3:=nC.cli.below hb3
 have ako:∀ {G:List fM},Has w1.heap.size w3 G→Has lo w3 G:=fun h=>⟨h.nodup,fun p hp=>⟨Nat.le_trans hlo (h.all p hp).1,(h.all p hp).2⟩⟩
 have ZB:Cli lo w3 cg:=⟨ako hc3.has,hc3.ra,hc3.rs,hc3.rc,hc3.rv⟩
 have hBS:Has lo w3 [iO xs 79 [aJ sg.b]]:=dH nS.lx ((nS.bx.below hb2).below hb3) (by decide)
 have TB:Has lo w3 [iO xc 84 [aJ cg.b]]:=dH (Nat.le_trans hlo nC.lx) (nC.bx.below hb3) (by decide)
 have hBW:=dH (lo:=lo) (by omega) hB (by decide)
 have kS:∀ k,Key sg.res k→k<w1.heap.size:=fun k hk=>(nS.srv.has.lt hk).2
 have kC:∀ k,Key cg.res k→w1.heap.size≤k∧k<w2.heap.size:=fun k hk=>nC.cli.has.lt hk
 have lxs:=nS.bx.lt
 have lxc:=nC.bx.lt
 have hSC:Has lo w3 (sg.res++cg.res):=aA.2 ⟨hS3.has,ZB.has,Xe kS (fun k hk=>(kC k hk).1)⟩
 have hc1:Has lo w3 ([iO xc 84 [aJ cg.b]]++(sg.res++cg.res)):=aA.2 ⟨TB,hSC,og (ji TB hS3.has (kR.blk _ _ _) nS.tg (by decide)) (ji TB ZB.has (kR.blk _ _ _) nC.tg (by decide))⟩
 have hs1:Has lo w3 ([iO xs 79 [aJ sg.b]]++([iO xc 84 [aJ cg.b]]++(sg.res++cg.res))):=aA.2 ⟨hBS,hc1,og (ji hBS TB (kR.blk _ _ _) (kR.blk _ _ _) (by decide)) (og (ji hBS hS3.has (kR.blk _ _ _) nS.tg (by decide)) (ji hBS ZB.has (kR.blk _ _ _) nC.tg (by decide)))⟩
 have hw1:=aA.2 ⟨hBW,hs1,(Xe (n:=w2.heap.size) (A:=[iO xs 79 [aJ sg.b]]++([iO xc 84 [aJ cg.b]]++(sg.res++cg.res))) (fun k hk=>by
  rcases Key.app.1 hk with h | h
  ·have h:k=xs:=Key.one.1 h
   omega
  ·rcases Key.app.1 h with h | h
   ·have h:k=xc:=Key.one.1 h
    omega
   ·rcases Key.app.1 h with h | h
    ·have:=kS k h;omega
    ·exact(kC k h).2) (fun k hk=>by
  have h:k=w2.heap.size:=Key.one.1 hk
  omega)).symm⟩
 let g:WG:=⟨w2.heap.size,xs,xc,sg,cg,W,D,R,0,0,0,.slice none 0 0,[],.slice none 0 0,[],.slice none 0 0,[],.slice none 0 0,[],.slice none 0 0,[],false,false,false,.slice none 0 0,[],.slice none 0 0,[],0,0,0,false,false⟩
 have er:g.res=[iO w2.heap.size 39 g.cells]++([iO xs 79 [aJ sg.b]]++([iO xc 84 [aJ cg.b]]++(sg.res++(cg.res++[])))):=rfl
 rw[List.append_nil] at er
 refine⟨g,XC,XS,⟨⟨⟨by rw[er];exact hw1,hS3,ZB,Or.inl ⟨rfl,rfl,rfl⟩,Or.inl ⟨rfl,rfl,rfl⟩,(fun m hm=>by cases hm),(fun m hm=>by cases hm),Or.inl ⟨rfl,rfl,rfl⟩,Or.inl ⟨rfl,rfl,rfl⟩,Or.inl ⟨rfl,rfl,rfl⟩,Or.inl ⟨rfl,rfl,rfl⟩,Or.inl ⟨rfl,rfl,rfl⟩,nS.cf,nC.cf⟩,?_,⟨rfl,rfl,hW⟩,by omega,hD,?_,?_⟩,⟨rfl,rfl⟩,nC.ps,nS.ps⟩,rfl⟩
 ·show (⟨sg.st,cg.st,W,D,R,0,0,0,[],[],[],[],[],false,false,false,[],[],0,0,0,false,false⟩:WP)=_
  rw[nS.st,nC.st]
  rfl
 ·exact⟨⟨_,nC.pi.below hb3⟩,nC.xs.1,nC.xs.2.1,nC.xs.2.2,hE,hO⟩
 ·exact⟨⟨_,(nS.pi.below hb2).below hb3⟩,nS.xs.1,nS.xs.2.1,nS.xs.2.2,hE,hO⟩
theorem lI.keep{lo:Nat}{w w':World}{g:WG}{F:Nat→Prop}(h:lI lo w g)(hc:aG F w w')(hn:∀ k,F k→¬ Key g.res k):lI lo w' g:=by
 have kS:∀ k,Key g.sg.res k→Key g.res k:=fun k hk=>by
  unfold WG.res
  simp only[Key.app]
  exact Or.inr (Or.inr (Or.inr (Or.inl hk)))
 have kC:∀ k,Key g.cg.res k→Key g.res k:=fun k hk=>by
  unfold WG.res
  simp only[Key.app]
  exact Or.inr (Or.inr (Or.inr (Or.inr (Or.inl hk))))
 exact⟨h.has.keep hc (fun k hk e=>hn k e hk),⟨h.srv.has.keep hc (fun k hk e=>hn k e (kS k hk)),h.srv.rt,h.srv.tp,h.srv.ss,h.srv.rw⟩,⟨h.cli.has.keep hc (fun k hk e=>hn k e (kC k hk)),h.cli.ra,h.cli.rs,h.cli.rc,h.cli.rv⟩,h.rs,h.rc,h.fs,h.fc,h.r0,h.r1,h.r2,h.rt,h.ra,h.vM,h.zX⟩
theorem yZ{lo lo':Nat}{w:World}{G:List fM}(h:Has lo w G)(hl:lo'≤lo):Has lo' w G:=⟨h.nodup,fun p hp=>⟨Nat.le_trans hl (h.all p hp).1,(h.all p hp).2⟩⟩
theorem jh.lower{lo lo':Nat}{XC XS:List aO}{w:World}{g:WG}{p:WP}(h:jh lo XC XS w g p)(hl:lo'≤lo)(hO:∀ k,lo'≤k→Own k):jh lo' XC XS w g p :=
 ⟨⟨yZ h.wld.has hl,⟨yZ h.wld.srv.has hl,h.wld.srv.rt,h.wld.srv.tp,h.wld.srv.ss,h.wld.srv.rw⟩,⟨yZ h.wld.cli.has hl,h.wld.cli.ra,h.wld.cli.rs,h.wld.cli.rc,h.wld.cli.rv⟩,h.wld.rs,h.wld.rc,h.wld.fs,h.wld.fc,h.wld.r0,h.wld.r1,h.wld.r2,h.wld.rt,h.wld.ra,h.wld.vM,h.wld.zX⟩,h.st,h.cf,Nat.le_trans hl h.hl,h.D,⟨h.sc.i,h.sc.xo,h.sc.pl,h.sc.ty,h.sc.env,hO⟩,⟨h.ss.i,h.ss.xo,h.ss.pl,h.ss.ty,h.ss.env,hO⟩⟩
structure Two(lo:Nat)(XC XS YC YS:List aO)(w:World)(g v:WG)(p q:WP):Prop where
 a:jh lo XC XS w g p
 b:jh lo YC YS w v q
 d:∀ k,Key g.res k→¬ Key v.res k
theorem Two.symm{lo:Nat}{XC XS YC YS:List aO}{w:World}{g v:WG}{p q:WP}(h:Two lo XC XS YC YS w g v p q):Two lo YC YS XC XS w v g q p:=⟨h.b,h.a,fun k h1 h2=>h.d k h2 h1⟩
theorem Two.fst{lo:Nat}{XC XS YC YS:List aO}{w w':World}{g v g':WG}{p q p':WP}(h:Two lo XC XS YC YS w g v p q)(k:mg lo XC XS w g p' w' g'):Two lo XC XS YC YS w' g' v p' q:=by
 have hn:∀ i,Key g.res i→¬ Key v.res i:=h.d
 refine⟨k.jO,⟨h.b.wld.keep k.grow.c hn,h.b.st,h.b.cf,Nat.le_trans h.b.hl k.grow.c.size,h.b.D,h.b.sc.keep h.a.wld.has k.grow.c,h.b.ss.keep h.a.wld.has k.grow.c⟩,fun i h1 h2=>?_⟩
 rcases k.grow.k i h1 with e | e
 ·exact h.d i e h2
 ·have:=(h.b.wld.has.lt h2).2
  omega
theorem Two.snd{lo:Nat}{XC XS YC YS:List aO}{w w':World}{g v v':WG}{p q q':WP}(h:Two lo XC XS YC YS w g v p q)(k:mg lo YC YS w v q' w' v'):Two lo XC XS YC YS w' g v' p q':=(h.symm.fst k).symm
theorem Two.below{lo:Nat}{XC XS YC YS:List aO}{w w':World}{g v:WG}{p q:WP}(h:Two lo XC XS YC YS w g v p q)(hb:Below w.heap.size w w'):Two lo XC XS YC YS w' g v p q:=⟨h.a.below hb,h.b.below hb,h.d⟩
def PI(W D R tok:Nat)(w:World)(e:Ending)(w':World):Prop:=∃ g XC XS,e=.returned (.tuple #[.pointer (some ⟨g.b,0,none⟩),.bool true])∧Xi w.heap.size w' W D R tok g XC XS∧Below w.heap.size w w'
theorem Xj(window deadline retain:Int)(tok:Nat)(ht:tok≤10)(h1:-9223372036854775808≤window∧window≤9223372036854775807)(h2:-9223372036854775808≤deadline∧deadline≤9223372036854775807)(h3:-9223372036854775808≤retain∧retain≤9223372036854775807)(w:World)(hE:Env w)(hO:∀ k,w.heap.size≤k→Own k):
  Calls Tryz.prog 4 #[.int .i64 window,.int .i64 deadline,.int .i64 retain,.int .i64 tok] w (PI (1+jK window 8) (4+jK deadline 20) (1+jK retain 16) tok w):=by
 have jJ:=hid (pick_any window 8 w (by decide) (by unfold maxLen;omega) h1)
 have HP2:=hid (pick_any deadline 20 w (by decide) (by unfold maxLen;omega) h2)
 have iR:=hid (pick_any retain 16 w (by decide) (by unfold maxLen;omega) h3)
 have l1:=oO window (n:=8) (by decide)
 have l2:=oO deadline (n:=20) (by decide)
 have l3:=oO retain (n:=16) (by decide)
 obtain⟨W,hW⟩:∃ W,jK window 8=W:=⟨_,rfl⟩
 obtain⟨D,hD⟩:∃ D,jK deadline 20=D:=⟨_,rfl⟩
 obtain⟨R,hR⟩:∃ R,jK retain 16=R:=⟨_,rfl⟩
 rw[hW] at jJ l1 ⊢
 rw[hD] at HP2 l2 ⊢
 rw[hR] at iR l3 ⊢
 have HE:=hid hE
 have HO:=hid hO
 clear hE hO hW hD hR h1 h2 h3
 obtain⟨W1,HW1⟩:∃ W1:Nat,Hid (1+W=W1):=⟨_,hid rfl⟩
 obtain⟨D1,HD1⟩:∃ D1:Nat,Hid (4+D=D1):=⟨_,hid rfl⟩
 obtain⟨R1,HR1⟩:∃ R1:Nat,Hid (1+R=R1):=⟨_,hid rfl⟩
 rw[HW1.out,HD1.out,HR1.out]
 have eW:(1:Int)+(W:Int)=(W1:Int):=by have:=HW1.out;omega
 have eD:(4:Int)+(D:Int)=(D1:Int):=by have:=HD1.out;omega
 have eR:(1:Int)+(R:Int)=(R1:Int):=by have:=HR1.out;omega
 have HCf:=hid (show gY (W1:Int) (D1:Int) (R1:Int)=true by
  have h1:=HW1.out
  have h2:=HD1.out
  have h3:=HR1.out
  unfold gY Iz
  simp
  omega)
 have hbw0:Below w.heap.size w (w.alloc (.cells #[.int .i64 W1,.int .i64 D1,.int .i64 R1] 28)):=(Below.refl _ _).alloc (Nat.le_refl _) _
 have au:aK (w.alloc (.cells #[.int .i64 W1,.int .i64 D1,.int .i64 R1] 28)) w.heap.size 28 [.int .i64 W1,.int .i64 D1,.int .i64 R1]:=heap_alloc_new w _
 obtain⟨w0,dw⟩:∃ w0,w.alloc (.cells #[.int .i64 W1,.int .i64 D1,.int .i64 R1] 28)=w0:=⟨_,rfl⟩
 rw[dw] at hbw0 au
 have c0:w0.cell? ⟨w.heap.size,0,none⟩=some (.int .i64 W1):=au.cell 0
 have c1:w0.cell? ⟨w.heap.size,1,none⟩=some (.int .i64 D1):=au.cell 1
 have c2:w0.cell? ⟨w.heap.size,2,none⟩=some (.int .i64 R1):=au.cell 2
 have HE0:=hid (HE.out.below hbw0)
 have Hb0:=hid hbw0
 have HB0:=hid au
 clear hbw0 au
 go_enter func4,ntmps4
 go_wp2_with fail
 refine jJ.out.mono ?_;rintro e wx ⟨rfl,hwx⟩;rw[hwx];clear hwx wx
 go_wp2_with fail
 refine HP2.out.mono ?_;rintro e wx ⟨rfl,hwx⟩;rw[hwx];clear hwx wx
 go_wp2_with fail
 refine iR.out.mono ?_;rintro e wx ⟨rfl,hwx⟩;rw[hwx];clear hwx wx
 go_wp2_with fail
 refine(NV bH W1 D1 R1 w0 HE0.out (by have:=szK;unfold maxLen;omega)).mono ?_
 rintro e w1 ⟨hb1,⟨rfl,E,P,hA,hne⟩ | ⟨rfl,hA,hO⟩ | ⟨xs,rfl,hS⟩⟩
 ·exact absurd (notE hA) hne
 ·rw[HCf.out] at hO;cases hO
 have HB1:=hid (HB0.out.below hb1)
 have a0:w1.cell? ⟨w.heap.size,0,none⟩=some (.int .i64 W1):=HB1.out.cell 0
 have a1:w1.cell? ⟨w.heap.size,1,none⟩=some (.int .i64 D1):=HB1.out.cell 1
 have a2:w1.cell? ⟨w.heap.size,2,none⟩=some (.int .i64 R1):=HB1.out.cell 2
 have HS:=hid hS
 have EI:=hid (HE0.out.below hb1)
 have Hb1:=hid (Hb0.out.trans (hb1.mono Hb0.out.size))
 have Hsz:=hid (show w.heap.size≤w0.heap.size∧w0.heap.size≤w1.heap.size from⟨Hb0.out.size,hb1.size⟩)
 clear hS hb1
 go_wp2_with fail
 refine(NU bH W1 D1 R1 tok w1 EI.out (by have:=szK;unfold maxLen;omega)).mono ?_
 rintro e w2 ⟨hb2,⟨rfl,E,P,hA,hne⟩ | ⟨rfl,hA,hO⟩ | ⟨xc,rfl,hC⟩⟩
 ·exact absurd (notE hA) hne
 ·rw[HCf.out] at hO;cases hO
 have HB2:=hid (HB1.out.below hb2)
 have e0:w2.cell? ⟨w.heap.size,0,none⟩=some (.int .i64 W1):=HB2.out.cell 0
 have e1:w2.cell? ⟨w.heap.size,1,none⟩=some (.int .i64 D1):=HB2.out.cell 1
 have e2:w2.cell? ⟨w.heap.size,2,none⟩=some (.int .i64 R1):=HB2.out.cell 2
 have HC:=hid hC
 have HE2:=hid (EI.out.below hb2)
 have Hb2:=hid hb2
 clear hC hb2
 go_wp2_with fail
 have hb3:Below w2.heap.size w2 (w2.alloc (.cells #[aJ xs,aJ xc,.int .i64 W1,.int .i64 D1,.int .i64 R1,.int .i64 0,.int .i64 0,.int .i64 0,.slice none 0 0,.slice none 0 0,.slice none 0 0,.slice none 0 0,.slice none 0 0,.bool false,.bool false,.bool false,.slice none 0 0,.slice none 0 0,.int .i64 0,.int .i64 0,.int .i64 0,.bool false,.bool false] 39)):=(Below.refl _ _).alloc (Nat.le_refl _) _
 obtain⟨g,XC,XS,hN,hgb⟩:=ZW HS.out Hb2.out HC.out hb3 (heap_alloc_new w2 _) Hsz.out.2 (HE2.out.below hb3) (fun k hk=>HO.out k (Nat.le_trans Hsz.out.1 hk)) (by have:=HW1.out;omega) (by have:=HD1.out;omega)
 have Ih:=(Hb1.out.trans (Hb2.out.mono Hb1.out.size)).trans (hb3.mono (Nat.le_trans Hb1.out.size Hb2.out.size))
 have HFin:=hid (show PI W1 D1 R1 tok w (.returned (.tuple #[.pointer (some ⟨w2.heap.size,0,none⟩),.bool true])) _ from⟨g,XC,XS,by rw[hgb],⟨hN.jO.lower Hsz.out.1 HO.out,hN.cf,hN.pc,hN.ps⟩,Ih⟩)
 go_ret2
 exact HFin.out
structure Aw(p p':WP)(i:Nat)(q:QT):Prop where
 qt:qN[i]? = some q
 cs:csB p.c=true
 nc:p.c.oD p.W=false
 le:p.calls.length=i
 cd:p.c.called=i
 ak:l9 p.calls+1≤p.W
 eq:p' = { p with c:=p.c.call q.name q.ans ⟨q.enc.toArray⟩,calls:=p.calls++[⟨q.name,q.value,⟨#[]⟩,-1,0⟩] }
theorem DK{p p':WP}{i:Nat}(h:p.xR i=some p'):∃ q,Aw p p' i q:=by
 unfold WP.xR at h
 rcases Option.eq_none_or_eq_some qN[i]? with e | ⟨q,e⟩
 ·rw[e] at h;cases h
 ·rw[e] at h
  simp only at h
  split at h
  ·rename_i hB
   simp only[Bool.and_eq_true,decide_eq_true_eq,Bool.not_eq_true'] at hB
   obtain⟨⟨⟨⟨b1,b2⟩,b3⟩,b4⟩,b5⟩:=hB
   exact⟨q,e,b1,b2,b3,b4,b5,(Option.some.inj h).symm⟩
  ·cases h
theorem F5(l:List uq)(x:uq)(h:x.ended=0):l9 (l++[x])=l9 l+1:=by
 unfold l9
 rw[List.filter_append,List.length_append]
 simp[h]
theorem Xk{lo:Nat}{XC XS:List aO}{w:World}{g:WG}{p p':WP}{i:Nat}{q:QT}(h:jh lo XC XS w g p)(hX:(aV bH).1=some (XC.map (fun x=>x.it)))(hY:Aw p p' i q):
  Calls Tryz.prog 18 #[.pointer (some ⟨g.cb,0,none⟩),.string q.name,.string q.value] w (fun e w'=>e=.returned (.tuple #[.int .i64 i,.int .i64 0])∧∃ qP,gG lo w g.cg (p.c.call q.name q.ans ⟨q.enc.toArray⟩) w' qP):=by
 have hQ:=qOk hX (KQ hY.qt)
 obtain⟨k,x,hf,hx,hn,hb,ha⟩:=hQ.ex
 obtain⟨hS,hst,hcd⟩:=Dx hY.cs
 have ecd:g.cg.called=p.c.called:=congrArg CP.called h.c
 have hC:=afc h.wld.cli (by rw[h.c];exact hS) h.hl h.sc q.name x q.base q.ans k hf hx hb ha (by rw[ecd];omega) q.value (by have:=hQ.le.2.2.1;unfold maxLen;omega) (by rw[hn];exact hQ.nm.2.2.2.2) q.enc hQ.aj0 hQ.le.1
 have eW:g.cg.W=p.W:=h.wld.zX.1.trans h.gW
 rw[h.c,eW,hY.nc,hn,ecd,hY.cd] at hC
 refine(acs w g.cb g.cg.b (h.wld.aU.cell 0) q.name q.value (fun n z w'=>n=i∧z=0∧∃ qP,gG lo w g.cg (p.c.call q.name q.ans ⟨q.enc.toArray⟩) w' qP) (hC.mono ?_)).mono ?_
 ·rintro e w' (⟨hx,_⟩ | ⟨_,rfl,hh⟩)
  ·cases hx
  ·exact⟨i,0,rfl,rfl,rfl,hh⟩
 ·rintro e w' ⟨n,z,rfl,rfl,rfl,hh⟩
  exact⟨rfl,hh⟩
theorem wpList_append_run{ops:Array Oper}{rest:List Oper}{o:Oper}{a:Act}{w:World}{Q:Exit→Act→World→Prop}(hgd:o.guard=none)(s x:Operand)(t:TypeId)(ho:o.op=.call { callee:=.builtin .append,args:=#[s,x],argTypes:=#[t,t] })(v1 v2:Value)(hs:a.eval s=v1)(hx:a.eval x=v2)(v:Value)(w':World)(hr:(Builtin.append_ #[t,t] o.type #[v1,v2]).run Tryz.prog w=.ok v w')(h:wpList Tryz.prog ops Q rest (a.put o.dst v) w'):wpList Tryz.prog ops Q (o::rest) a w :=
 wpList_plain hgd fun _ hK=>by
  unfold Oper.wp execOp
  simp only[ho,resolve,invoke,builtin,Sem.run_bind,Sem.run_pure,Result.andThen_ok,List.map_toArray,List.map_cons,List.map_nil,hs,hx,hr]
  exact hK _ _ h
theorem acW{lo:Nat}{XC XS:List aO}{w:World}{g:WG}{p p':WP}{i:Nat}{q:QT}(h:jh lo XC XS w g p)(hX:(aV bH).1=some (XC.map (fun x=>x.it)))(hY:Aw p p' i q)(hpar:i % 2=0):
  Calls Tryz.prog 7 #[.pointer (some ⟨g.b,0,none⟩),.agg #[.int .i64 0,.int .i64 i,.int .i64 0,.int .i64 0]] w (fun e w'=>e=.returned (.bool true)∧∃ g',mg lo XC XS w g p' w' g'):=by
 obtain⟨hi8,hv0,hv1,_⟩:=acE hY.qt
 obtain⟨hnm,hvl,_⟩:=hv0 hpar
 have hbw0:Below w.heap.size w (w.alloc (.cells #[.int .i64 0,.int .i64 i,.int .i64 0,.int .i64 0] 42)):=(Below.refl _ _).alloc (Nat.le_refl _) _
 have au:aK (w.alloc (.cells #[.int .i64 0,.int .i64 i,.int .i64 0,.int .i64 0] 42)) w.heap.size 42 [.int .i64 0,.int .i64 i,.int .i64 0,.int .i64 0]:=heap_alloc_new w _
 obtain⟨w0,dw⟩:∃ w0,w.alloc (.cells #[.int .i64 0,.int .i64 i,.int .i64 0,.int .i64 0] 42)=w0:=⟨_,rfl⟩
 rw[dw] at hbw0 au
 have h0:=h.below hbw0
 obtain⟨ca,cc,hcv⟩:=h0.wld.ra.slice
 have eL:g.calls.length=i:=by rw[h.eP];exact hY.le
 rw[eL] at hcv
 have Jc:w0.cell? ⟨g.b,17,none⟩=some (.slice ca i cc):=(show w0.cell? ⟨g.b,17,none⟩=some g.kX from h0.wld.blk.cell 17).trans (by rw[hcv])
 have ZT:=hid (KN i (by omega) w0 h0.tab)
 have H0:=hid h0
 have H:=hid h
 have HX:=hid hX
 have HY:=hid hY
 have uI:=hid hcv
 have Xd:=hid eL
 have HB0:=hid au
 have Hb0:=hid hbw0
 have WO:=hid hnm
 have HVl:=hid hvl
 have hmod:((i:Int).tmod 2 != 0)=false:=by rw[Int.tmod_eq_emod_of_nonneg (by omega)];simp;omega
 clear h h0 hX hY hcv eL au hbw0 hv0 hv1 hnm hvl
 go_enter func7,ntmps7
 go_wp2_with fail
 refine ZT.out.mono ?_;rintro e wa ⟨ta,rfl,hba,hta,_⟩
 have da1:wa.cell? ⟨w.heap.size,1,none⟩=some (.int .i64 i):=(HB0.out.below hba).cell 1
 obtain rfl:ta=q.value:=ug (hta.trans HVl.out.symm)
 have hb1:=hba
 obtain⟨w1,rfl⟩:∃ w1,w1=wa:=⟨_,rfl⟩
 clear hba hta
 have H1:=hid (H0.out.below hb1)
 have Hb1:=hid hb1
 have k1:w1.cell? ⟨g.b,1,none⟩=some (.pointer (some ⟨g.cb,0,none⟩)):=H1.out.wld.blk.cell 1
 have Xr:=hid (Xk H1.out HX.out HY.out)
 rw[WO.out] at Xr
 obtain⟨V,hV⟩:∃ V,q.value=V:=⟨_,rfl⟩
 rw[hV] at Xr ⊢
 have HVV:=hid hV
 clear hb1 hV
 go_wp2_with fail
 refine Xr.out.mono ?_;rintro e w2 ⟨rfl,Ar,h2⟩
 have hT2:=H1.out.wld.oL h2
 have Jw:=hid h2.st
 have hbN:Below w2.heap.size w2 (w2.alloc (.cells #[.string ⟨#[97,100,100]⟩,.string V,.string ⟨#[]⟩,.int .i64 (-1),.int .i64 0] 48)):=(Below.refl _ _).alloc (Nat.le_refl _) _
 have hl2:lo≤w2.heap.size:=Nat.le_trans H1.out.hl hT2.grow.c.size
 obtain⟨a',c',w7,RU,Tz,hf7,Sl,OX⟩:=(hT2.wld.below hbN).afV (Nat.le_trans hl2 hbN.size) (by show g.calls.length≤1000000;rw[Xd.out];omega) (nb:=w2.heap.size) (T:=48) (x:=⟨⟨#[97,100,100]⟩,V,⟨#[]⟩,-1,0⟩) (heap_alloc_new w2 _) (aa:=ca) (ac:=cc) (by show g.kX=.slice ca g.calls.length cc;rw[uI.out,Xd.out])
 have akr:w2.cell? ⟨g.b,17,none⟩=some (.slice ca i cc):=(show w2.cell? ⟨g.b,17,none⟩=some g.kX from hT2.wld.blk.cell 17).trans (by rw[uI.out])
 have eL2:({ g with cg:=Ar }:WG).calls.length=i:=Xd.out
 rw[eL2] at RU Tz OX
 have HR7:=hid RU
 have ZX:=(hT2.below hbN).trans OX
 obtain⟨w8,hw8⟩:∃ w8,w7.setCell ⟨g.b,17,none⟩ (.slice a' (i+1) c')=w8:=⟨_,rfl⟩
 have Xl:w7.setCell ⟨({ g with cg:=Ar }:WG).b,17,none⟩ (.slice a' (i+1) c')=w8:=hw8
 rw[Xl] at ZX
 have Dn:=hid ZX
 have c17:w7.cell? ⟨g.b,17,none⟩=some (.slice ca i cc):=Tz
 have f17:w7.frozen? ⟨g.b,17,none⟩=false:=hf7
 have w2c:w8.cell? ⟨g.b,2,none⟩=some (.int .i64 g.W):=ZX.wld.blk.cell 2
 clear hT2 hbN RU Tz hf7 Sl OX ZX h2 eL2 Xl
 have HW8:=hid hw8
 go_wp2_with (at_builtin;refine wpList_append_run rfl (.tmp 70) (.tmp 74) 36 rfl _ _ rfl rfl _ w7 HR7.out ?_)
 have HAk:=hid (show l9 (g.calls++[⟨⟨#[97,100,100]⟩,V,⟨#[]⟩,-1,0⟩])≤g.W by
  rw[F5 _ _ rfl,H.out.eP,H.out.gW]
  exact HY.out.ak)
 have HAs:=hid (Ii Dn.out.wld.drew (by
  show (g.calls++[(⟨⟨#[97,100,100]⟩,V,⟨#[]⟩,-1,0⟩:uq)]).length≤100000
  rw[List.length_append,Xd.out]
  simp;omega))
 obtain⟨An,hAn⟩:∃ An,l9 (g.calls++[(⟨⟨#[97,100,100]⟩,V,⟨#[]⟩,-1,0⟩:uq)])=An:=⟨_,rfl⟩
 have acX:=hid (show Calls Tryz.prog 19 #[.pointer (some ⟨g.b,0,none⟩)] w8.drew (fun e w'=>e=.returned (.int .i64 An)∧w'=w8.drew) by rw[← hAn];exact HAs.out)
 have hAI:(An:Int)≤(g.W:Int):=by have:=HAk.out;rw[hAn] at this;omega
 have b9:((i:Int)==(i:Int))=true:=by simp
 have HFin:=hid ((mg.refl H.out (Hb0.out.trans (Hb1.out.mono Hb0.out.size))).trans (H1.out.to (p':=p') Dn.out.same (by
  have e1:({ g with cg:=Ar,kX:=.slice a' (i+1) c',calls:=g.calls++[⟨⟨#[97,100,100]⟩,V,⟨#[]⟩,-1,0⟩] }:WG).st = { g.st with c:=Ar.st,calls:=g.calls++[⟨⟨#[97,100,100]⟩,V,⟨#[]⟩,-1,0⟩] }:=rfl
  have e2:Ar.st=p.c.call q.name q.ans ⟨q.enc.toArray⟩:=Jw.out.trans (by rw[WO.out])
  rw[e1,e2,H1.out.st,H1.out.eP,HY.out.eq,HVV.out,WO.out]) (by rw[HY.out.eq];exact H1.out.cf)))
 clear hAn
 go_wp2_with fail
 go_region_held3 (fun w'=>w'.cell? ⟨g.b,2,none⟩=some (.int .i64 g.W))
  (first | exact w2c | assumption)
  (first | (go_at_call 19;refine acX.out.mono ?_;rintro e wx ⟨rfl,rfl⟩))
 all_goals
  go_wp2_with fail
  go_ret
  exact⟨rfl,_,HFin.out.below (Below.refl _ w8).drew⟩
theorem acY{lo:Nat}{XC XS:List aO}{w:World}{g:WG}{p p':WP}{i:Nat}{q:QT}(h:jh lo XC XS w g p)(hX:(aV bH).1=some (XC.map (fun x=>x.it)))(hY:Aw p p' i q)(hpar:i % 2≠0):
  Calls Tryz.prog 7 #[.pointer (some ⟨g.b,0,none⟩),.agg #[.int .i64 0,.int .i64 i,.int .i64 0,.int .i64 0]] w (fun e w'=>e=.returned (.bool true)∧∃ g',mg lo XC XS w g p' w' g'):=by
 obtain⟨hi8,hv0,hv1,_⟩:=acE hY.qt
 obtain⟨hnm,hvl,_⟩:=hv1 hpar
 have hbw0:Below w.heap.size w (w.alloc (.cells #[.int .i64 0,.int .i64 i,.int .i64 0,.int .i64 0] 42)):=(Below.refl _ _).alloc (Nat.le_refl _) _
 have au:aK (w.alloc (.cells #[.int .i64 0,.int .i64 i,.int .i64 0,.int .i64 0] 42)) w.heap.size 42 [.int .i64 0,.int .i64 i,.int .i64 0,.int .i64 0]:=heap_alloc_new w _
 obtain⟨w0,dw⟩:∃ w0,w.alloc (.cells #[.int .i64 0,.int .i64 i,.int .i64 0,.int .i64 0] 42)=w0:=⟨_,rfl⟩
 rw[dw] at hbw0 au
 have h0:=h.below hbw0
 obtain⟨ca,cc,hcv⟩:=h0.wld.ra.slice
 have eL:g.calls.length=i:=by rw[h.eP];exact hY.le
 rw[eL] at hcv
 have Jc:w0.cell? ⟨g.b,17,none⟩=some (.slice ca i cc):=(show w0.cell? ⟨g.b,17,none⟩=some g.kX from h0.wld.blk.cell 17).trans (by rw[hcv])
 have ZT:=hid (KN i (by omega) w0 h0.tab)
 have H0:=hid h0
 have H:=hid h
 have HX:=hid hX
 have HY:=hid hY
 have uI:=hid hcv
 have Xd:=hid eL
 have HB0:=hid au
 have Hb0:=hid hbw0
 have WO:=hid hnm
 have HVl:=hid hvl
 have hmod:((i:Int).tmod 2 != 0)=true:=by rw[Int.tmod_eq_emod_of_nonneg (by omega)];simp;omega
 clear h h0 hX hY hcv eL au hbw0 hv0 hv1 hnm hvl
 go_enter func7,ntmps7
 go_wp2_with fail
 refine ZT.out.mono ?_;rintro e wa ⟨ta,rfl,hba,hta,_⟩
 have da1:wa.cell? ⟨w.heap.size,1,none⟩=some (.int .i64 i):=(HB0.out.below hba).cell 1
 have HV2:=hid (yY i (by omega) wa ((H0.out.below hba).tab))
 have Hba:=hid hba
 clear hba hta
 go_wp2_with fail
 refine HV2.out.mono ?_;rintro e w1 ⟨tb,rfl,hb1',htb,_⟩
 obtain rfl:tb=q.value:=ug (htb.trans HVl.out.symm)
 have hb1:=Hba.out.trans (hb1'.mono Hba.out.size)
 clear hb1' htb
 have H1:=hid (H0.out.below hb1)
 have Hb1:=hid hb1
 have k1:w1.cell? ⟨g.b,1,none⟩=some (.pointer (some ⟨g.cb,0,none⟩)):=H1.out.wld.blk.cell 1
 have Xr:=hid (Xk H1.out HX.out HY.out)
 rw[WO.out] at Xr
 obtain⟨V,hV⟩:∃ V,q.value=V:=⟨_,rfl⟩
 rw[hV] at Xr ⊢
 have HVV:=hid hV
 clear hb1 hV
 go_wp2_with fail
 refine Xr.out.mono ?_;rintro e w2 ⟨rfl,Ar,h2⟩
 have hT2:=H1.out.wld.oL h2
 have Jw:=hid h2.st
 have hbN:Below w2.heap.size w2 (w2.alloc (.cells #[.string ⟨#[110,97,109,101]⟩,.string V,.string ⟨#[]⟩,.int .i64 (-1),.int .i64 0] 48)):=(Below.refl _ _).alloc (Nat.le_refl _) _
 have hl2:lo≤w2.heap.size:=Nat.le_trans H1.out.hl hT2.grow.c.size
 obtain⟨a',c',w7,RU,Tz,hf7,Sl,OX⟩:=(hT2.wld.below hbN).afV (Nat.le_trans hl2 hbN.size) (by show g.calls.length≤1000000;rw[Xd.out];omega) (nb:=w2.heap.size) (T:=48) (x:=⟨⟨#[110,97,109,101]⟩,V,⟨#[]⟩,-1,0⟩) (heap_alloc_new w2 _) (aa:=ca) (ac:=cc) (by show g.kX=.slice ca g.calls.length cc;rw[uI.out,Xd.out])
 have akr:w2.cell? ⟨g.b,17,none⟩=some (.slice ca i cc):=(show w2.cell? ⟨g.b,17,none⟩=some g.kX from hT2.wld.blk.cell 17).trans (by rw[uI.out])
 have eL2:({ g with cg:=Ar }:WG).calls.length=i:=Xd.out
 rw[eL2] at RU Tz OX
 have HR7:=hid RU
 have ZX:=(hT2.below hbN).trans OX
 obtain⟨w8,hw8⟩:∃ w8,w7.setCell ⟨g.b,17,none⟩ (.slice a' (i+1) c')=w8:=⟨_,rfl⟩
 have Xl:w7.setCell ⟨({ g with cg:=Ar }:WG).b,17,none⟩ (.slice a' (i+1) c')=w8:=hw8
 rw[Xl] at ZX
 have Dn:=hid ZX
 have c17:w7.cell? ⟨g.b,17,none⟩=some (.slice ca i cc):=Tz
 have f17:w7.frozen? ⟨g.b,17,none⟩=false:=hf7
 have w2c:w8.cell? ⟨g.b,2,none⟩=some (.int .i64 g.W):=ZX.wld.blk.cell 2
 clear hT2 hbN RU Tz hf7 Sl OX ZX h2 eL2 Xl
 have HW8:=hid hw8
 go_wp2_with (at_builtin;refine wpList_append_run rfl (.tmp 70) (.tmp 74) 36 rfl _ _ rfl rfl _ w7 HR7.out ?_)
 have HAk:=hid (show l9 (g.calls++[⟨⟨#[110,97,109,101]⟩,V,⟨#[]⟩,-1,0⟩])≤g.W by
  rw[F5 _ _ rfl,H.out.eP,H.out.gW]
  exact HY.out.ak)
 have HAs:=hid (Ii Dn.out.wld.drew (by
  show (g.calls++[(⟨⟨#[110,97,109,101]⟩,V,⟨#[]⟩,-1,0⟩:uq)]).length≤100000
  rw[List.length_append,Xd.out]
  simp;omega))
 obtain⟨An,hAn⟩:∃ An,l9 (g.calls++[(⟨⟨#[110,97,109,101]⟩,V,⟨#[]⟩,-1,0⟩:uq)])=An:=⟨_,rfl⟩
 have acX:=hid (show Calls Tryz.prog 19 #[.pointer (some ⟨g.b,0,none⟩)] w8.drew (fun e w'=>e=.returned (.int .i64 An)∧w'=w8.drew) by rw[← hAn];exact HAs.out)
 have hAI:(An:Int)≤(g.W:Int):=by have:=HAk.out;rw[hAn] at this;omega
 have b9:((i:Int)==(i:Int))=true:=by simp
 have HFin:=hid ((mg.refl H.out (Hb0.out.trans (Hb1.out.mono Hb0.out.size))).trans (H1.out.to (p':=p') Dn.out.same (by
  have e1:({ g with cg:=Ar,kX:=.slice a' (i+1) c',calls:=g.calls++[⟨⟨#[110,97,109,101]⟩,V,⟨#[]⟩,-1,0⟩] }:WG).st = { g.st with c:=Ar.st,calls:=g.calls++[⟨⟨#[110,97,109,101]⟩,V,⟨#[]⟩,-1,0⟩] }:=rfl
  have e2:Ar.st=p.c.call q.name q.ans ⟨q.enc.toArray⟩:=Jw.out.trans (by rw[WO.out])
  rw[e1,e2,H1.out.st,H1.out.eP,HY.out.eq,HVV.out,WO.out]) (by rw[HY.out.eq];exact H1.out.cf)))
 clear hAn
 go_wp2_with fail
 go_region_held3 (fun w'=>w'.cell? ⟨g.b,2,none⟩=some (.int .i64 g.W))
  (first | exact w2c | assumption)
  (first | (go_at_call 19;refine acX.out.mono ?_;rintro e wx ⟨rfl,rfl⟩))
 all_goals
  go_wp2_with fail
  go_ret
  exact⟨rfl,_,HFin.out.below (Below.refl _ w8).drew⟩
end Go.Proofs.YtolfcabodiphmaaGreatDoor
