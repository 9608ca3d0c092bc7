/- Package courierkeep: subscribe, where nothing is tame and the client is not full. -/
import Derived.Test.YtkpfplbmmglkkaaGreatDoorV35
set_option linter.all false
set_option maxHeartbeats 4000000
set_option maxRecDepth 100000
namespace Go.Proofs.YtkpfplbmmglkkaaGreatDoor
open Go.Proofs.Tryz
variable {t lo:Nat}{w w' w1 w2:World}{g g1:WG}{α β:Type}{p:aS}{XC XS:List PIV}
open Go.RowKit Go.Conc
theorem NF{n:Nat}{V:ByteArray}(h:V.toList=y8 n):cr t++ByteArray.mk #[64]++V=jV (cr t) n:=by
 unfold jV
 congr 1
 have e:y8 n=Lib.decDigits n:=by
  unfold y8 Lib.itoa;simp
 rw[← e,← h,ByteArray.toList_eq]
theorem DN(h:t<3):(cr t).size≤5:=by
 match t,h with
 | 0,_=>decide
 | 1,_=>decide
 | 2,_=>decide
theorem ahl(g:WG)(tP:CG)(t fr:Nat):({ g with cg:=tP }:WG).b=g.b∧({ g with cg:=tP }:WG).ae=g.ae∧({ g with cg:=tP }:WG).iP=g.iP∧({ g with cg:=tP }:WG).dO t=g.dO t∧({ g with cg:=tP }:WG).R=g.R∧({ g with cg:=tP }:WG).st.eh t (fr+1)=g.st.eh t (fr+1):=by
 refine⟨rfl,rfl,rfl,?_,rfl,?_⟩
 ·match t with | 0=>rfl | 1=>rfl | _+2=>rfl
 ·unfold WP.eh
  match t with | 0=>rfl | 1=>rfl | _+2=>rfl
def uR(t n:Nat)(C:Int):ByteArray:=if n=0∧C.tmod 2=0 then⟨#[]⟩ else jV (cr t) n
theorem JR.dW{P:Nat→Prop}(h:JR w)(hc:aQ P w w')(hn:¬ P 0):JR w':=by
 refine⟨?_,Nat.lt_of_lt_of_le h.lt hc.size⟩;have:=h.t;unfold Lib.TabIs World.var? at this ⊢;rw[Zo] at this ⊢;simp only[Option.bind_some] at this ⊢;rw[hc.block _ h.lt hn];exact this
theorem gO.ahm(h:gO lo w g){t:Nat}(ht:t<3){k:Nat}{x:ByteArray}(hk:(g.dO t)[k]? = some x):∃ ga c,g.Zn t=.slice (some (aj ga 0)) (g.dO t).length c∧w.cell? (aj ga k)=some (.string x):=by
 have GA:k<(g.dO t).length:=(List.getElem?_eq_some_iff.1 hk).1
 have key:w.ownsRow lo 9 1 (g.Zn t) (g.dO t).length (ck (g.dO t)):=by
  rcases(by omega:t=0∨t=1∨t=2) with rfl | rfl | rfl
  ·exact h.ag7
  ·exact h.Zm
  ·exact h.ahc
 rcases key.2 with⟨_,e⟩ | ⟨ga,c,cur,hv,r⟩
 ·omega
 ·refine⟨ga,c,hv,?_⟩
  have:=key.cells (g:=ga) (by rw[hv];rfl) k (.string x) (by unfold ck;rw[List.getElem?_map,hk];rfl);rw[dF _ _ rfl] at this;simpa using this
def WP.Fu(p:WP):Nat→Bool
 | 0=>p.d0
 | 1=>p.d1
 | _=>p.d2
theorem WG.aci(g:WG)(t:Nat):g.st.Fu t=g.Fm t:=by match t with | 0=>rfl | 1=>rfl | _+2=>rfl
theorem WG.AZ(g:WG)(l:List gp)(t:Nat):({ g with ae:=l }:WG).dO t=g.dO t:=by match t with | 0=>rfl | 1=>rfl | _+2=>rfl
theorem WG.XB(g:WG)(l:List gp)(t:Nat):({ g with ae:=l }:WG).Fm t=g.Fm t:=by match t with | 0=>rfl | 1=>rfl | _+2=>rfl
theorem WG.Qc(g:WG)(l:List gp)(t k:Nat):({ g with ae:=l }:WG).st.eh t k=g.st.eh t k:=by unfold WP.eh;rw[WG.rp,WG.rp,WG.AZ];rfl
def WP.lf(w:WP)(i:Nat)(k:Nat)(v cur:ByteArray):Option WP:=match w.ae[i]? with
 | none=>none
 | some s=>
  if k=0 then(if v=⟨#[]⟩∧cur=⟨#[]⟩ then some w else none)
  else if s.ended≠0 then none
  else if k=1 then(if (w.cy s.aG)[s.start+s.aE]? = some v∧cur=jV (cr s.aG) (s.start+s.aE+1) then some { w with ae:=w.ae.set i { s with aE:=s.aE+1 } } else none)
  else if v=⟨#[]⟩∧cur=⟨#[]⟩∧((k=2∧w.Fu s.aG=true∧s.start+s.aE=(w.cy s.aG).length)∨(k=4∧s.aE=0∧s.ni=true)∨(k=3∧(w.dN=true∨w.eh s.aG (s.start+s.aE+1)=false))) then some { w with ae:=w.ae.set i { s with ended:=k } } else none
theorem acj(h:gO lo w g)(i:Nat){x:gp}(hx:g.ae[i]? = some x)(hl:g.ae.length≤90000):
  aT 62 #[aM g.b,vI i,.agg #[vI 0,.string ⟨#[]⟩,.string ⟨#[]⟩]] w (fun e w'=>e=.returned (.bool true)∧Below w.heap.size w w'):=by
 obtain⟨ga,c,hv,aK⟩:=h.iO hx;obtain⟨w0,eM,aN,aD⟩:=cS w [vI 0,.string ⟨#[]⟩,.string ⟨#[]⟩] 134;have e0:=aD.ce 0 rfl;have e1:=aD.ce 1 rfl;have e2:=aD.ce 2 rfl;have d16:w0.cell? (aj g.b 16)=some (.slice (some (aj ga 0)) g.ae.length c):=(show w0.cell? (aj g.b 16)=some g.iP from(h.below aN).ap.cell 16).trans (by rw[hv]);have jQ:i<g.ae.length:=(List.getElem?_eq_some_iff.1 hx).1;obtain⟨N,hN⟩:∃ N,g.ae.length=N:=⟨_,rfl⟩
 rw[hN] at d16 jQ hl;have rE:(i:Int)<(N:Int):=by omega
 have HB:=U aN;clear h hx hv aK aN aD hN
 go_enter func62,ntmps62
 go_wp2_with fail
 go_ret
 exact⟨rfl,HB.o⟩
def bd{α β:Type}(f:β → α → Option β)(w:β)(l:List α):Option β:=l.foldl (fun o a=>o.bind (fun x=>f x a)) (some w)
theorem eP(f:β → α → Option β)(w:β):bd f w []=some w:=rfl
theorem LF(f:β → α → Option β)(w:β)(l:List α)(a:α):bd f w (l++[a])=(bd f w l).bind (fun x=>f x a):=by unfold bd;rw[List.foldl_append];rfl
theorem A6(f:β → α → Option β):∀ (l:List α),l.foldl (fun o a=>o.bind (fun x=>f x a)) none=none
 | []=>rfl
 | a::r=>by rw[List.foldl_cons];exact A6 f r
theorem kA(f:β → α → Option β)(w:β)(l m:List α):bd f w (l++m)=(bd f w l).bind (fun x=>bd f x m):=by
 unfold bd;rw[List.foldl_append]
 cases l.foldl (fun o a=>o.bind (fun x=>f x a)) (some w) with
 | none=>exact A6 f m
 | some x=>rfl
theorem LG{f:β → α → Option β}{w r:β}{l:List α}(h:bd f w l=some r)(k:Nat):∃ m,bd f w (l.take k)=some m:=by
 rw[← List.take_append_drop k l,kA] at h
 cases e:bd f w (l.take k) with
 | none=>rw[e] at h;cases h
 | some m=>exact⟨m,rfl⟩
theorem kB{f:β → α → Option β}{w r m:β}{l:List α}(h:bd f w l=some r){k:Nat}{a:α}(ha:l[k]? = some a)(hm:bd f w (l.take k)=some m):∃ m',f m a=some m'∧bd f w (l.take (k+1))=some m':=by
 obtain⟨m',h'⟩:=LG h (k+1);have e:=h';rw[List.take_add_one,ha,Option.toList_some,LF,hm] at e;exact⟨m',e,h'⟩
theorem lT{f:β → α → Option β}{w r m:β}{l:List α}(h:bd f w l=some r){k:Nat}(hk:l.length≤k)(hm:bd f w (l.take k)=some m):m=r:=by
 rw[List.take_of_length_le hk,h] at hm;exact(Option.some.inj hm).symm
def pW(p:aS):Bool:=decide (p.kind<256)&&decide (p.ah<1000000)&&decide (p.ag<1000000)&&decide (p.number<1000000)&&decide (p.ai<1000000)&&decide (p.data.size≤79)
def XD:List Nat→Bool
 | []=>true
 | a::r=>!(r.contains a)&&XD r
def Qd(s:SP)(f:pH→Bool):Bool:=match s.aY with
 | none=>true
 | some o=>f o
def oY(s:SP):SP:=match s.aY with
 | some o=>{ s with aY:=some { o with silence:=0 } }
 | none=>s
def pR(L:List aS):Bool:=decide (L.length≤60)&&L.all pW
namespace WP
def XE(W ah:Nat):WP:=⟨⟨0,false,false,[],[⟨ByteArray.mk #[116,105,99,107,115],ByteArray.mk #[105,110,116],0,[],false⟩,⟨ByteArray.mk #[109,97,114,107,115],ByteArray.mk #[112,111,105,110,116],0,[],false⟩,⟨ByteArray.mk #[104,117,101,115],ByteArray.mk #[99,111,108,111,114],0,[],false⟩],none,false,0,[],0,[]⟩,⟨0,false,false,[],ah,0,0,0,[],0,[],0,[],0⟩,W,4,1,0,0,0,[],[],[],[],[],false,false,false,[],[],0,0,0,false,false⟩
end WP
structure zb(s:SP):Prop where
 sm:SSm s
 tl:s.au.length≤400
 an:∀ o,s.aY=some o→o.aC.length≤1000
structure gx(s:dQ):Prop where
 nm:s.name.size≤1000
 aX:s.aX≤1000000000000
 vl:s.ak.length≤1000
 vg:s.ak.length≤s.aX
 fn:s.bD≠1
structure tC(c:CP):Prop where
 sm:yy c
 st:∀ s∈c.ae,gx s
 sl:c.ae.length≤400
 md:c.bQ≤1000000000000
structure JS(w:WP):Prop where
 sl:w.ae.length≤90000
 vl:∀ t,t<3→(w.cy t).length≤90000
 st:∀ x∈w.ae,x.aG<3∧x.start≤90003∧x.aE≤90000
 W:w.W≤8
 R:w.R≤1000
def ack(o:pH)(p:aS):Bool:=match o.af.findIdx? (fun f=>decide (f.number=p.number)) with
 | none=>false
 | some i=>match o.af[i]? with
  | none=>false
  | some f=>decide (f.aX<p.ai)
def IX(s:SP)(p:aS):Bool:=match s.aY with
 | none=>decide (p.kind≤2)
 | some o=>decide (o.number=p.ag)&&(decide (p.kind=1)||(s.cur&&(if p.kind=2 then decide (p.number=o.next) else if p.kind=4 then ack o p else decide (p.kind=5))))
structure amX(w:WP)(p:aS):Prop where
 ok:zb w.s
 pm:pW p=true
 kd:IX w.s p=true
 at_:w.lG=w.lS
 up:w.s.gl (w.lS:Int)=true
 tk:∀ o,w.s.aY=some o→o.ah=p.ah
def rdB(c:CP)(p:aS)(f:dQ→Bool):Bool:=match c.ew p with
 | none=>false
 | some i=>match c.ae[i]? with
  | none=>false
  | some s=>f s
def Ud(R:Nat)(c:CP)(p:aS):Bool:=if p.kind=6 then decide (c.ag=0∧p.ah=c.ah∧p.number=c.bI) else if p.kind=7 then true else if p.kind=8 then rdB c p (fun s=>decide (p.ai=s.aX+1∧s.ak.length<R)) else if p.kind=9 then rdB c p (fun s=>decide (s.aX=p.ai)) else if p.kind=10 then rdB c p (fun s=>decide (s.aX<p.ai)) else decide (p.kind=13)&&c.fO p
theorem LH{g:CG}{f:dQ→Bool}(h:rdB g.st p f=true):∃ i m,g.st.ew p=some i∧g.ae[i]? = some m∧f m.s=true:=by
 unfold rdB at h
 split at h
 ·cases h
 ·rename_i i hi
  split at h
  ·cases h
  ·rename_i s hs
   obtain⟨m,hm,rfl⟩:=List.getElem?_map .. ▸ hs |> Option.map_eq_some_iff.1
   exact⟨i,m,hi,hm,h⟩
structure amY(w:WP)(p:aS):Prop where
 ok:tC w.c
 pm:pW p=true
 kd:Ud w.R w.c p=true
 at_:w.lG=w.lS
 up:w.c.gl (w.lG:Int)=true
theorem IY:∀ {l:List Nat},XD l=true↔l.Nodup
 | []=>⟨fun _=>List.nodup_nil,fun _=>rfl⟩
 | a::r=>by
  unfold XD;rw[Bool.and_eq_true,IY,List.nodup_cons];simp
theorem A8{s:SP}{f:pH→Bool}:Qd s f=true↔∀ o,s.aY=some o→f o=true:=by
 unfold Qd
 cases s.aY with
 | none=>exact⟨fun _ o ho=>(by cases ho),fun _=>rfl⟩
 | some o=>exact⟨fun h o' mz=>by cases mz;exact h,fun h=>h o rfl⟩
def Qe(s:SP):Bool:=s.au.all (fun t=>decide (t.dJ.length≤t.count)&&decide (t.count≤1000000000000))&&(Qd s (fun o=>o.af.all (fun f=>decide (f.aX≤f.az)&&(decide (f.az≤1000000000000)&&decide (f.aG<s.au.length)))&&(decide (o.af.length≤1000000)&&(decide (o.aC.length≤1000)&&(decide (o.silence≤1000000000000)&&decide (o.next≤1000000000000)))))&&(decide (s.cR≤1000000000000)&&(decide (s.aE≤1000000000000)&&(decide (s.waits.length≤1000000)&&(XD (s.D8.map (fun x=>x.1))&&(s.D8.all (fun x=>decide (x.1<s.aE))&&decide (s.au.length≤400)))))))
theorem n8{s:SP}:Qe s=true↔zb s:=by
 unfold Qe;simp only[Bool.and_eq_true,decide_eq_true_eq,List.all_eq_true,A8,IY];constructor
 ·rintro⟨h1,h2,h3,h4,h5,h6,h7,h8⟩
  exact⟨⟨⟨h1,fun o ho f hf=>(h2 o ho).1 f hf,fun o ho=>⟨(h2 o ho).2.1,by have:=(h2 o ho).2.2.1;omega⟩⟩,fun o ho=>(h2 o ho).2.2.2,⟨h3,h4,h5⟩,⟨h6,h7⟩⟩,h8,fun o ho=>(h2 o ho).2.2.1⟩
 ·intro h
  exact⟨h.sm.tp,fun o ho=>⟨h.sm.fd o ho,(h.sm.ln o ho).1,h.an o ho,h.sm.sl o ho⟩,h.sm.nn.1,h.sm.nn.2.1,h.sm.nn.2.2,h.sm.ow.1,h.sm.ow.2,h.tl⟩
def LI(c:CP):Bool:=decide (c.aB.length≤1000)&&(decide (c.ae.length≤1000)&&(c.aU.isEmpty&&(decide (c.bI≤1000000000000)&&(decide (c.silence≤1000000000000)&&(decide (c.next≤1000000000000)&&(c.ae.all (fun s=>decide (s.name.size≤1000)&&(decide (s.aX≤1000000000000)&&(decide (s.ak.length≤1000)&&(decide (s.ak.length≤s.aX) && !decide (s.bD=1)))))&&(decide (c.ae.length≤400)&&decide (c.bQ≤1000000000000))))))))
theorem n9{c:CP}:LI c=true↔tC c:=by
 unfold LI;simp only[Bool.and_eq_true,decide_eq_true_eq,List.all_eq_true,Bool.not_eq_true',decide_eq_false_iff_not,List.isEmpty_iff];constructor
 ·rintro⟨h1,h2,h3,h4,h5,h6,h7,h8,h9⟩
  exact⟨⟨h1,h2,h3,h4,h5,h6⟩,fun s hs=>⟨(h7 s hs).1,(h7 s hs).2.1,(h7 s hs).2.2.1,(h7 s hs).2.2.2.1,(h7 s hs).2.2.2.2⟩,h8,h9⟩
 ·intro h
  exact⟨h.sm.a,h.sm.s,h.sm.ca,h.sm.at_,h.sm.si,h.sm.n,fun s hs=>⟨(h.st s hs).nm,(h.st s hs).aX,(h.st s hs).vl,(h.st s hs).vg,(h.st s hs).fn⟩,h.sl,h.md⟩
def LJ(w:WP):Bool:=decide (w.ae.length≤90000)&&(decide ((w.cy 0).length≤90000)&&(decide ((w.cy 1).length≤90000)&&(decide ((w.cy 2).length≤90000)&&(w.ae.all (fun x=>decide (x.aG<3)&&(decide (x.start≤90003)&&decide (x.aE≤90000)))&&(decide (w.W≤8)&&decide (w.R≤1000))))))
theorem iQ{w:WP}:LJ w=true↔JS w:=by
 unfold LJ;simp only[Bool.and_eq_true,decide_eq_true_eq,List.all_eq_true];constructor
 ·rintro⟨h1,h2,h3,h4,h5,h6,h7⟩
  exact⟨h1,fun t ht=>(by match t,ht with | 0,_=>exact h2 | 1,_=>exact h3 | 2,_=>exact h4),h5,h6,h7⟩
 ·intro h
  exact⟨h.sl,h.vl 0 (by omega),h.vl 1 (by omega),h.vl 2 (by omega),h.st,h.W,h.R⟩
def acn(w:WP)(p:aS):Bool:=Qe w.s&&(pW p&&(IX w.s p&&(decide (w.lG=w.lS)&&(w.s.gl (w.lS:Int)&&Qd w.s (fun o=>decide (o.ah=p.ah))))))
theorem IZ{w:WP}:acn w p=true↔amX w p:=by
 unfold acn;simp only[Bool.and_eq_true,decide_eq_true_eq,n8,A8];constructor
 ·rintro⟨h1,h2,h3,h5,h6,h7⟩
  exact⟨h1,h2,h3,h5,h6,h7⟩
 ·intro h
  exact⟨h.ok,h.pm,h.kd,h.at_,h.up,h.tk⟩
def aco(w:WP)(p:aS):Bool:=LI w.c&&(pW p&&(Ud w.R w.c p&&(decide (w.lG=w.lS)&&w.c.gl (w.lG:Int))))
theorem I0{w:WP}:aco w p=true↔amY w p:=by
 unfold aco;simp only[Bool.and_eq_true,decide_eq_true_eq,n9];constructor
 ·rintro⟨h1,h2,h3,h5,h6⟩
  exact⟨h1,h2,h3,h5,h6⟩
 ·intro h
  exact⟨h.ok,h.pm,h.kd,h.at_,h.up⟩
def acp(w:WP)(i:Nat):Bool:=LI w.c&&(LJ w&&decide (i<w.c.bQ))
theorem uS{w:WP}{i:Nat}:acp w i=true↔tC w.c∧JS w∧i<w.c.bQ:=by
 unfold acp;simp only[Bool.and_eq_true,decide_eq_true_eq,n9,iQ]
def tkB(w:WP):Bool:=decide (w.bh≤1000)&&(decide (w.bj≤1000)&&(decide (w.bh+1<w.D)&&(decide (w.bj+1<w.D)&&(decide (w.c.silence+1<w.D)&&Qd w.s (fun o=>decide (o.silence+1<w.D))))))
def acq(w:WP):Bool:=LI w.c&&(Qe w.s&&(decide (w.W≤1000)&&tkB w))
theorem A9{w:WP}:acq w=true↔tC w.c∧zb w.s∧w.W≤1000∧tkB w=true:=by
 unfold acq;simp only[Bool.and_eq_true,decide_eq_true_eq,n9,n8]
def acr(w:WP):Bool:=LI w.c&&(decide (w.bA≤1000000000000)&&((!w.c.fN||decide (w.c.bu<((w.bA+1:Nat):Int)))&&(!w.s.fN||decide (w.s.bu<((w.bA+1:Nat):Int)))))
theorem Ba{w:WP}:acr w=true↔tC w.c∧w.bA≤1000000000000∧(w.c.fN=false∨w.c.bu<((w.bA+1:Nat):Int))∧(w.s.fN=false∨w.s.bu<((w.bA+1:Nat):Int)):=by
 unfold acr;simp only[Bool.and_eq_true,decide_eq_true_eq,n9,Bool.or_eq_true,Bool.not_eq_true']
namespace WP
def dq(ask:SP.jX)(w:WP)(p:aS):Option WP:=if acn w p=true then some { w with bj:=0,s:=w.s.take ask w.W p } else none
def cF(bp:vh)(w:WP)(p:aS):Option WP:=if aco w p=true then some { w with bh:=0,c:=w.c.take bp w.R p } else none
def jh(ask:SP.jX)(bp:vh)(w:WP):Option (WP × Bool) :=
 if pR w.c.L then(bd (dq ask) w.iB w.c.L).bind (fun w1=>if pR w1.s.L then(bd (cF bp) w1.ug w1.s.L).map (fun w2=>(w2,w.c.L.isEmpty&&w1.s.L.isEmpty)) else none) else none
def fD(ask:SP.jX)(bp:vh):Nat→WP→Option WP
 | 0,_=>none
 | n+1,w=>match w.jh ask bp with
  | none=>none
  | some (w',true)=>some w'
  | some (w',false)=>fD ask bp n w'
def cD:Nat→WP→Nat→Option WP
 | 0,_,_=>none
 | n+1,w,i=>if acp w i=true then
   match ({ w with c:=(w.c.fU (i:Int)).1 }:WP).lf i (w.c.fU (i:Int)).2.1 (w.c.fU (i:Int)).2.2.1 (w.c.fU (i:Int)).2.2.2 with
   | none=>none
   | some w'=>if (w.c.fU (i:Int)).2.1=0 then some w' else cD n w' i
  else none
def iH(w:WP)(i:Nat):Nat:=match w.ae[i]? with
 | none=>0
 | some s=>(w.cy s.aG).length+3
def kD(w:WP):Option WP:=bd (fun x i=>x.cD (x.iH i) i) w (List.range w.ae.length)
def iJ(ask:SP.jX)(bp:vh)(w:WP):Option WP :=
 if acq w=true then
  (fD ask bp 51 w.lj.lp).bind fun w2=>if w2.bh=0∧w2.bj=0 then w2.kD.bind fun w3=>if w3.s.waits.isEmpty=true∧w3.aU.isEmpty=true then some w3 else none else none
 else none
def Q5(w:WP):Option WP:=if acr w=true then some w.ZJ else none
def I1(w:WP):Bool:=w.ae.all (fun x=>!decide (x.ended=0)||(!w.Fu x.aG&&decide (x.start+x.aE=(w.cy x.aG).length)))
def lP(w:WP):Nat:=20+w.ae.length+w.aU.length+w.v0.length+w.v1.length+w.v2.length
def mW(ask:SP.jX)(bp:vh)(w:WP):Option WP:=if LJ w=true∧w.aU.isEmpty=true then w.Q5.bind fun w1=>(bd (fun x _=>iJ ask bp x) w1 (List.range w.lP)).bind fun w2=>if LJ w2=true∧w2.I1=true∧w2.aU.isEmpty=true then some w2 else none else none
end WP
theorem XF(h:gO lo w g)(rep:Bool)(hn:g.sg.waits=[]):
  aT 38 #[aM g.b,.bool rep] w (fun e w'=>e=.returned (.tuple #[.bool false,.bool true])∧∃ g',kz lo w g g.st w' g'):=by
 have k0:=h.ap.ce 0 rfl
 have HC:=U (fun(w0:World) (hb:Below w.heap.size w w0)=>abZ (h.below hb).cN g.sb ((h.below hb).cT.cell 0) (h.below hb).cT.lt 0 ⟨#[]⟩ ⟨#[]⟩ false (q:=g.sg.st) (fun w1 aA=>by
  refine(Xg ((h.below hb).cN.below aA) hn).mono ?_;rintro e w' ⟨rfl,aW⟩
  exact⟨rfl,g.sg,dw.refl ((h.below hb).cN.below aA) aW⟩))
 have H:=U h;clear h hn
 go_enter func38,ntmps38
 go_wp2_with fail
 refine(HC.o w (Below.refl _ _)).mono ?_;rintro e w1 ⟨rfl,sg1,h1⟩;have mA:=H.o.ko h1;have ir:=U (show kz lo w g g.st w1 { g with sg:=sg1 } from mA);clear h1 mA
 go_wp2_with fail
 have acs:Below w1.heap.size w1 (w1.alloc (.cells #[vI 0,.string ⟨#[]⟩,.string ⟨#[]⟩] 139)):=(Below.refl _ _).alloc (Nat.le_refl _) _;have Ue:aZ (w1.alloc (.cells #[vI 0,.string ⟨#[]⟩,.string ⟨#[]⟩] 139)) w1.heap.size 139 [vI 0,.string ⟨#[]⟩,.string ⟨#[]⟩]:=heap_alloc_new w1 _;obtain⟨wq,amZ⟩:∃ wq,w1.alloc (.cells #[vI 0,.string ⟨#[]⟩,.string ⟨#[]⟩] 139)=wq:=⟨_,rfl⟩
 rw[amZ] at acs Ue ⊢;have q0:=Ue.ce 0 rfl;have q1:=Ue.ce 1 rfl;have q2:=Ue.ce 2 rfl;have HQ:=U acs;clear acs Ue
 go_quiet (fail)
 go_wp2_with fail
 go_ret2
 exact⟨rfl,_,ir.o.below (below_drewN HQ.o nq)⟩
theorem Fv(h:pW p=true):lH p∧(bO p).length≤120∧p.data.size≤79∧p.number≤1000000:=by
 unfold pW at h;simp only[Bool.and_eq_true,decide_eq_true_eq] at h;obtain⟨⟨⟨⟨⟨h1,h2⟩,h3⟩,h4⟩,h5⟩,h6⟩:=h;have hp:lH p:=⟨h1,by omega,by omega,by omega,by omega,by omega⟩
 refine⟨hp,?_,h6,by omega⟩;unfold bO;have:=vP hp 4;have h0:p.data.toList.length=p.data.size:=by rw[ByteArray.toList_eq];rfl
 rw[List.length_append,h0];omega
theorem ze{L:List aS}(h:pR L=true):L.length≤60∧∀ p∈L,lH p∧(bO p).length≤120:=by
 unfold pR at h;simp only[Bool.and_eq_true,decide_eq_true_eq,List.all_eq_true] at h;exact⟨h.1,fun p hp=>⟨(Fv (h.2 p hp)).1,(Fv (h.2 p hp)).2.1⟩⟩
def WP.qU(p:WP):Prop:=p.D=4∧p.R=1∧p.W≤8
structure Fol(lo:Nat)(XC XS:List PIV)(w:World)(g:WG)(p:WP):Prop where
 bL:gO lo w g
 st:g.st = { p with D:=g.D,R:=g.R }
 cf:p.qU
 hl:lo≤w.heap.size
 D:4≤g.D
 sc:oU lo w g.cg.iv XC
 ss:oU lo w g.sg.iv XS
theorem ahn{g:SG}{s:cZ}(h:g.aY=some s):g.st.aY=some s.o:=by unfold SG.st;rw[h];rfl
structure cH(lo:Nat)(XC XS:List PIV)(w:World)(g:WG)(p:WP):Prop where
 bL:gO lo w g
 st:g.st=p
 hl:lo≤w.heap.size
 sc:oU lo w g.cg.iv XC
 ss:oU lo w g.sg.iv XS
structure dL(lo:Nat)(XC XS:List PIV)(w:World)(g:WG)(p:WP)(w':World)(g':WG):Prop where
 eY:cH lo XC XS w' g' p
 grow:cM w g.aF w' g'.aF
 b:g'.b=g.b
theorem cH.c{p:WP}(h:cH lo XC XS w g p):g.cg.st=p.c:=congrArg WP.c h.st
theorem cH.s{p:WP}(h:cH lo XC XS w g p):g.sg.st=p.s:=congrArg WP.s h.st
theorem cH.gW{p:WP}(h:cH lo XC XS w g p):g.W=p.W:=congrArg WP.W h.st
theorem cH.gD{p:WP}(h:cH lo XC XS w g p):g.D=p.D:=congrArg WP.D h.st
theorem cH.gR{p:WP}(h:cH lo XC XS w g p):g.R=p.R:=congrArg WP.R h.st
theorem cH.Fw{p:WP}(h:cH lo XC XS w g p):g.aU=p.aU:=congrArg WP.aU h.st
theorem cH.dC{p:WP}(h:cH lo XC XS w g p):g.ae=p.ae:=congrArg WP.ae h.st
theorem cH.gS0{p:WP}(h:cH lo XC XS w g p):g.bh=p.bh:=congrArg WP.bh h.st
theorem cH.gS1{p:WP}(h:cH lo XC XS w g p):g.bj=p.bj:=congrArg WP.bj h.st
theorem cH.gC{p:WP}(h:cH lo XC XS w g p):g.lG=p.lG:=congrArg WP.lG h.st
theorem cH.gS{p:WP}(h:cH lo XC XS w g p):g.lS=p.lS:=congrArg WP.lS h.st
theorem cH.Uf{p:WP}(h:cH lo XC XS w g p):g.bA=p.bA:=congrArg WP.bA h.st
theorem cH.acu{p:WP}(h:cH lo XC XS w g p):g.dN=p.dN:=congrArg WP.dN h.st
theorem cH.Zq{p:WP}(h:cH lo XC XS w g p):g.vu=p.vu:=congrArg WP.vu h.st
theorem cH.dO{p:WP}(h:cH lo XC XS w g p)(t:Nat):g.dO t=p.cy t:=by rw[← h.st,WG.rp]
theorem cH.Fm{p:WP}(h:cH lo XC XS w g p)(t:Nat):g.Fm t=p.Fu t:=by rw[← h.st,WG.aci]
theorem cH.dJ{p:WP}(h:cH lo XC XS w g p)(t k:Nat):g.st.eh t k=p.eh t k:=by rw[h.st]
theorem cH.cL{p:WP}(h:cH lo XC XS w g p):g.cg.L=p.c.L:=congrArg CP.L h.c
theorem cH.sL{p:WP}(h:cH lo XC XS w g p):g.sg.L=p.s.L:=congrArg SP.L h.s
theorem cH.tab{p:WP}(h:cH lo XC XS w g p):JR w:=⟨h.sc.WQ.t,h.sc.WQ.lt⟩
theorem cH.below{p:WP}(h:cH lo XC XS w g p)(hb:Below w.heap.size w w'):cH lo XC XS w' g p:=⟨h.bL.below hb,h.st,Nat.le_trans h.hl hb.size,h.sc.below hb,h.ss.below hb⟩
theorem cH.to{g':WG}{p q:WP}(h:cH lo XC XS w g p)(k:kz lo w g q w' g'):dL lo XC XS w g q w' g':=by
 refine⟨⟨k.bL,k.st,Nat.le_trans h.hl k.grow.c.size,?_,?_⟩,k.grow,k.b⟩
 ·rw[k.iv.1]
  exact h.sc.nO h.bL.dR k.grow.c
 ·rw[k.iv.2]
  exact h.ss.nO h.bL.dR k.grow.c
theorem dL.refl{p:WP}(h:cH lo XC XS w g p)(hb:Below w.heap.size w w'):dL lo XC XS w g p w' g:=⟨h.below hb,cM.aI hb,rfl⟩
theorem dL.trans{g2:WG}{p1 p2:WP}(h:dL lo XC XS w g p1 w1 g1)(k:dL lo XC XS w1 g1 p2 w2 g2):dL lo XC XS w g p2 w2 g2:=⟨k.eY,h.grow.trans k.grow,k.b.trans h.b⟩
theorem dL.below{p1:WP}(h:dL lo XC XS w g p1 w1 g1)(hb:Below w1.heap.size w1 w2):dL lo XC XS w g p1 w2 g1:=⟨h.eY.below hb,h.grow.below hb,h.b⟩
theorem cH.acv{p:WP}(h:cH lo XC XS w g p):¬ aL g.aF 0:=fun hk=>(h.sc.own _ (h.bL.dR.lt hk).1).2.2 rfl
end Go.Proofs.YtkpfplbmmglkkaaGreatDoor
