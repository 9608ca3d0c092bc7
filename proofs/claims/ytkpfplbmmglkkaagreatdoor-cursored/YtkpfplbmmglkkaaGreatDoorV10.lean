/- Places put behind places: append of a row of ints, be there some or none. -/
import Derived.Test.YtkpfplbmmglkkaaGreatDoorV08
import Derived.Laws.OwnMore
import Derived.Deep.OwnRows
set_option linter.all false
set_option maxHeartbeats 8000000
set_option maxRecDepth 100000
namespace Go.Proofs.YtkpfplbmmglkkaaGreatDoor
open Go.Proofs.Tryz
variable {X:List PIV}{p:PItem}{w wc wd:World}{lo lo' B:Nat}{v:Value}{ts:List PTok}{cs:List Value}{L:List Nat}
open Go.RowKit
theorem Tryz.infoIntAt:∃ i,Tryz.prog.info? 3=some i∧i.zero=some (vI 0)∧i.size=1∧i.bytes=8:=by
 obtain⟨iI,rE,zj,uZ,zk⟩:=info_parts Tryz.infoInt;exact⟨iI,rE,zj,uZ,zk⟩
theorem Ev(w:World){o:Oper}{a:Act}{K:Act→World→Prop}{Q:Exit→Act→World→Prop}(s x:Operand)
  (ho:o.op=.call { callee:=.builtin .append,args:=#[s,x],argTypes:=#[178,178] })
  (v:Value) (L:List Nat) (lo:Nat) (hs:a.eval s=v) (hP:cU w lo v L) (v2:Value) (L2:List Nat) (FZ:Nat) (hx:a.eval x=v2) (CE:cU w FZ v2 L2)
  (hlen:L.length+L2.length≤1000000) (di:lo≤w.heap.size)
  (h:∀ a' c' w',cU w' lo (.slice a' (L++L2).length c') (L++L2)→w.grownBy w' v.ownBlock→K (a.put o.dst (.slice a' (L++L2).length c')) w'):o.wp Tryz.prog a w K Q:=by
 obtain⟨iI,rE,zj,uZ,zk⟩:=Tryz.infoIntAt
 obtain⟨v',w',hr,h2,h3⟩:∃ v' w',(Builtin.append_ #[178,178] o.type #[v,v2]).run Tryz.prog w=.ok v' w'∧cU w' lo v' (L++L2)∧w.grownBy w' v.ownBlock:=by
  rcases CE.2 with⟨rfl,h0⟩ | ⟨g,cap,cur,sB,_⟩
  ·have hL2:L2=[]:=List.eq_nil_of_length_eq_zero h0
   subst hL2;exact⟨v,w,run_append_owned_none w lo 178 o.type 3 iI 1 underlying178 rE v L.length _ hP,by simpa using hP,⟨rfl,rfl,rfl,Nat.le_refl _,fun _ _ _=>rfl⟩⟩
  ·subst sB
   obtain⟨v',w',hr,h2,h3,_⟩:=run_append_own_at (P:=Tryz.prog) w lo 178 o.type 3 iI (vI 0) 1 8 underlying178 rE zj uZ zk rfl (by decide) v L.length (L.map kI) hP (aj g 0) L2.length cap (L2.map kI) (by simp) (CE.cells (g:=g) rfl) (fun u hu=>by obtain⟨q,_,rfl⟩:=List.mem_map.1 hu;rfl) (by unfold maxLen;omega) (by omega) di;refine⟨v',w',hr,?_,h3⟩;show w'.ownsRow _ _ _ _ _ _;rw[List.length_append,List.map_append];exact h2
 obtain⟨a',c',Mr⟩:=ax h2;subst Mr;unfold Oper.wp execOp;simp only[ho,resolve,invoke,builtin,Sem.run_bind,Sem.run_pure,Result.andThen_ok,List.map_toArray,List.map_cons,List.map_nil,hs,hx,hr];exact h a' c' w' h2 h3
theorem fB(w:World){ops:Array Oper}{rest:List Oper}{o:Oper}{a:Act}{Q:Exit→Act→World→Prop}(JA:o.guard=none)(s x:Operand)
  (ho:o.op=.call { callee:=.builtin .append,args:=#[s,x],argTypes:=#[178,178] })
  (v:Value) (L:List Nat) (lo:Nat) (hs:a.eval s=v) (hP:cU w lo v L) (v2:Value) (L2:List Nat) (FZ:Nat) (hx:a.eval x=v2) (CE:cU w FZ v2 L2)
  (hlen:L.length+L2.length≤1000000) (di:lo≤w.heap.size)
  (h:∀ a' c' w',cU w' lo (.slice a' (L++L2).length c') (L++L2)→w.grownBy w' v.ownBlock→wpList Tryz.prog ops Q rest (a.put o.dst (.slice a' (L++L2).length c')) w'):wpList Tryz.prog ops Q (o::rest) a w :=
 wpList_plain JA fun _ hK=>Ev w s x ho v L lo hs hP v2 L2 FZ hx CE hlen di fun a' c' w' h2 h3=>hK _ _ (h a' c' w' h2 h3)
structure Small(X:List PIV):Prop where
 f:∀ x∈X,x.it.fields.length≤400
 n:∀ x∈X,x.it.names.length≤400
 s:∀ x∈X,x.it.name.text.size≤400
 ft:∀ x∈X,∀ f∈x.it.fields,f.name.size≤400
 nt:∀ x∈X,∀ t∈x.it.names,t.text.size≤400
theorem small_of{s:ByteArray}(h:YH s X)(hs:s.size≤400):Small X:=by
 refine⟨fun x hx=>?_,fun x hx=>?_,fun x hx=>?_,fun x hx f hf=>?_,fun x hx t ht=>?_⟩<;>obtain⟨lo,hi⟩:=h.it x hx
 ·have:=hi.fl;omega
 ·have:=hi.nl;omega
 ·have:=hi.nm.s;omega
 ·have:=(hi.f f hf).ms;omega
 ·have:=(hi.n t ht).s;omega
def GG(X:List PIV)(k a:Nat):Prop:=a∈repP [tyNames X,otNames X]∨∃ i x,i<k∧X[i]? = some x∧PFI X i x a
theorem RX{n:Ninth}(hb:p.base=[.string n.bb,vI n.ba])(ha:p.answer=[.string n.ab,vI n.aa]):jB p n=oH p:=by
 unfold jB oH;rw[hb,ha];simp[jA,cellAt]
theorem Tryz.infoBool:(Tryz.prog.info? 4).map (fun i=>(i.zero,i.size,i.bytes))=some (some (.bool false),1,1):=by kernel_rfl
theorem RY(hv:w.ownsRow lo 113 2 v ts.length (ts.flatMap nameCells))(di:lo'≤lo)(hw:lo'≤w.heap.size)(hl:ts.length≤400)(ht:∀ t∈ts,t.text.size≤400):
  KA (w.alloc (.cells #[v] 115)) lo' (.slice (some (aj w.heap.size 0)) 1 1) [(v,ts)]:=by
 refine⟨?_,fun p hp=>?_,fun p hp=>?_,fun p hp=>?_⟩
 ·exact World.ownsRow_lit (base:=lo') (e:=115) (size:=1) w #[v] 1 hw (by unfold maxLen;omega) rfl
 ·rw[List.mem_singleton.1 hp];exact cm (hv.alloc _) di
 ·rw[List.mem_singleton.1 hp];exact hl
 ·rw[List.mem_singleton.1 hp];exact ht
theorem aai{v2:Value}{us:List PTok}(hv:w.ownsRow lo 113 2 v ts.length (ts.flatMap nameCells))(sB:w.ownsRow lo 113 2 v2 us.length (us.flatMap nameCells))(di:lo'≤lo)(hw:lo'≤w.heap.size)(hl:ts.length≤400)(MO:us.length≤400)(ht:∀ t∈ts,t.text.size≤400)(hu:∀ t∈us,t.text.size≤400):
  KA (w.alloc (.cells #[v,v2] 115)) lo' (.slice (some (aj w.heap.size 0)) 2 2) [(v,ts),(v2,us)]:=by
 refine⟨?_,fun p hp=>?_,fun p hp=>?_,fun p hp=>?_⟩
 ·exact World.ownsRow_lit (base:=lo') (e:=115) (size:=1) w #[v,v2] 2 hw (by unfold maxLen;omega) rfl
 ·rcases List.mem_cons.1 hp with rfl | hp
  ·exact cm (hv.alloc _) di
  ·rw[List.mem_singleton.1 hp];exact cm (sB.alloc _) di
 ·rcases List.mem_cons.1 hp with rfl | hp
  ·exact hl
  ·rw[List.mem_singleton.1 hp];exact MO
 ·rcases List.mem_cons.1 hp with rfl | hp
  ·exact ht
  ·rw[List.mem_singleton.1 hp];exact hu
structure Aj(w wc:World)(B:Nat)(cs:List Value)(v:Value)(L:List Nat):Prop where
 yS:Below w.heap.size w wc
 box:dU wc B 117 0 cs
 pl:cU wc w.heap.size v L
theorem Aj.call(h:Aj w wc B cs v L)(hb:Below wc.heap.size wc wd):Aj w wd B cs v L :=
 ⟨h.yS.trans (hb.mono h.yS.size),h.box.same (hb.block B h.box.lt),h.pl.same hb⟩
theorem Aj.grown{v':Value}{L':List Nat}(h:Aj w wc B cs v L)(hg:wc.grownBy wd v.ownBlock)(hp:cU wd w.heap.size v' L'):Aj w wd B cs v' L':=by
 refine⟨h.yS.grown hg h.yS.size (fun k hk=>(h.pl.lt k hk).1),h.box.same (hg.block B h.box.lt (fun e=>?_)),hp⟩;exact dG h.pl h.box (by decide) e.symm rfl
theorem seg_made(w:World)(cs:Array Value)(t:TypeId):dU (w.alloc (.cells cs t)) w.heap.size t 0 cs.toList:=by
 exact⟨cs,heap_alloc_new w _,by simp,by simpa using List.take_of_length_le (by simp)⟩
theorem GH(h:Small X):(∀ t∈tyNames X,t.text.size≤400)∧(∀ t∈otNames X,t.text.size≤400):=by
 constructor<;>intro t ht
 ·obtain⟨x,hx,rfl⟩:=List.mem_map.1 ht;exact h.s x (List.mem_filter.1 hx).1
 ·obtain⟨x,hx,rfl⟩:=List.mem_map.1 ht;exact h.s x (List.mem_filter.1 hx).1
theorem Db(h:ts.length≤400):(repP [ts]).length≤400:=by
 have:=Ae [ts] (fun t ht=>by rw[List.mem_singleton.1 ht];exact h);simpa using this
theorem KH(h:p.fields.length≤400):(oH p).length≤400:=by
 unfold oH;split
 ·simp
 ·split<;>simp<;>omega
theorem GG.step{k:Nat}{x:PIV}{N:List Nat}(hx:X[k]? = some x)(h:∀ a,a∈L↔GG X k a)(hN:∀ a,a∈N↔PFI X k x a):∀ a,a∈L++N↔GG X (k+1) a:=by
 intro a;rw[List.mem_append,h,hN];constructor
 ·rintro((hr | ⟨i,y,hi,hy,hp⟩) | hp)
  ·exact Or.inl hr
  ·exact Or.inr ⟨i,y,by omega,hy,hp⟩
  ·exact Or.inr ⟨k,x,by omega,hx,hp⟩
 ·rintro(hr | ⟨i,y,hi,hy,hp⟩)
  ·exact Or.inl (Or.inl hr)
  ·rcases Nat.lt_or_ge i k with h' | h'
   ·exact Or.inl (Or.inr ⟨i,y,h',hy,hp⟩)
   ·have e:i=k:=by omega
    subst e;rw[hx] at hy;cases hy;exact Or.inr hp
theorem Ak(w:World)(lo:Nat)(lv:Value)(X:List PIV)(h:PIts w lo lv X)(hn:Nms X)(hX:X.length≤400)(hS:Small X):
  aT 94 #[lv] w fun e w'=>∃ nv L,e=.returned nv∧cU w' w.heap.size nv L∧(∀ a,a∈L↔PF X a)∧L.length≤1000000∧Below w.heap.size w w':=by
 have hmk:=run_make_row' (P:=Tryz.prog) 233 4 (.bool false) 1 underlying233 Tryz.infoBool rfl .i64 .i64 X.length (by omega) (by omega);obtain⟨iI,rE,zj,uZ,zk⟩:=info_parts Tryz.infoInt;obtain⟨la,lc,nk⟩:∃ a c,lv=.slice a X.length c:=ax h.own
 subst nk;have H:=U h;have HN:=U hn;have HS:=U hS;clear h hn hS
 go_enter func94,ntmps94
 go_wp2_with fail
 refine(Cd _ lo _ X H.o HN.o hX).mono ?_;rintro e w1 ⟨t,o,rfl,ht,ho,aA⟩;obtain⟨ta,tc,RN⟩:∃ a c,t=.slice a (tyNames X).length c:=ax ht
 obtain⟨oa,oc,MP⟩:∃ a c,o=.slice a (otNames X).length c:=ax ho
 subst RN MP;have ju:=aA.size;have MV:(tyNames X).length≤400:=by have:=xm X;omega
 have hO4:(otNames X).length≤400:=by have:=xp X;omega
 have HG:=U (aai ht ho (Nat.le_refl _) ju MV hO4 (GH HS.o).1 (GH HS.o).2);have ym:=aA.alloc ju (.cells #[.slice ta (tyNames X).length tc,.slice oa (otNames X).length oc] 115);clear ht ho
 go_wp2_with fail
 refine(qq _ w.heap.size _ _ HG.o (by simp)).mono ?_;rintro e w2 ⟨pv,rfl,fI,aW⟩;have yn:=ym.trans (aW.mono ym.size);have aaj:cU w2 w.heap.size pv (repP [tyNames X,otNames X]):=cm fI ym.size
 have Vc:(repP [tyNames X,otNames X]).length≤800:=by
  have:=Ae [tyNames X,otNames X] (fun t ht=>by
   rcases List.mem_cons.1 ht with rfl | ht
   ·exact MV
   ·rw[List.mem_singleton.1 ht];exact hO4)
  simpa using this
 obtain⟨pa,pc,VS⟩:∃ a c,pv=.slice a (repP [tyNames X,otNames X]).length c:=ax aaj
 subst VS;have jn:=U aaj;clear fI aaj HG aA ym aW;generalize hR:repP [tyNames X,otNames X]=R at *;have HR:=U hR;clear hR
 go_wp2_with fail
 go_loopg [3,4,5,14] X.length (fun gk nv x4 x5 i wr=>∃ (k:Nat) (L:List Nat),k+gk=X.length∧i=.int .i64 k∧Hid (cU wr w.heap.size nv L)∧Hid (∀ a,a∈L↔GG X k a)∧L.length≤800+2000*k∧Below w.heap.size w wr)
 case atStart=>exact⟨0,R,by omega,rfl,U jn.o,U (fun a=>⟨fun ha=>Or.inl (by rw[HR.o];exact ha),fun ha=>by
  rcases ha with ha | ⟨i,x,hi,_⟩
  ·rw[HR.o] at ha;exact ha
  ·omega⟩),by omega,yn⟩
 case round=>
  obtain⟨k,L,hk,rfl,HP,HL,hLl,bi⟩:=hrel;have mI:=bi.size
  by_cases bC:k<X.length
  ·obtain⟨x,hx⟩:∃ x,X[k]? = some x:=⟨X[k],List.getElem?_eq_getElem bC⟩
   have GI:=List.mem_of_getElem? hx;obtain⟨g,cap,hv,vH,xT⟩:=fT H.o.own (by omega);obtain⟨rfl,rfl⟩:la=some (aj g 0)∧lc=cap:=by simpa using hv
   obtain⟨n,hn⟩:=(H.o.below bi).itemAt HN.o hx;have RZ:=(H.o.nest x GI).f;have R3:=(H.o.nest x GI).n;rw[hn.vf] at RZ;rw[hn.vn] at R3;have hs:=hn.seg;have HBQ:=U (RX hn.base hn.answer);have vO:=HS.o.f x GI;have hn4:=HS.o.n x GI;have HFT:=U (HS.o.ft x GI);have HNT:=U (HS.o.nt x GI);have HX:=U hx;have HRF:=U RZ;have HRN:=U R3;obtain⟨na,nc,mB⟩:∃ a c,u3=.slice a L.length c:=ax HP.o
   subst mB;clear hx hv hn RZ R3;obtain⟨p,xvf,xvn⟩:=x;obtain⟨pk,pn,fs,ns,pb,pan⟩:=p;obtain⟨fa,fc,nna,nnc,bb,ba,ab,aa⟩:=n;dsimp only at *;have c0:=hs.cell (j:=0) rfl;have c1:=hs.cell (j:=1) rfl;have c2:=hs.cell (j:=2) rfl;have c3:=hs.cell (j:=3) rfl;have c4:=hs.cell (j:=4) rfl;have c5:=hs.cell (j:=5) rfl;have c6:=hs.cell (j:=6) rfl;have c7:=hs.cell (j:=7) rfl;have c8:=hs.cell (j:=8) rfl;simp only[Nat.add_zero] at c0;clear hs
   have HS0:=U (show Aj w (wr.alloc (.cells #[vI pk,.string pn.text,vI pn.at_,.slice fa fs.length fc,.slice nna ns.length nnc,.string bb,vI ba,.string ab,vI aa] 117)) wr.heap.size [vI pk,.string pn.text,vI pn.at_,.slice fa fs.length fc,.slice nna ns.length nnc,.string bb,vI ba,.string ab,vI aa] (.slice na L.length nc) L from
    ⟨bi.alloc mI _,seg_made _ _ _,HP.o.same ((Below.refl _ _).alloc (Nat.le_refl _) _)⟩)
   go_wp2_with fail
   clear c0 c1 c2 c3 c4 c5 c6 c7 c8;refine(Aa _ lo _ fs (aH HRF.o (fun q hq=>HS0.o.yS.block q (HRF.o.lt q hq).2)) vO).mono ?_;rintro e wa ⟨fv,rfl,Vb,qZ⟩;have YJ:=U (HS0.o.call qZ);have OV:=U (RY Vb (Nat.le_refl _) qZ.size (by simpa using vO) (fun t ht=>by obtain⟨f,hf,rfl⟩:=List.mem_map.1 ht;exact HFT.o f hf));obtain⟨fva,fvc,qo⟩:∃ a c,fv=.slice a (fs.map fname).length c:=ax Vb
   subst qo;have hzA:=YJ.o.yS.size;have hF4:(fs.map fname).length≤400:=by simpa using vO
   generalize hFn:fs.map fname=F at *;have HFN:=U hFn;clear Vb qZ HS0 hFn
   go_wp2_with fail
   refine(qq _ _ _ _ OV.o (by simp)).mono ?_;rintro e wb ⟨pv1,rfl,fe,aA⟩;have HSB:=U (YJ.o.call (((Below.refl _ _).alloc (Nat.le_refl _) _).trans (aA.mono (by simp))));have zq:=U (show cU wb _ pv1 (repP [F]) from fe);have vp:=Db (ts:=F) hF4;generalize ku:repP [F]=N1 at *;have R4:=U ku;have hzB:=HSB.o.yS.size;obtain⟨q1,r1,Ko⟩:∃ a c,pv1=.slice a N1.length c:=ax zq.o
   subst Ko;clear fe aA OV ku YJ
   go_wp2_with (at_builtin;refine fB _ rfl _ _ rfl _ L w.heap.size rfl HSB.o.pl _ N1 _ rfl zq.o (by omega) hzB ?_)
   intro a1 c1 w3 mN YK;have El:=U (HSB.o.grown YK mN);have hl1:(L++N1).length≤L.length+400:=by rw[List.length_append];omega
   generalize wX:L++N1=L1 at *;have HM1:=U wX;have BD:=El.o.yS.size;clear mN YK HSB zq wX;have e4:w3.cell? (aj wr.heap.size 4)=some (.slice nna ns.length nnc):=by simpa using El.o.box.cell (j:=4) rfl
   have R5:=U (RY (aH HRN.o (fun q hq=>El.o.yS.block q (HRN.o.lt q hq).2)) (Nat.le_refl _) (by omega) hn4 HNT.o)
   go_wp2_with fail
   refine(qq _ _ _ _ R5.o (by simp)).mono ?_;rintro e wc ⟨pv2,rfl,fI,aW⟩;have HSC:=U (El.o.call (((Below.refl _ _).alloc (Nat.le_refl _) _).trans (aW.mono (by simp))));have Ew:=U (show cU wc _ pv2 (repP [ns]) from fI);have Kx:=Db (ts:=ns) hn4;generalize nG:repP [ns]=N2 at *;have Vd:=U nG;have hzC:=HSC.o.yS.size;obtain⟨q2,r2,sB⟩:∃ a c,pv2=.slice a N2.length c:=ax Ew.o
   subst sB;clear fI aW R5 nG El e4
   go_wp2_with (at_builtin;refine fB _ rfl _ _ rfl _ L1 w.heap.size rfl HSC.o.pl _ N2 _ rfl Ew.o (by omega) hzC ?_)
   intro a2 c2 w4 tL pI;have oG:=U (HSC.o.grown pI tL);have MO:(L1++N2).length≤L.length+800:=by rw[List.length_append];omega
   generalize pY:L1++N2=L2 at *;have V0:=U pY;have Yj:=oG.o.yS.size;clear tL pI HSC Ew pY;have e3:w4.cell? (aj wr.heap.size 3)=some (.slice fa fs.length fc):=by simpa using oG.o.box.cell (j:=3) rfl
   go_wp2_with fail
   refine(yl _ lo _ fs (aH HRF.o (fun q hq=>oG.o.yS.block q (HRF.o.lt q hq).2)) vO).mono ?_;rintro e wd ⟨pv3,rfl,mN,bP⟩;have Ve:=U (oG.o.call bP);have CL:=U mN;have R6:(sunkP fs (fs.length-1)).length≤400:=by have:=vJ fs (fs.length-1);omega
   generalize YK:sunkP fs (fs.length-1)=N3 at *;have HN3:=U YK;have hzD:=Ve.o.yS.size;obtain⟨q3,r3,hv3⟩:∃ a c,pv3=.slice a N3.length c:=ax CL.o
   subst hv3;clear mN bP YK oG e3
   go_wp2_with (at_builtin;refine fB _ rfl _ _ rfl _ L2 w.heap.size rfl Ve.o.pl _ N3 _ rfl CL.o (by omega) hzD ?_)
   intro a3 c3 w5 RE rM;have yo:=U (Ve.o.grown rM RE);have FM:(L2++N3).length≤L.length+1200:=by rw[List.length_append];omega
   generalize Mw:L2++N3=L3 at *;have Mv:=U Mw;have YA:=yo.o.yS.size;clear RE rM Ve CL Mw;have f0:w5.cell? (aj wr.heap.size 0)=some (vI pk):=by simpa using yo.o.box.cell (j:=0) rfl
   have f1:w5.cell? (aj wr.heap.size 1)=some (.string pn.text):=by simpa using yo.o.box.cell (j:=1) rfl
   have f2:w5.cell? (aj wr.heap.size 2)=some (vI pn.at_):=by simpa using yo.o.box.cell (j:=2) rfl
   have f3:w5.cell? (aj wr.heap.size 3)=some (.slice fa fs.length fc):=by simpa using yo.o.box.cell (j:=3) rfl
   have f4:w5.cell? (aj wr.heap.size 4)=some (.slice nna ns.length nnc):=by simpa using yo.o.box.cell (j:=4) rfl
   have f5:w5.cell? (aj wr.heap.size 5)=some (.string bb):=by simpa using yo.o.box.cell (j:=5) rfl
   have f6:w5.cell? (aj wr.heap.size 6)=some (vI ba):=by simpa using yo.o.box.cell (j:=6) rfl
   have f7:w5.cell? (aj wr.heap.size 7)=some (.string ab):=by simpa using yo.o.box.cell (j:=7) rfl
   have f8:w5.cell? (aj wr.heap.size 8)=some (vI aa):=by simpa using yo.o.box.cell (j:=8) rfl
   go_wp2_with fail
   refine(vK _ lo _ X ⟨pk,pn,fs,ns,pb,pan⟩ ⟨fa,fc,nna,nnc,bb,ba,ab,aa⟩ (H.o.below yo.o.yS) HN.o hX (aH HRF.o (fun q hq=>yo.o.yS.block q (HRF.o.lt q hq).2)) vO).mono ?_;rintro e we ⟨pv4,rfl,tL,iA⟩;rw[HBQ.o] at tL;have HSE:=U (yo.o.call iA);have ZD:=U tL
   have QO:(unkP X (oH ⟨pk,pn,fs,ns,pb,pan⟩)).length≤400:=by
    have:=Gy X (oH ⟨pk,pn,fs,ns,pb,pan⟩);have:=KH (p:=⟨pk,pn,fs,ns,pb,pan⟩) vO;omega
   generalize pI:unkP X (oH ⟨pk,pn,fs,ns,pb,pan⟩)=N4 at *;have MW:=U pI;have hzE:=HSE.o.yS.size;obtain⟨q4,r4,hv4⟩:∃ a c,pv4=.slice a N4.length c:=ax ZD.o
   subst hv4;clear tL iA pI yo f0 f1 f2 f3 f4 f5 f6 f7 f8
   go_wp2_with (at_builtin;refine fB _ rfl _ _ rfl _ L3 w.heap.size rfl HSE.o.pl _ N4 _ rfl ZD.o (by omega) hzE ?_)
   intro a4 c4 w6 MJ hg6;have YL:=U (HSE.o.grown hg6 MJ);have KE:(L3++N4).length≤L.length+1600:=by rw[List.length_append];omega
   generalize hm4:L3++N4=L4 at *;have HM4:=U hm4;have hz6:=YL.o.yS.size;clear MJ hg6 HSE ZD hm4;have f0:w6.cell? (aj wr.heap.size 0)=some (vI pk):=by simpa using YL.o.box.cell (j:=0) rfl
   have f2:w6.cell? (aj wr.heap.size 2)=some (vI pn.at_):=by simpa using YL.o.box.cell (j:=2) rfl
   have Eo:=YL.o.box.lt;have aam:=U (show L4=L++(N1++N2++N3++N4) by rw[← HM4.o,← Mv.o,← V0.o,← HM1.o];simp)
   by_cases BL:pk=0
   ·have akc:((pk:Int)==0)=true:=by simp[BL]
    have R7:=seg_made w6 (madeCells #[Value.bool false] X.length) 4;rw[toList_madeCells_one,← List.map_replicate] at R7;have YM:=U R7;clear R7
    go_wp2_with fail
    refine(KC (mi (List.replicate X.length false)) w6 _ lo _ X k k w6.heap.size (List.replicate X.length false) (H.o.below YL.o.yS) HN.o hX HS.o.f ((Below.refl _ _).alloc (Nat.le_refl _) _) (Nat.le_refl _) YM.o (by simp) bC bC rfl).mono ?_;rintro e w7 ⟨r,MS,rfl,hb7,_,_,hpo⟩;have HW:=U hpo.way;have JI:=U (YL.o.call (((Below.refl _ _).alloc (Nat.le_refl _) _).trans hb7));have f2':w7.cell? (aj wr.heap.size 2)=some (vI pn.at_):=by simpa using JI.o.box.cell (j:=2) rfl
    have hz7:=JI.o.yS.size;clear hb7 hpo YM f0 f2
    cases r with
    | false=>
     go_wp2_with fail
     go_roundg (gk-1)
     case rel=>exact⟨k+1,L4,by omega,by go_num,U JI.o.pl,U (by
      rw[aam.o];refine GG.step HX.o HL.o (fun a=>?_);rw[← R4.o,← Vd.o,← HN3.o,← MW.o,← HFN.o];simp only[List.mem_append,PFI];constructor
      ·rintro(((h | h) | h) | h)
       ·exact Or.inl h
       ·exact Or.inr (Or.inl h)
       ·exact Or.inr (Or.inr (Or.inl h))
       ·exact Or.inr (Or.inr (Or.inr (Or.inl h)))
      ·rintro(h | h | h | h | h)
       ·exact Or.inl (Or.inl (Or.inl h))
       ·exact Or.inl (Or.inl (Or.inr h))
       ·exact Or.inl (Or.inr h)
       ·exact Or.inr h
       ·exact absurd (HW.o.2 h.2.1) (by decide)),by omega,JI.o.yS⟩
     case measure=>omega
    | true=>
     have Kh:∀ (wx:World) (q:Nat),cU (wx.alloc (.cells #[vI (q:Int)] 3)) wx.heap.size (.slice (some (aj wx.heap.size 0)) 1 1) [q]:=fun wx q=>World.ownsRow_lit (base:=wx.heap.size) (e:=3) (size:=1) wx #[vI (q:Int)] 1 (Nat.le_refl _) (by unfold maxLen;omega) rfl
     have HS6:=U (JI.o.call ((Below.refl _ _).alloc (Nat.le_refl _) (.cells #[vI (pn.at_:Int)] 3)));have hz8:=HS6.o.yS.size
     go_wp2_with (at_builtin;refine fB _ rfl _ _ rfl _ L4 w.heap.size rfl HS6.o.pl _ [pn.at_] _ rfl (Kh _ _) (by simp;omega) hz8 ?_)
     intro a5 c5 w8 hp8 hg8;have HS7:=U (HS6.o.grown hg8 hp8);have hl5:(L4++[pn.at_]).length≤L.length+1601:=by rw[List.length_append,List.length_singleton];omega
     clear hp8 hg8
     go_wp2_with fail
     go_roundg (gk-1)
     case rel=>exact⟨k+1,L4++[pn.at_],by omega,by go_num,U (by have:=HS7.o.pl;simpa using this),U (by
      rw[aam.o,List.append_assoc];refine GG.step HX.o HL.o (fun a=>?_);rw[← R4.o,← Vd.o,← HN3.o,← MW.o,← HFN.o];simp only[List.mem_append,List.mem_singleton,PFI];constructor
      ·rintro((((h | h) | h) | h) | h)
       ·exact Or.inl h
       ·exact Or.inr (Or.inl h)
       ·exact Or.inr (Or.inr (Or.inl h))
       ·exact Or.inr (Or.inr (Or.inr (Or.inl h)))
       ·exact Or.inr (Or.inr (Or.inr (Or.inr ⟨BL,HW.o.1 (by first | trivial | rfl),h⟩)))
      ·rintro(h | h | h | h | h)
       ·exact Or.inl (Or.inl (Or.inl (Or.inl h)))
       ·exact Or.inl (Or.inl (Or.inl (Or.inr h)))
       ·exact Or.inl (Or.inl (Or.inr h))
       ·exact Or.inl (Or.inr h)
       ·exact Or.inr h.2.2),by omega,HS7.o.yS⟩
     case measure=>omega
   ·have akc:((pk:Int)==0)=false:=by simp[BL]
    go_wp2_with fail
    go_roundg (gk-1)
    case rel=>exact⟨k+1,L4,by omega,by go_num,U YL.o.pl,U (by
     rw[aam.o];refine GG.step HX.o HL.o (fun a=>?_);rw[← R4.o,← Vd.o,← HN3.o,← MW.o,← HFN.o];simp only[List.mem_append,PFI];constructor
     ·rintro(((h | h) | h) | h)
      ·exact Or.inl h
      ·exact Or.inr (Or.inl h)
      ·exact Or.inr (Or.inr (Or.inl h))
      ·exact Or.inr (Or.inr (Or.inr (Or.inl h)))
     ·rintro(h | h | h | h | h)
      ·exact Or.inl (Or.inl (Or.inl h))
      ·exact Or.inl (Or.inl (Or.inr h))
      ·exact Or.inl (Or.inr h)
      ·exact Or.inr h
      ·exact absurd h.1 BL),by omega,YL.o.yS⟩
    case measure=>omega
  ·have HE:=U (show ∀ a,GG X k a↔PF X a from fun a=>or_congr_right ⟨fun⟨i,x,_,hx,hp⟩=>⟨i,x,hx,hp⟩,fun⟨i,x,hx,hp⟩=>⟨i,x,by have:=at_lt hx;omega,hx,hp⟩⟩)
   obtain⟨na,nc,mB⟩:∃ a c,u3=.slice a L.length c:=ax HP.o
   subst mB
   go_wp2_with fail
   go_ret
   exact⟨_,L,rfl,HP.o,fun a=>(HL.o a).trans (HE.o a),by omega,bi⟩
theorem qw:∀ (zs:List Int) (z:Int),(zs.foldl min z=z∨zs.foldl min z∈zs)∧zs.foldl min z≤z∧∀ a∈zs,zs.foldl min z≤a
 | [],z=>by simp
 | b::r,z=>by
  rw[List.foldl_cons];obtain⟨h1,h2,h3⟩:=qw r (min z b);refine⟨?_,by omega,fun a ha=>?_⟩
  ·rcases h1 with h1 | h1
   ·rw[h1]
    rcases Int.le_total z b with h | h
    ·left;omega
    ·right;rw[Int.min_eq_right h];simp
   ·right;simp[h1]
  ·rcases List.mem_cons.1 ha with rfl | ha
   ·omega
   ·exact h3 a ha
theorem KI(h:L≠[]):∃ m∈L,Lib.minOf (L.map (fun(n:Nat)=>(n:Int)))=(m:Int)∧∀ a∈L,m≤a:=by
 obtain⟨b,r,rfl⟩:=List.exists_cons_of_ne_nil h;unfold Lib.minOf;obtain⟨h1,h2,h3⟩:=qw ((b::r).map (fun(n:Nat)=>(n:Int))) (((b::r).map (fun(n:Nat)=>(n:Int))).headD 0)
 have Ku:((b::r).map (fun(n:Nat)=>(n:Int))).foldl min (((b::r).map (fun(n:Nat)=>(n:Int))).headD 0)∈(b::r).map (fun(n:Nat)=>(n:Int)):=by
  rcases h1 with h1 | h1
  ·rw[h1];simp
  ·exact h1
 obtain⟨m,hm,e⟩:=List.mem_map.1 Ku;refine⟨m,hm,e.symm,fun a ha=>?_⟩;have:=h3 (a:Int) (List.mem_map.2 ⟨a,ha,rfl⟩);rw[← e] at this;omega
theorem akf(w:World)(lo:Nat)(v:Value)(L:List Nat)(h:cU w lo v L)(bT:L≠[])(hl:L.length≤1000000):
  aT 95 #[v] w fun e w'=>∃ m:Nat,e=.returned (vI m)∧w'=w∧m∈L∧∀ a∈L,m≤a:=by
 have ux:0<L.length:=List.length_pos_iff.2 bT;obtain⟨g,c,hv,hg,hc⟩:=VV h ux;subst hv;obtain⟨m,hm,e,hle⟩:=KI bT;refine(ua g 0 L.length c (L.map (fun(n:Nat)=>(n:Int))) w ux (by simp) (by omega) (fun j hj=>?_)).mono ?_
 ·have Vf:j<L.length:=by simpa using hj
  have:=hc j L[j] (List.getElem?_eq_getElem Vf);rw[Nat.zero_add,this];simp[List.getD_eq_getElem?_getD,List.getElem?_eq_getElem Vf]
 ·rintro e' w' ⟨rfl,rfl⟩
  exact⟨m,by rw[List.take_of_length_le (by simp),e],rfl,hm,hle⟩
def ReadOk(s:ByteArray)(w:World)(lo:Nat)(lv:Value):Prop:=∃ X:List PIV,(parseP s).1=some (X.map (fun x=>x.it))∧PIts w lo lv X∧X.length≤400∧(∀ a,¬ PF X a)
theorem read_any(s:ByteArray)(w:World)(hv:Vars w)(hs:s.size≤maxLen):
  aT 67 #[.string s] w fun e w'=>∃ (lv:Value) (n:Option Addr) (c1 c2:Nat) (E P:Int),lv=.slice n c1 c2∧e=.returned (.tuple #[lv,vI E,vI P])∧Below w.heap.size w w'∧cC s E P∧(E=0→ReadOk s w' (w.heap.size+1) lv):=by
 unfold maxLen at hs;have HV:=U hv;clear hv
 by_cases h4:s.size≤400
 ·go_enter func67,ntmps67
  go_wp2_with fail
  refine(OF s _ HV.o h4).mono ?_;rintro e w1 ⟨lv,P,rfl,aA,Cg⟩
  rcases Cg with⟨hn,rfl,rfl⟩ | ⟨X,hX,rfl,OW,hl⟩
  ·have HA:=U (show cC s 2 ((parseP s).2.at_:Int) from Or.inr ⟨h4,Or.inl ⟨hn,rfl,rfl⟩⟩)
   clear hn;generalize (parseP s).2.at_=p at *
   go_wp2_with fail
   go_ret3
   exact⟨_,_,0,0,2,(p:Int),rfl,rfl,aA,HA.o,fun h=>by omega⟩
  ·obtain⟨la,lc,nk⟩:∃ a c,lv=.slice a X.length c:=ax OW.own
   subst nk;have HF:=U (GB hX);obtain⟨akg,akh,aki,V1⟩:=vG hX;have aeZ:Nms X:=fun x hx=>V1 x.it (List.mem_map.2 ⟨x,hx,rfl⟩)
   have HX:=U hX;have HI:=U OW;have Kj:=U aeZ;have V2:=U (small_of HF.o h4);clear hX OW aeZ akg akh aki V1
   go_wp2_with fail
   refine(Ak _ _ _ X HI.o Kj.o hl V2.o).mono ?_;rintro e w2 ⟨nv,L,rfl,hP,hL,hLl,aW⟩;have yn:=aA.trans (aW.mono aA.size);obtain⟨na,nc,mB⟩:∃ a c,nv=.slice a L.length c:=ax hP
   subst mB;have HP:=U hP;have HL:=U hL;clear hP hL
   by_cases bT:L=[]
   ·have HA:=U (show cC s 0 0 from Or.inr ⟨h4,Or.inr ⟨X,HX.o,Or.inr ⟨fun a ha=>by have:=(HL.o a).2 ha;rw[bT] at this;simp at this,rfl,rfl⟩⟩⟩)
    have Vc:L.length=0:=by rw[bT];rfl
    have HK:=U (show ReadOk s w2 (w.heap.size+1) (.slice la X.length lc) from⟨X,HX.o,HI.o.below aW,hl,fun a ha=>by have:=(HL.o a).2 ha;rw[bT] at this;simp at this⟩);generalize L.length=ll at *;clear bT
    go_wp2_with fail
    go_ret3
    exact⟨_,_,_,_,0,0,rfl,rfl,yn,HA.o,fun _=>HK.o⟩
   ·have ux:0<L.length:=List.length_pos_iff.2 bT
    have HNE:=U bT;clear bT
    go_wp2_with fail
    refine(akf _ _ _ L HP.o HNE.o hLl).mono ?_;rintro e w3 ⟨m,rfl,rfl,hm,V3⟩;have HA:=U (show cC s 3 (m:Int) from Or.inr ⟨h4,Or.inr ⟨X,HX.o,Or.inl ⟨m,(HL.o m).1 hm,fun a ha=>V3 a ((HL.o a).2 ha),rfl,rfl⟩⟩⟩);clear hm V3
    go_wp2_with fail
    go_ret3
    exact⟨_,_,0,0,3,(m:Int),rfl,rfl,yn,HA.o,fun h=>by omega⟩
 ·have HA:=U (show cC s 1 0 from Or.inl ⟨by omega,rfl,rfl⟩)
  have hgt:(400:Int)<(s.size:Int):=by omega
  go_enter func67,ntmps67
  go_wp2_with fail
  go_ret3
  exact⟨_,_,0,0,1,0,rfl,rfl,Below.refl _ _,HA.o,fun h=>by omega⟩
end Go.Proofs.YtkpfplbmmglkkaaGreatDoor
