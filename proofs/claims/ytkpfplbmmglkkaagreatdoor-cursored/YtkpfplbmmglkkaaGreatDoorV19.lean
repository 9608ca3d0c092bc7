/- Package ends: the client: asker, tell. -/
import Derived.Test.YtkpfplbmmglkkaaGreatDoorV18
set_option linter.all false
set_option maxHeartbeats 4000000
set_option maxRecDepth 100000
namespace Go.Proofs.YtkpfplbmmglkkaaGreatDoor
open Go.Proofs.Tryz
variable {lo:Nat}{w w':World}{g:CG}{T E:TypeId}{α:Type}{l1 l2:List fh}{m:fh}
open Go.RowKit Go.Conc
theorem eH.kf(h:eH lo w g):¬ aL g.aF w.heap.size:=fun hk=>by have:=(h.dR.lt hk).2;omega
theorem fW.ap{g':CG}{p:CP}{n:Nat}{xs:List Value}(h:fW lo w g p w' g')(hB:aZ w n T xs)(hn:¬ aL g.aF n):aZ w' n T xs∧¬ aL g'.aF n :=
 ⟨hB.dW h.grow.c hn,fun hk=>by
  rcases h.grow.k n hk with e | e
  ·exact hn e
  ·have:=hB.lt;omega⟩
theorem Dz(hu:Tryz.prog.underlying T=some (.pointer E))(w:World)(b:Nat):(binOp .eql T (aM b) (.pointer none)).run Tryz.prog w=.ok (.bool false) w:=by
 have h1:∀ d:Nat,(Op.equalIn (d+1) T (aM b) (.pointer none)).run Tryz.prog w=.ok false w:=fun d=>by simp[Op.equalIn,run_underlying hu]
 have h2:(Op.equal T (aM b) (.pointer none)).run Tryz.prog w=.ok false w:=h1 9999;simp[binOp,h2]
theorem PB(hu:Tryz.prog.underlying T=some (.pointer E))(w:World):(binOp .eql T (.pointer none) (.pointer none)).run Tryz.prog w=.ok (.bool true) w:=by
 have h1:∀ d:Nat,(Op.equalIn (d+1) T (.pointer none) (.pointer none)).run Tryz.prog w=.ok true w:=fun d=>by simp[Op.equalIn,run_underlying hu]
 have h2:(Op.equal T (.pointer none) (.pointer none)).run Tryz.prog w=.ok true w:=h1 9999;simp[binOp,h2]
theorem Y6(h:eH lo w g)(hS:yy g.st)(p:aS)(hp:p.number≤1000000000000):
  aT 234 #[aM g.b,lQ p] w (fun e w'=>e=.returned (.tuple #[])∧∃ g',fW lo w g (g.st.qb p) w' g'):=by
 obtain⟨gY,il,Cb,BH,U7,CU⟩:=hS.gg;obtain⟨w0,eM,aN,aD⟩:=eK w p;obtain⟨e0,e1,e2,e3,e4,e5⟩:=aD.c6;have yz:=U h.kf;have H:=U h;have Hb:=U aN;have HB:=U aD;clear h aD aN
 go_enter func234,ntmps234
 go_wp2_with fail
 refine(yX (H.o.below Hb.o) p).mono ?_;rintro e w1 ⟨rfl,aA⟩;have aW:=Hb.o.trans (aA.mono Hb.o.size);have kJ:=U (HB.o.below aA);have r3:=kJ.o.ce 3 rfl
 cases ho:g.st.fO p with
 | false=>
  have HE:=U (show g.st.qb p=g.st by unfold CP.qb;rw[ho];rfl)
  go_wp2_with fail
  (try simp only[Exit.inBlock,Exit.then]);refine bodyPost_ret (results_none rfl _ _ _) rfl ?_
  exact⟨rfl,g,by rw[HE.o];exact fW.refl H.o aW⟩
 | true=>
  go_wp2_with fail
  refine(Ng (H.o.below aW) gY (p.number+1)).mono ?_;rintro e w2 ⟨rfl,g2,h2⟩;have nG:=h2.ap kJ.o yz.o;have gX:=U nG.1;have Vd:=U nG.2;have H2:=U h2;have fI:g2.b=g.b:=h2.b
  have oG:=U (show yy g2.st by
   rw[h2.st]
   exact⟨Nat.le_trans (List.length_filter_le _ _) hS.a,hS.s,hS.ca,hS.at_,hS.si,hS.n⟩)
  obtain⟨s0,s1,s2,s3,s4,s5⟩:=gX.o.c6;clear h2 nG
  go_wp2_with fail
  rw[← fI];refine(E4 H2.o.dM oG.o p).mono ?_;rintro e w3 ⟨hR,bP⟩;have pU:=U ((H2.o.bz aW).below bP);have lE:=U (gX.o.below bP);obtain⟨t0,t1,t2,t3,t4,t5⟩:=lE.o.c6
  have HSE:=U (show g.st.qb p=(match g2.st.ew p with
   | none=>g2.st.post (aw 5 g2.ah g2.ag p.number 0)
   | some i=>match g2.st.ae[i]? with
    | some s=>g2.st.post (aw 4 g2.ah g2.ag p.number s.aX)
    | none=>g2.st) by
   have e1:g2.ah=g.ah:=by have:=congrArg CP.ah H2.o.st;exact this
   have e2:g2.ag=g.ag:=by have:=congrArg CP.ag H2.o.st;exact this
   rw[e1,e2,H2.o.st];unfold CP.qb;rw[ho]
   rfl)
  have jn:=U fI;have H3:=U (H2.o.dM.below bP);clear fI
  rcases hR with⟨hr,rfl⟩ | ⟨i,mm,hr,wY,rfl⟩
  ·have hq:=PB (T:=126) underlying126 w3
   have HF:=U (show g.st.qb p=g2.st.post (aw 5 g2.ah g2.ag p.number 0) by rw[HSE.o,hr]);clear hr
   go_wp2_with fail
   go_region_with (first | (go_at_call 118;refine(zM (w:=w3.drew) H3.o.drew 5 p.number).mono ?_;rintro e w4 ⟨rfl,iA⟩) | (go_at_call 106;refine((H3.o.drew.below iA).post (aw 5 g2.ah g2.ag p.number 0)).mono ?_;rintro e w5 ⟨rfl,h5,_⟩;have H5:=U h5;clear h5))
   all_goals
    go_wp2_with fail
    (try simp only[Exit.inBlock,Exit.then]);refine bodyPost_ret (results_none rfl _ _ _) rfl ?_
    exact⟨rfl,_,by rw[HF.o];exact pU.o.trans (H5.o.bz ((Below.refl _ w3).drew.trans iA))⟩
  ·have hq:=Dz (T:=126) underlying126 w3 mm.ap
   have HF:=U (show g.st.qb p=g2.st.post (aw 4 g2.ah g2.ag p.number mm.s.aX) by
    have e:g2.st.ae[i]? = some mm.s:=by unfold CG.st;simp[wY]
    rw[HSE.o,hr];show (match g2.st.ae[i]? with | some s=>g2.st.post (aw 4 g2.ah g2.ag p.number s.aX) | none=>g2.st)=_
    rw[e])
   have jQ:i<g2.ae.length:=(List.getElem?_eq_some_iff.1 wY).1;have him:g2.ae[i]=mm:=(List.getElem?_eq_some_iff.1 wY).2;have HM:=U (him ▸ H3.o.iO jQ);clear hr wY him jQ
   go_wp2_with fail
   refine(zM H3.o 4 p.number).mono ?_;rintro e w4 ⟨rfl,iA⟩;have HM4:=U (HM.o.below iA);obtain⟨w5,atA,afZ,E5⟩:=zw w4 4 g2.ah g2.ag p.number 0 ⟨#[]⟩;obtain⟨u0,u1,u2,u3,u4,u5⟩:=E5.c6;have fu0:=E5.aq 0;have fu1:=E5.aq 1;have fu2:=E5.aq 2;have fu3:=E5.aq 3;have fu4:=E5.aq 4;have fu5:=E5.aq 5;have ja:=iA.trans (afZ.mono iA.size);have JB:=(fh.iz HM4.o).lt;have n12:w5.cell? (aj mm.ap 12)=some (vU mm.s.aX):=(fh.iz (HM.o.below ja)).cell 12;have JP:=((E5.set 4 (vU 0)).set 5 (.string ⟨#[]⟩)).set 4 (vU mm.s.aX);have G2:=((ja.setCell (p:=(aj w4.heap.size 4)) iA.size (vU 0)).setCell (p:=(aj w4.heap.size 5)) iA.size (.string ⟨#[]⟩)).setCell (p:=(aj w4.heap.size 4)) iA.size (vU mm.s.aX);obtain⟨w6,qX⟩:∃ w6,((w5.setCell (aj w4.heap.size 4) (vU 0)).setCell (aj w4.heap.size 5) (.string ⟨#[]⟩)).setCell (aj w4.heap.size 4) (vU mm.s.aX)=w6:=⟨_,rfl⟩
   rw[qX] at JP G2;obtain⟨v0,v1,v2,v3,v4,v5⟩:=JP.c6;have Hb6:=U G2;clear JP G2 E5 afZ ja iA
   go_wp2_with fail
   go_region_with (go_at_call 106;refine((H3.o.below Hb6.o).drew.post (aw 4 g2.ah g2.ag p.number mm.s.aX)).mono ?_;rintro e w7 ⟨rfl,h7,_⟩;have H7:=U h7;clear h7)
   all_goals
    go_wp2_with fail
    go_end0
    exact⟨rfl,_,by rw[HF.o];exact pU.o.trans (H7.o.bz Hb6.o.drew)⟩
theorem DC[Inhabited α]{enc:α → Value}{w:World}{lo g n c:Nat}{e:TypeId}{l:List α}(h:w.ownsRow lo e 1 (.slice (some (aj g 0)) n c) n (l.map enc)):Go.Sort.Holds enc w g 0 l.toArray:=by
 intro j hj;have Vf:j<l.length:=by simpa using hj
 have h1:=h.cells (g:=g) rfl j (enc l[j]) (by simp[Vf]);rw[dF _ _ rfl] at h1;refine⟨?_,gJ h _⟩;have e1:l.toArray[j]! = l[j]:=by simp[Vf]
 rw[e1];simpa using h1
theorem Cx[Inhabited α](enc:α → Value)(l:List α)(cur:Array Value)(h:l.length≤cur.size):(Go.Sort.putCells enc 0 l.toArray cur).toList.take l.length=l.map enc:=by
 apply List.ext_getElem?;intro k
 rcases Nat.lt_or_ge k l.length with hk | hk
 ·have Va:k<cur.size:=by omega
  rw[List.getElem?_take_of_lt hk];unfold Go.Sort.putCells;simp[hk,Va]
 ·rw[List.getElem?_eq_none (by simp;omega),List.getElem?_eq_none (by simp;omega)]
theorem Nh[Inhabited α]{enc:α → Value}{w:World}{lo g n c:Nat}{e:TypeId}{xs:List Value}{l:List α}(h:w.ownsRow lo e 1 (.slice (some (aj g 0)) n c) n xs)(hl:l.length=n)(q m:Nat)(hm:m≤n):
  (Go.Sort.putRow enc (Go.Sort.ahead w q) g 0 l.toArray).ownsRow lo e 1 (.slice (some (aj g 0)) m c) m ((l.take m).map enc)∧aQ (fun k=>k=g) w (Go.Sort.putRow enc (Go.Sort.ahead w q) g 0 l.toArray):=by
 obtain⟨h1,h2⟩:=h
 rcases h2 with⟨hv,_⟩ | ⟨g',cap,cur,hv,di,hh,h3,h4,h5,h6⟩
 ·simp at hv
 ·obtain⟨rfl,rfl⟩:g=g'∧c=cap:=by simpa using hv
  have hg:g<w.heap.size:=(Array.getElem?_eq_some_iff.1 hh).1;refine⟨⟨by simp;omega,Or.inr ⟨g,c,Go.Sort.putCells enc 0 l.toArray cur,rfl,di,?_,by omega,h4,by unfold Go.Sort.putCells;simp[h5],?_⟩⟩,rfl,rfl,rfl,?_,?_⟩
  ·show (w.heap.modify g (Go.Sort.onCells (Go.Sort.putCells enc 0 l.toArray)))[g]? = _
   rw[Array.getElem?_modify,if_pos rfl,hh];rfl
  ·have e1:=Cx enc l cur (by omega)
   rw[List.map_take,← e1,List.take_take,Nat.min_eq_left (by omega),Nat.mul_one]
  ·show w.heap.size≤(w.heap.modify g _).size
   simp
  ·intro k hk bT
   show (w.heap.modify g (Go.Sort.onCells (Go.Sort.putCells enc 0 l.toArray)))[k]? = _;rw[Array.getElem?_modify,if_neg (fun e=>bT e.symm)]
theorem Ii(l:List α)(i:Nat)(z:α)(hi:i<l.length):(l.take i++l.drop (i+1)++List.replicate (i+1-i) z).take (l.length-1)=l.eraseIdx i:=by
 rw[List.eraseIdx_eq_take_drop_succ];rw[List.take_append_of_le_length (by simp;omega)];exact List.take_of_length_le (by simp;omega)
theorem Ni{o:Option TypeInfo}{z:Option Value}{s b:Nat}(h:o.map (fun i=>(i.zero,i.size,i.bytes))=some (z,s,b)):∃ i,o=some i∧i.size=s:=by
 cases o with
 | none=>simp at h
 | some i=>exact⟨i,rfl,by simp at h;exact h.2.1⟩
theorem DD{β:Type}(f:α → β)(l:List α)(i:Nat):(l.map f).eraseIdx i=(l.eraseIdx i).map f:=by
 rw[List.eraseIdx_eq_take_drop_succ,List.eraseIdx_eq_take_drop_succ,List.map_append,List.map_take,List.map_drop]
def ptE(a:Option Addr):Value:=.pointer a
theorem Tp(l:List Nat):(l.map fun b=>(some (aj b 0):Option Addr)).map ptE=l.map aJ:=by simp[ptE,aJ]
theorem af0:OneCell ptE:=fun _=>rfl
theorem aa9:OneCell Value.string:=fun _=>rfl
theorem Tryz.infodelStrD:(Tryz.prog.info? 126).map (fun i=>(i.zero,i.size,i.bytes))=some (some (.pointer none),1,8):=by kernel_rfl
theorem aba(w:World)(lo:Nat)(v:Value)(l:List Nat)(i:Nat)(h:w.ownsRow lo 126 1 v l.length (l.map aJ))(hi:i<l.length):
  aT 128 #[v,vI i,vI ((i:Int)+1)] w (fun e w'=>∃ v',e=.returned v'∧w'.ownsRow lo 126 1 v' (l.eraseIdx i).length ((l.eraseIdx i).map aJ)∧v'.ownBlock=v.ownBlock∧aQ (fun k=>v.ownBlock=some k) w w'):=by
 rcases h.2 with⟨_,e⟩ | ⟨g,c,cur,rfl,h2,h3,h4,h5,h6,h7⟩
 ·omega
 rw[← Tp] at h;obtain⟨i0,Ri,mF⟩:=Ni Tryz.infodelStrD;have hc:=ng (α:=Option Addr) ptE af0 none (fun w=>by simp[go_sem,ptE]) i0 Ri mF g 0 c i (i+1) (l.map fun b=>(some (aj b 0):Option Addr)).toArray w (DC h) (by simp;omega) (by unfold maxLen at h5;omega) (by omega) (by simp;omega);simp only[List.size_toArray,List.length_map] at hc;refine Calls.mono hc ?_;rintro e w' ⟨rfl,q,rfl⟩;have hp:=Nh (enc:=ptE) (l:=(l.map fun b=>(some (aj b 0):Option Addr)).take i++(l.map fun b=>(some (aj b 0):Option Addr)).drop (i+1)++List.replicate (i+1-i) none) h (by simp;omega) q (l.length-1) (by omega);have e1:l.length-1=(l.eraseIdx i).length:=by rw[List.length_eraseIdx_of_lt hi]
 have e2:=Ii (l.map fun b=>(some (aj b 0):Option Addr)) i none (by simpa using hi);rw[List.length_map] at e2;rw[e2,DD,Tp] at hp;refine⟨_,rfl,?_,rfl,hp.2.mono (fun k _ hk=>by rw[hk];rfl)⟩;rw[← e1,show l.length-(i+1-i)=l.length-1 by omega];exact hp.1
theorem Tryz.infoTxtD:(Tryz.prog.info? 9).map (fun i=>(i.zero,i.size,i.bytes))=some (some (.string ⟨#[]⟩),1,16):=by kernel_rfl
theorem abb(w:World)(lo:Nat)(v:Value)(l:List ByteArray)(i:Nat)(h:w.ownsRow lo 9 1 v l.length (l.map Value.string))(hi:i<l.length):
  aT 176 #[v,vI i,vI ((i:Int)+1)] w (fun e w'=>∃ v',e=.returned v'∧w'.ownsRow lo 9 1 v' (l.eraseIdx i).length ((l.eraseIdx i).map Value.string)∧v'.ownBlock=v.ownBlock∧aQ (fun k=>v.ownBlock=some k) w w'):=by
 rcases h.2 with⟨_,e⟩ | ⟨g,c,cur,rfl,h2,h3,h4,h5,h6,h7⟩
 ·omega
 obtain⟨i0,Ri,mF⟩:=Ni Tryz.infoTxtD;have hc:=oz (α:=ByteArray) Value.string aa9 ⟨#[]⟩ (fun w=>by simp[go_sem]) i0 Ri mF g 0 c i (i+1) l.toArray w (DC h) (by simp;omega) (by unfold maxLen at h5;omega) (by omega) (by simp;omega);simp only[List.size_toArray] at hc;refine Calls.mono hc ?_;rintro e w' ⟨rfl,q,rfl⟩;have hp:=Nh (enc:=Value.string) (l:=l.take i++l.drop (i+1)++List.replicate (i+1-i) ⟨#[]⟩) h (by simp;omega) q (l.length-1) (by omega);have e1:l.length-1=(l.eraseIdx i).length:=by rw[List.length_eraseIdx_of_lt hi]
 rw[Ii l i _ hi] at hp;refine⟨_,rfl,?_,rfl,hp.2.mono (fun k _ hk=>by rw[hk];rfl)⟩;rw[← e1,show l.length-(i+1-i)=l.length-1 by omega];exact hp.1
theorem eH.uK(hs:g.ae=l1++m::l2):g.aF.Perm (m.aF++(g.bB++(g.bq++(g.jq++(cx 126 1 g.sv g.ae.length (g.ae.map (fun m=>aJ m.ap))++(l1.flatMap fh.aF++(l2.flatMap fh.aF++(cx 213 1 g.cv g.aU.length (g.aU.map (fun m=>aJ m.ap))++g.aU.flatMap Ge.aF)))))))):=bF (fun p=>by
 unfold CG.aF CG.rest CG.jq;have e3:g.ae.flatMap fh.aF=l1.flatMap fh.aF++(m.aF++l2.flatMap fh.aF):=by rw[hs];simp
 rw[e3];simp only[aP]
 omega)
theorem eH.Y7(h:eH lo w g)(hs:g.ae=l1++m::l2)(v:Value)(hc:aQ (fun k=>k=g.b∨g.sv.ownBlock=some k) w w')(hB:aZ w' g.b 99 ({ g with sv:=v,ae:=l1++l2 }:CG).cells)
  (hA:w'.ownsRow lo 126 1 v (l1++l2).length ((l1++l2).map (fun m=>aJ m.ap))) (iZ:v.ownBlock=g.sv.ownBlock):fW lo w g ({ g with sv:=v,ae:=l1++l2 }:CG).st w' { g with sv:=v,ae:=l1++l2 }:=by
 obtain⟨yY,mr⟩:=fQ hA (by decide)
 have hh:cE lo w' (({ g with sv:=v,ae:=l1++l2 }:CG).bB++cx 126 1 v (l1++l2).length ((l1++l2).map (fun m=>aJ m.ap))):=ay.2 ⟨ct h.MB hB (by decide),yY,fun a ha c fZ e=>by
  rw[List.mem_singleton.1 ha] at e;have hk:=(be (e:=126) mr).1 ⟨c,fZ,rfl⟩;have e':g.b=c.1:=e;rw[← e'] at hk
  exact hB.bY hA (by decide) hk⟩
 have hg:cM w (g.bB++(cx 126 1 g.sv g.ae.length (g.ae.map (fun m=>aJ m.ap))++m.aF)) w' (({ g with sv:=v,ae:=l1++l2 }:CG).bB++cx 126 1 v (l1++l2).length ((l1++l2).map (fun m=>aJ m.ap))):=⟨hc.mono (fun i _ hi=>by
  rcases hi with rfl | hi
  ·exact aL.bM.2 (Or.inl (aL.one.2 rfl))
  ·exact aL.bM.2 (Or.inr (aL.bM.2 (Or.inl ((be h.rs).2 hi))))),fun k hk=>by
  rcases aL.bM.1 hk with e | e
  ·exact Or.inl (aL.bM.2 (Or.inl (aL.one.2 ((aL.one.1 e).trans rfl))))
  ·exact Or.inl (aL.bM.2 (Or.inr (aL.bM.2 (Or.inl ((be h.rs).2 (iZ ▸ (be mr).1 e))))))⟩
 have p1:g.aF.Perm ((g.bB++(cx 126 1 g.sv g.ae.length (g.ae.map (fun m=>aJ m.ap))++m.aF))++(g.bq++(g.jq++(l1.flatMap fh.aF++(l2.flatMap fh.aF++(cx 213 1 g.cv g.aU.length (g.aU.map (fun m=>aJ m.ap))++g.aU.flatMap Ge.aF)))))):=(eH.uK hs).trans (bF (fun p=>by simp only[aP];omega))
 have p2:((({ g with sv:=v,ae:=l1++l2 }:CG).bB++cx 126 1 v (l1++l2).length ((l1++l2).map (fun m=>aJ m.ap)))++(g.bq++(g.jq++(l1.flatMap fh.aF++(l2.flatMap fh.aF++(cx 213 1 g.cv g.aU.length (g.aU.map (fun m=>aJ m.ap))++g.aU.flatMap Ge.aF)))))).Perm ({ g with sv:=v,ae:=l1++l2 }:CG).aF:=bF (fun p=>by
  show _=cnt p (({ g with sv:=v,ae:=l1++l2 }:CG).bB++(g.bq++(g.jq++(cx 126 1 v (l1++l2).length ((l1++l2).map (fun m=>aJ m.ap))++((l1++l2).flatMap fh.aF++(cx 213 1 g.cv g.aU.length (g.aU.map (fun m=>aJ m.ap))++g.aU.flatMap Ge.aF))))));rw[List.flatMap_append];simp only[aP]
  omega)
 exact⟨⟨((h.dR.bZ p1).dE hh hg).bZ p2,h.ra,mr,h.rc,fun m' WN=>h.rv m' (by rw[hs];rcases List.mem_append.1 WN with e | e;exact List.mem_append_left _ e;exact List.mem_append_right _ (List.mem_cons_of_mem _ e))⟩,rfl,hg.dE.bZ p1.symm p2,rfl,rfl,rfl,rfl,rfl⟩
end Go.Proofs.YtkpfplbmmglkkaaGreatDoor
