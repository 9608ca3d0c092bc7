/- Package ends: the server: push of values. -/
import Derived.Test.YtkpfplbmmglkkaaGreatDoorV24
import Derived.Lib.MinMax
import Derived.LaidEqlPtr
set_option linter.all false
set_option maxHeartbeats 4000000
set_option maxRecDepth 100000
namespace Go.Proofs.YtkpfplbmmglkkaaGreatDoor
open Go.Proofs.Tryz
variable {up:Bool}{L L':List aS}{g g':SG}{s:cZ}{i lo a b W k ms gA clock born it since c0:Nat}{m:iq}{w w':World}{t:eZ}{p:SP}{o:pH}{Ts:List jS}{fs done rest:List cY}{f:cY}{Fs:List iq}
open Go.RowKit Go.Conc
theorem Iw{p:aS}(h:lF up L p=false):bo up L p=L:=by
 unfold bo;unfold lF at h
 split
 ·rename_i hc
  rw[hc.1] at h;have:L.length<60:=hc.2.2;simp[this] at h
 ·rfl
theorem TG(hs:g.aY=some s)(hi:s.af[i]? = some m):uN g s i m m.f.az g.L=g:=by
 unfold uN;rw[uM hi];cases g;simp only at hs;rw[hs]
theorem abr(g:SG)(s:cZ)(i:Nat)(m:iq)(az:Nat)(L:List aS):(uN g s i m az L).st = { g.st with aY:=some { s.o with af:=s.o.af.set i { m.f with az:=az } },L:=L }:=by
 unfold uN SG.st cZ.o;simp only[Option.map_some,List.map_set]
theorem Ix(hi:s.af[i]? = some m)(a:Nat):({ s with af:=s.af.set i { m with f:={ m.f with az:=a } } }:cZ).af[i]? = some { m with f:={ m.f with az:=a } }:=by
 show (s.af.set i _)[i]? = _;simp[(List.getElem?_eq_some_iff.1 hi).1]
theorem TH(h:cB lo w (uN g s i m a L))(hi:s.af[i]? = some m)(hc:aQ (fun k=>k=m.ap) w w')(hB:aZ w' m.ap 160 (eU s.ap g.dz { m with f:={ m.f with az:=b } })):
  dw lo w (uN g s i m a L) (uN g s i m b L).st w' (uN g s i m b L):=by
 have hT:=h.TE (m:={ m with f:={ m.f with az:=a } }) (m':={ m with f:={ m.f with az:=b } }) rfl (Ix hi a) rfl hc hB;simp only[List.set_set] at hT;exact⟨hT.cN,rfl,hT.grow,hT.b,hT.iv,hT.qU⟩
theorem Ll(h:cB lo w (uN g s i m a L))(hi:s.af[i]? = some m):aZ w m.ap 160 (eU s.ap g.dz { m with f:={ m.f with az:=a } }):=h.uL (s:={ s with af:=s.af.set i { m with f:={ m.f with az:=a } } }) (m:={ m with f:={ m.f with az:=a } }) rfl (Ix hi a)
theorem abt(h:cB lo w (uN g s i m a L)):aZ w s.ap 157 (ec s):=h.fL (s:={ s with af:=s.af.set i { m with f:={ m.f with az:=a } } }) rfl
theorem WX(hs:g.aY=some s)(hi:s.af[i]? = some m)(ht:g.au[m.f.aG]? = some t)(hm:m.f.ey=false)(bC:¬ m.f.aX+1<t.t.first)(Y8:¬ (t.bD=true∧m.f.aX=t.count)){az:Nat}{L:List aS}
  (h:kP g.up (eJ s.ah s.number t.t m.f) (min t.count (m.f.aX+g.W)-m.f.az) m.f.az g.L=(az,L)):(uN g s i m az L).st=g.st.fP g.W i:=by
 have e:cw g.up g.W s.ah s.number t.t m.f g.L=({ m.f with az:=az },L):=by
  unfold cw;rw[if_neg (by rw[hm];simp),if_neg bC,if_neg (show ¬ (t.t.bD=true∧m.f.aX=t.t.count) from Y8)];show ({ m.f with az:=(kP g.up (eJ s.ah s.number t.t m.f) (min t.count (m.f.aX+g.W)-m.f.az) m.f.az g.L).1 },(kP g.up (eJ s.ah s.number t.t m.f) (min t.count (m.f.aX+g.W)-m.f.az) m.f.az g.L).2)=_;rw[h]
 rw[ww hs hi ht,e,abr]
theorem abu(hl:t.ks.length≤t.count){pos:Nat}(h1:t.t.first≤pos)(h2:pos≤t.count):∃ k,t.ks[pos-t.t.first]? = some k∧(t.t.dJ[pos-t.t.first]?).getD []=k.d:=by
 have e:t.t.first=t.count-t.ks.length+1:=by unfold jS.first eZ.t;simp only[List.length_map]
 have bC:pos-t.t.first<t.ks.length:=by omega
 refine⟨t.ks[pos-t.t.first],List.getElem?_eq_getElem bC,?_⟩;unfold eZ.t;rw[List.getElem?_map,List.getElem?_eq_getElem (by exact bC)];rfl
theorem Lm(h:cB lo w g)(hs:g.aY=some s)(hi:s.af[i]? = some m)(ht:g.au[m.f.aG]? = some t)(hl:t.ks.length≤t.count)(hc:t.count≤1000000000000)(alO:m.f.aX≤1000000000000)(hm:m.f.ey=false)(bC:¬ m.f.aX+1<t.t.first)(Y8:¬ (t.bD=true∧m.f.aX=t.count))(xT:m.f.aX≤m.f.az)(hW:g.W≤1000)(hsn:m.f.az≤1000000000000):
  aT 73 #[aM g.b,aM m.ap] w (fun e w'=>e=.returned (.tuple #[])∧∃ az L,dw lo w g (g.st.fP g.W i) w' (uN g s i m az L)):=by
 have hF:=h.uL hs hi;have d2:w.cell? (aj m.ap 2)=some (aM t.ap):=(show w.cell? (aj m.ap 2)=some (aJ (vw g.dz m.f.aG)) from hF.cell 2).trans (by rw[SG.Lj ht];rfl);have H:=U h;have HF:=U hF;have HS:=U (h.fL hs);have HT:=U (eZ.iz (h.ny ht));have HTO:=U (h.xG ht).rk;have HGL:=U (fun L'=>No hs hi L');have HLl:=U hl;have nX:=U (fun(az:Nat) (L:List aS) (h:kP g.up (eJ s.ah s.number t.t m.f) (min t.count (m.f.aX+g.W)-m.f.az) m.f.az g.L=(az,L))=>WX hs hi ht hm bC Y8 h);have TI:=U (TG hs hi);have HI:=U hi;have HTt:=U ht;have HNF:=U Y8;have HLT:=U bC;have d1W:=h.ap.ce 1 rfl;have hwg:IntKind.u64.wrap ((m.f.aX:Int)+1)=(m.f.aX:Int)+1:=by rw[IntKind.wrap_u64];omega
 obtain⟨Fi,Fb⟩:∃ Fi,t.t.first=Fi:=⟨_,rfl⟩
 rw[Fb] at bC;have yB:=U Fb
 have d5:w.cell? (aj m.ap 5)=some (.bool false):=by
  have:=hF.cell 5;rw[this];show some (Value.bool m.f.ey)=_;rw[hm]
 have d3:=hF.ce 3 rfl;have Ck:=U (show ∀ w',Below w.heap.size w w'→w'.cell? (aj m.ap 3)=some (vU m.f.aX) from fun w' kW=>(hF.below kW).cell 3);have vr:decide ((m.f.aX:Int)+1<(Fi:Int))=false:=by simp;omega
 have HFg:=U (show Fi≤m.f.aX+1 by omega);clear h hs hi ht hF hl Fb bC Y8
 go_enter func73,ntmps73
 go_wp2_with fail
 go_region_held3 (fun w'=>w'.cell? (aj m.ap 3)=some (vU m.f.aX))
  (exact Ck.o _ (by repeat (first | with_reducible assumption | with_reducible exact iV.o | with_reducible exact Below.refl _ _ | with_reducible apply Below.drew)))
  (first | (go_at_call 108;refine(yZ (w:=w.drew) (m:=t) HT.o HTO.o HLl.o hc).mono ?_;rintro e w1 ⟨rfl,aA⟩;have iV:=U (show Below w.heap.size w w1 from(Below.refl _ w).drew.trans aA);clear aA;rw[yB.o]))
 all_goals
  have VI:=HF.o.below iV.o;have mA:=HT.o.below iV.o;have k3:=VI.ce 3 rfl;have t2:=mA.ce 2 rfl;have t4:=mA.ce 4 rfl;clear VI mA
  go_upto_region 8 with fail
  go_cut [84] (fun s84 wx=>s84=.bool false∧Hid (Below w1.heap.size w1 wx))
  case first=>
   cases rG:t.bD with
   | false=>
    rw[rG] at t4
    go_quiet (fail)
    go_wp2_with fail
    go_meet
    case rel=>exact⟨rfl,U (below_drewN (Below.refl _ _) _)⟩
   | true=>
    rw[rG] at t4
    have hde:((m.f.aX:Int)==(t.count:Int))=false:=by
     have:=HNF.o;rw[beq_eq_false_iff_ne];intro e;exact this ⟨rG,by omega⟩
    go_quiet (fail)
    go_wp2_with fail
    go_meet
    case rel=>exact⟨rfl,U (below_drewN (Below.refl _ _) _)⟩
  case rest=>
   obtain⟨rfl,HbC⟩:=hcut;have ja:=iV.o.trans (HbC.o.mono iV.o.size);have Iv:=U ja;have a3:=(HF.o.below ja).ce 3 rfl;have a2:=(HT.o.below ja).ce 2 rfl;have a1:wc.cell? (aj g.b 1)=some (vI g.W):=(H.o.below ja).ap.cell 1;have hwW:IntKind.u64.wrap (g.W:Int)=(g.W:Int):=by rw[IntKind.wrap_u64];omega
   have hwA:IntKind.u64.wrap ((m.f.aX:Int)+(g.W:Int))=(m.f.aX:Int)+(g.W:Int):=by rw[IntKind.wrap_u64];omega
   obtain⟨M,HM⟩:∃ M,Hid (min t.count (m.f.aX+g.W)=M):=⟨_,U rfl⟩
   have HMI:=U (show min (t.count:Int) ((m.f.aX:Int)+(g.W:Int))=(M:Int) by have:=HM.o;omega);clear ja
   go_upto_region 1 with fail
   go_cut [5] (fun s5 wx=>s5=.int .u64 M∧Hid (Below wc.heap.size wc wx))
   case first=>
    go_region
    all_goals
     go_wp2_with fail
     go_meet
     case rel=>exact⟨by rw[HMI.o],U (Below.refl _ _).drew⟩
   case rest=>
    obtain⟨rfl,HbD⟩:=hcut;have HbE:=U (Iv.o.trans (HbD.o.mono Iv.o.size))
    have BK:=U (show dw lo w g (uN g s i m m.f.az g.L).st wc (uN g s i m m.f.az g.L) by
     have:=dw.refl H.o HbE.o;rw[TI.o]
     exact this)
    go_wp2_with fail
    go_loopg [] (M-m.f.az) (fun gk wr=>∃ (az:Nat) (L':List aS),Hid (az+gk=m.f.az+(M-m.f.az))∧Hid (m.f.az≤az)∧Hid (dw lo w g (uN g s i m az L').st wr (uN g s i m az L'))∧Hid (kP g.up (eJ s.ah s.number t.t m.f) (M-m.f.az) m.f.az g.L=kP g.up (eJ s.ah s.number t.t m.f) gk az L'))
    case atStart=>exact⟨m.f.az,g.L,U rfl,U (Nat.le_refl _),BK,U rfl⟩
    case round=>
     obtain⟨az,L',abv,Hge,HSr,HPN⟩:=hrel;obtain⟨w3,iK⟩:∃ w3,w3=wr:=⟨_,rfl⟩
     subst iK;have hFd:=Ll HSr.o.cN HI.o;have c4:=hFd.ce 4 rfl;have HFd:=U hFd;clear hFd
     rcases Nat.eq_zero_or_pos gk with OA | OA
     ·subst OA
      have Ki:¬ az<M:=by have:=abv.o;omega
      have JA:decide ((az:Int)<(M:Int))=false:=by simp;omega
      have hgN:decide (az<M)=false:=by simp;omega
      have tq:=U (nX.o az L' (by rw[HM.o,HPN.o];rfl))
      go_wp2_with fail
      go_quiet (fail)
      obtain⟨wz,Cz⟩:∃ wz,w3.drewN nq=wz:=⟨_,rfl⟩
      have mP:=below_drewN (Below.refl w3.heap.size w3) nq;rw[Cz] at mP ⊢;have HR:=U (HSr.o.below mP);clear Cz mP
      go_wp2_with fail
      go_end0
      exact⟨rfl,az,L',by rw[← tq.o];exact HR.o⟩
     ·obtain⟨g1,rfl⟩:∃ g1,gk=g1+1:=⟨gk-1,by omega⟩
      have AH:=abv.o;have Ki:=Hge.o;have auj:az<M:=by omega
      have ej:(az:Int)<(M:Int):=by omega
      have hMc:M≤t.count:=by have:=HM.o;omega
      have JA:decide ((az:Int)<(M:Int))=true:=by simp;omega
      have hgN:decide (az<M)=true:=by simp;omega
      have VK:IntKind.u64.wrap ((az:Int)+1)=(az:Int)+1:=by rw[IntKind.wrap_u64];omega
      have agq:t.t.first≤az+1:=by have:=yB.o;have:=HFg.o;omega
      obtain⟨k,hk,iD⟩:=abu HLl.o agq (by omega);have HK:=U hk;have HIt:=U (show eJ s.ah s.number t.t m.f (az+1)=⟨8,s.ah,s.number,m.f.number,az+1,qd k.d⟩ by unfold eJ qd;rw[iD]);have HSs:=U (abt HSr.o.cN);have HTp:=U (HSr.o.cN.ny (show (uN g s i m az L').au[m.f.aG]? = some t from HTt.o));have td:=U (HSr.o.cN.xG (show (uN g s i m az L').au[m.f.aG]? = some t from HTt.o));have HTB:=U (show vw g.dz m.f.aG=t.ap from SG.Lj HTt.o);have alS:=U HSr.o.cN;obtain⟨sd,hsd⟩:∃ sd,qd k.d=sd:=⟨_,rfl⟩
      rw[hsd] at HIt;have Ve:=U hsd
      have xq:=U (show aT 109 #[aM m.ap,vU ((az:Int)+1)] w3.drew (fun e w'=>e=.returned (.agg #[vB 8,vU s.ah,vU s.number,vU m.f.number,vU ((az:Int)+1),.string sd])∧Below w3.drew.heap.size w3.drew w') from by
       have:=abm (w:=w3.drew) (s:=s) (dz:=g.dz) (m:={ m with f:={ m.f with az:=az } }) (t:=t) HFd.o HSs.o HTp.o.drew td.o HTB.o HLl.o hc (az+1) k agq HK.o;rw[Ve.o] at this
       exact this)
      have yx:=U (show ∀ wp,Below w3.drew.heap.size w3.drew wp→aT 106 #[aM g.b,.agg #[vB 8,vU s.ah,vU s.number,vU m.f.number,vU ((az:Int)+1),.string sd]] wp (fun e w'=>e=.returned (.bool (lF g.up L' ⟨8,s.ah,s.number,m.f.number,az+1,sd⟩))∧dw lo wp (uN g s i m az L') (uN g s i m az (bo g.up L' ⟨8,s.ah,s.number,m.f.number,az+1,sd⟩)).st w' (uN g s i m az (bo g.up L' ⟨8,s.ah,s.number,m.f.number,az+1,sd⟩))) from fun wp PH=>by
       refine((alS.o.drew.below PH).post ⟨8,s.ah,s.number,m.f.number,az+1,sd⟩).mono ?_;rintro e w' ⟨rfl,hq,_⟩
       exact⟨rfl,hq.cN,rfl,hq.grow,hq.b,hq.iv,hq.qU⟩)
      clear hk iD hsd AH Ki
      go_wp2_with fail
      have alT:=U (show ∀ w',Below w3.heap.size w3 w'→w'.cell? (aj m.ap 4)=some (vU az) from fun w' kW=>(HFd.o.below kW).cell 4)
      go_region_held3 (fun w'=>w'.cell? (aj m.ap 4)=some (vU az))
       (first | exact(Ll HQ.o.cN HI.o).cell 4 | exact alT.o _ (by repeat (first | with_reducible assumption | with_reducible exact Hbp.o | with_reducible exact Below.refl _ _ | with_reducible apply Below.drew)))
       (first | (go_at_call 109;refine xq.o.mono ?_;rintro e wp ⟨rfl,PH⟩;have Hbp:=U (show Below w3.heap.size w3 wp from(Below.refl _ w3).drew.trans PH)) | (go_at_call 106;refine(yx.o wp PH).mono ?_;rintro e wq ⟨rfl,hq⟩;have HQ:=U hq;clear hq))
      all_goals
       have HSq:=U (HSr.o.trans (HQ.o.bz Hbp.o))
       cases hpb:lF g.up L' ⟨8,s.ah,s.number,m.f.number,az+1,sd⟩ with
       | true=>
        have hFq:=Ll HQ.o.cN HI.o;have u4:=hFq.ce 4 rfl;have v4:=hFq.aq 4;have yW:aZ (wq.setCell (aj m.ap 4) (vU ((az:Int)+1))) m.ap 160 (eU s.ap g.dz { m with f:={ m.f with az:=az+1 } }):=hFq.set 4 _;have vt:aQ (fun k=>k=m.ap) wq (wq.setCell (aj m.ap 4) (vU ((az:Int)+1))):=(aQ.refl (fun k=>k=m.ap) wq).setCell (aj m.ap 4) _ (fun _=>rfl);have JI:=U (HSq.o.trans (TH (b:=az+1) HQ.o.cN HI.o vt yW))
        have alU:=U (show kP g.up (eJ s.ah s.number t.t m.f) (M-m.f.az) m.f.az g.L=kP g.up (eJ s.ah s.number t.t m.f) g1 (az+1) (bo g.up L' ⟨8,s.ah,s.number,m.f.number,az+1,sd⟩) by
         rw[HPN.o];show (if lF g.up L' (eJ s.ah s.number t.t m.f (az+1))=true then _ else _)=_
         rw[HIt.o,if_pos hpb])
        have ags:=U (show az+1+g1=m.f.az+(M-m.f.az) by have:=abv.o;omega);have alV:=U (show m.f.az≤az+1 by have:=Hge.o;omega);obtain⟨w5,Gt⟩:∃ w5,wq.setCell (aj m.ap 4) (vU ((az:Int)+1))=w5:=⟨_,rfl⟩
        rw[Gt] at JI;clear hFq yW vt
        go_wp2_with fail
        go_roundg g1
        case rel=>exact⟨az+1,_,ags,alV,JI,alU⟩
        case measure=>omega
       | false=>
        have tq:=U (nX.o az L' (by
         rw[HM.o,HPN.o];show (if lF g.up L' (eJ s.ah s.number t.t m.f (az+1))=true then _ else _)=_
         rw[HIt.o,if_neg (by rw[hpb];simp)]))
        have GO:=U (Iw hpb)
        have HR:=U (show dw lo w g (uN g s i m az L').st wq (uN g s i m az L') by
         have:=HSq.o;rw[GO.o] at this
         exact this)
        go_wp2_with fail
        go_end0
        exact⟨rfl,az,L',by rw[← tq.o];exact HR.o⟩
theorem TJ(h:cB lo w g)(hs:g.aY=some s)(hi:s.af[i]? = some m)(ht:g.au[m.f.aG]? = some t)(hl:t.ks.length≤t.count)(hc:t.count≤1000000000000)(xT:m.f.aX≤m.f.az)(hsn:m.f.az≤1000000000000)(hW:g.W≤1000):
  aT 73 #[aM g.b,aM m.ap] w (fun e w'=>e=.returned (.tuple #[])∧∃ az L,dw lo w g (g.st.fP g.W i) w' (uN g s i m az L)):=by
 cases hm:m.f.ey with
 | true=>exact Iu h hs hi ht hm
 | false=>
  by_cases h1:m.f.aX+1<t.t.first
  ·exact PI h hs hi ht hl hc (by omega) hm h1
  ·by_cases h2:t.bD=true∧m.f.aX=t.count
   ·exact TF h hs hi ht hl hc hm h1 h2.1 h2.2
   ·exact Lm h hs hi ht hl hc (by omega) hm h1 h2 xT hW hsn
structure SSp(p:SP):Prop where
 tp:∀ t∈p.au,t.dJ.length≤t.count∧t.count≤1000000000000
 fd:∀ o,p.aY=some o→∀ f∈o.af,f.aX≤f.az∧f.az≤1000000000000∧f.aG<p.au.length
 ln:∀ o,p.aY=some o→o.af.length≤1000000∧o.aC.length≤1000000
structure SSm(p:SP):Prop extends SSp p where
 sl:∀ o,p.aY=some o→o.silence≤1000000000000∧o.next≤1000000000000
 nn:p.cR≤1000000000000∧p.aE≤1000000000000∧p.waits.length≤1000000
 ow:(p.D8.map (fun x=>x.1)).Nodup∧∀ x∈p.D8,x.1<p.aE
theorem SSp.mono{p':SP}(h:SSp p)(ht:p'.au=p.au)(hs:∀ o',p'.aY=some o'→∃ o,p.aY=some o∧o'.af=o.af∧o'.aC=o.aC):SSp p':=⟨by rw[ht];exact h.tp,fun o' mz f hf=>by
 obtain⟨o,ho,h1,_⟩:=hs o' mz;rw[h1] at hf;rw[ht]
 exact h.fd o ho f hf,fun o' mz=>by
 obtain⟨o,ho,h1,h2⟩:=hs o' mz;rw[h1,h2]
 exact h.ln o ho⟩
theorem SSp.top(hS:SSp g.st)(hs:g.aY=some s)(hi:s.af[i]? = some m):∃ t,g.au[m.f.aG]? = some t∧t.ks.length≤t.count∧t.count≤1000000000000:=by
 have h1:=(hS.fd s.o (SG.tO hs) m.f (List.mem_of_getElem? (cZ.fAt hi))).2.2
 have bC:m.f.aG<g.au.length:=by
  have:g.st.au.length=g.au.length:=by unfold SG.st;simp
  omega
 refine⟨g.au[m.f.aG],List.getElem?_eq_getElem bC,?_⟩;have:=hS.tp (g.au[m.f.aG]).t (List.mem_of_getElem? (SG.WV (List.getElem?_eq_getElem bC)));unfold eZ.t at this;simpa using this
def Fc(up:Bool)(W:Nat)(o:pH)(Ts:List jS)(oh:cY→Bool)(pre:cY→cY)(fs:List cY)(L:List aS)(done rest:List cY)(L':List aS):Prop :=
 SP.dy up W o Ts oh pre fs L=(done++(SP.dy up W o Ts oh pre rest L').1,(SP.dy up W o Ts oh pre rest L').2)
theorem Fc.start(up:Bool)(W:Nat)(o:pH)(Ts:List jS)(oh:cY→Bool)(pre:cY→cY)(fs:List cY)(L:List aS):Fc up W o Ts oh pre fs L [] fs L:=rfl
theorem Fc.SC{oh:cY→Bool}{pre:cY→cY}{t:jS}(h:Fc up W o Ts oh pre fs L done (f::rest) L')(hs:oh f=true)(ht:Ts[f.aG]? = some t):
  Fc up W o Ts oh pre fs L (done++[(cw up W o.ah o.number t (pre f) L').1]) rest (cw up W o.ah o.number t (pre f) L').2:=by
 unfold Fc at h ⊢;rw[h]
 conv=>lhs;unfold SP.dy
 simp only[hs,if_true,ht,List.append_assoc,List.singleton_append]
theorem Fc.no{oh:cY→Bool}{pre:cY→cY}(h:Fc up W o Ts oh pre fs L done (f::rest) L')(hs:oh f=false):
  Fc up W o Ts oh pre fs L (done++[f]) rest L':=by
 unfold Fc at h ⊢;rw[h]
 conv=>lhs;unfold SP.dy
 simp[hs]
theorem Fc.bD{oh:cY→Bool}{pre:cY→cY}(h:Fc up W o Ts oh pre fs L done [] L'):SP.dy up W o Ts oh pre fs L=(done,L'):=by
 unfold Fc at h;rw[h];unfold SP.dy;simp
def gL(g:SG)(s:cZ)(Fs:List iq)(L:List aS):SG:={ g with L:=L,aY:=some { s with af:=Fs } }
theorem Np(hs:g.aY=some s)(L:List aS):gL g s s.af L = { g with L:=L }:=by
 unfold gL;cases g;simp only at hs;rw[hs]
structure pQ(g:SG)(s:cZ)(oh:cY→Bool)(pre:cY→cY)(L:List aS)(k:Nat)(Fs:List iq)(L':List aS):Prop where
 WY:Fs.map (fun f=>f.ap)=s.af.map (fun f=>f.ap)
 rest:Fs.drop k=s.af.drop k
 ef:Fc g.up g.W s.o (g.au.map eZ.t) oh pre s.o.af L ((Fs.take k).map (fun f=>f.f)) ((s.af.drop k).map (fun f=>f.f)) L'
theorem pQ.start(g:SG)(s:cZ)(oh:cY→Bool)(pre:cY→cY)(L:List aS):pQ g s oh pre L 0 s.af L:=⟨rfl,rfl,by
 have:=Fc.start g.up g.W s.o (g.au.map eZ.t) oh pre s.o.af L
 simpa[cZ.o] using this⟩
theorem pQ.at{oh:cY→Bool}{pre:cY→cY}(h:pQ g s oh pre L k Fs L'){m:iq}(hm:s.af[k]? = some m):Fs[k]? = some m:=by
 have e:(Fs.drop k)[0]? = (s.af.drop k)[0]?:=by rw[h.rest]
 simpa[List.getElem?_drop,hm] using e
theorem pQ.len{oh:cY→Bool}{pre:cY→cY}(h:pQ g s oh pre L k Fs L'):Fs.length=s.af.length:=by
 have:=congrArg List.length h.WY;simpa using this
theorem pQ.no{oh:cY→Bool}{pre:cY→cY}(h:pQ g s oh pre L k Fs L'){m:iq}(hm:s.af[k]? = some m)(hs:oh m.f=false):pQ g s oh pre L (k+1) Fs L':=by
 have hk:k<s.af.length:=(List.getElem?_eq_some_iff.1 hm).1;have hF:=h.at hm;refine⟨h.WY,?_,?_⟩
 ·rw[show k+1=1+k by omega,← List.drop_drop,← List.drop_drop]
  have:=congrArg (List.drop 1) h.rest;simpa using this
 ·have e:=h.ef
  rw[List.drop_eq_getElem_cons hk,(List.getElem?_eq_some_iff.1 hm).2] at e;have:=Fc.no (show Fc _ _ _ _ _ _ _ _ _ (m.f::((s.af.drop (k+1)).map (fun f=>f.f))) _ from e) hs;rw[List.take_add_one,hF];simpa using this
theorem pQ.SC{oh:cY→Bool}{pre:cY→cY}(h:pQ g s oh pre L k Fs L'){m m':iq}{t:eZ}(hm:s.af[k]? = some m)(hs:oh m.f=true)(ht:g.au[m.f.aG]? = some t)(hb:m'.ap=m.ap)(hf:m'.f=(cw g.up g.W s.ah s.number t.t (pre m.f) L').1):
  pQ g s oh pre L (k+1) (Fs.set k m') (cw g.up g.W s.ah s.number t.t (pre m.f) L').2:=by
 have hk:k<s.af.length:=(List.getElem?_eq_some_iff.1 hm).1;have hkF:k<Fs.length:=by have:=h.len;omega
 refine⟨?_,?_,?_⟩
 ·rw[List.map_set,hb,h.WY]
  exact uM (by rw[List.getElem?_map,hm];rfl)
 ·rw[List.drop_set_of_lt (by omega)]
  rw[show k+1=1+k by omega,← List.drop_drop,← List.drop_drop];have:=congrArg (List.drop 1) h.rest;simpa using this
 ·have e:=h.ef
  rw[List.drop_eq_getElem_cons hk,(List.getElem?_eq_some_iff.1 hm).2] at e;have:=Fc.SC (t:=t.t) (show Fc _ _ _ _ _ _ _ _ _ (m.f::((s.af.drop (k+1)).map (fun f=>f.f))) _ from e) hs (by rw[List.getElem?_map,ht];rfl)
  have e1:((Fs.set k m').take (k+1)).map (fun f=>f.f)=(Fs.take k).map (fun f=>f.f)++[m'.f]:=by
   rw[List.take_add_one,List.take_set_of_le (Nat.le_refl _)];simp[hkF]
  rw[e1,hf];exact this
theorem pQ.bD{oh:cY→Bool}{pre:cY→cY}(h:pQ g s oh pre L k Fs L')(hk:s.af.length≤k):SP.dy g.up g.W s.o (g.au.map eZ.t) oh pre s.o.af L=(Fs.map (fun f=>f.f),L'):=by
 have e:=h.ef;rw[List.drop_of_length_le hk,List.take_of_length_le (by rw[h.len];exact hk)] at e;exact e.bD
theorem Zc(g:SG)(s:cZ)(Fs:List iq)(L:List aS):(gL g s Fs L).st = { g.st with L:=L,aY:=some { s.o with af:=Fs.map (fun f=>f.f) } }:=rfl
theorem Nq{az:Nat}(hi:Fs[i]? = some m)(ht:g.au[m.f.aG]? = some t)(h:(gL g s (Fs.set i { m with f:={ m.f with az:=az } }) L').st=(gL g s Fs L).st.fP g.W i):
  {m.f with az:=az } = (cw g.up g.W s.ah s.number t.t m.f L).1∧L'=(cw g.up g.W s.ah s.number t.t m.f L).2:=by
 rw[ww (g:=gL g s Fs L) (s:={ s with af:=Fs }) rfl hi ht] at h;have hl:=congrArg SP.L h;have hs:=congrArg SP.aY h;have jQ:i<Fs.length:=(List.getElem?_eq_some_iff.1 hi).1;refine⟨?_,hl⟩;have e:=congrArg pH.af (Option.some.inj hs);have e2:((Fs.set i { m with f:={ m.f with az:=az } }).map (fun f=>f.f))[i]? = ((({ s with af:=Fs }:cZ).o.af).set i (cw g.up g.W s.ah s.number t.t m.f L).1)[i]?:=congrArg (fun l:List cY=>l[i]?) e;rw[List.getElem?_map] at e2;simpa[jQ,cZ.o] using e2
theorem cB.TK(h:cB lo w g)(hs:g.aY=some s){k:Nat}{m:iq}(hk:s.af[k]? = some m):∃ ga c,s.fv=.slice (some (aj ga 0)) s.af.length c∧ga<w.heap.size∧w.cell? (aj ga k)=some (aJ m.ap):=by
 have GA:k<s.af.length:=(List.getElem?_eq_some_iff.1 hk).1;have ho:w.ownsRow lo 158 1 s.fv s.af.length (s.af.map (fun f=>aJ f.ap)):=(h.gK hs).own (h.nw hs).rf (fun p hp=>by unfold cZ.aF;simp only[List.mem_append];exact Or.inr (Or.inl hp))
 rcases ho.2 with⟨_,e⟩ | ⟨ga,c,cur,hv,r⟩
 ·omega
 ·refine⟨ga,c,hv,(ho.lt ga (by rw[hv];rfl)).2,?_⟩
  have:=ho.cells (g:=ga) (by rw[hv];rfl) k (aJ m.ap) (by rw[List.getElem?_map,hk];rfl);rw[dF _ _ rfl] at this;simpa using this
theorem cB.agu(h:cB lo w g)(hs:g.aY=some s){k:Nat}(hk:k<s.aC.length):∃ ga c,s.av=.slice (some (aj ga 0)) s.aC.length c∧ga<w.heap.size∧∀ j v,(pc s.aC[k])[j]? = some v→w.cell? ⟨ga,k*6+j,none⟩=some v:=by
 have ho:w.ownsRow lo 125 6 s.av s.aC.length (dj s.aC):=(h.gK hs).own (h.nw hs).rn (fun p hp=>by unfold cZ.aF;simp only[List.mem_append];exact Or.inr (Or.inr (Or.inr hp)))
 rcases ho.2 with⟨_,e⟩ | ⟨ga,c,cur,hv,r⟩
 ·omega
 ·refine⟨ga,c,hv,(ho.lt ga (by rw[hv];rfl)).2,fun j v hj=>?_⟩
  have hj6:j<6:=by
   rcases Nat.lt_or_ge j 6 with h | h
   ·exact h
   ·rw[Array.getElem?_eq_none (by simp[pc];omega)] at hj;cases hj
  have:=ho.cells (g:=ga) (by rw[hv];rfl) (k*6+j) v (uJ _ k j v hk hj hj6);rw[dF _ _ rfl] at this;simpa using this
theorem SG.Nr(h:g.fR=.pointer none):g.cur=false∨g.aY=none:=by
 unfold SG.fR at h
 split at h
 ·cases h
 ·rename_i hn
  cases hc:g.cur with
  | false=>exact Or.inl rfl
  | true=>
   cases hs:g.aY with
   | none=>exact Or.inr rfl
   | some s=>exact absurd hs (hn s hc)
theorem SP.Ln(h:p.cur=false∨p.aY=none):p.dI W=p.post (aw 7 0 0 0 0):=by
 unfold SP.dI
 rcases h with h | h
 ·rw[h]
 ·rw[h]
  split
  ·rename_i e;cases e
  ·rfl
theorem SG.Ns(h:g.cur=false∨g.aY=none):g.st.cur=false∨g.st.aY=none:=by
 rcases h with h | h
 ·exact Or.inl h
 ·exact Or.inr (by unfold SG.st;rw[h];rfl)
def AT(g:SG)(s:cZ)(k:Nat):List aS:=(s.aC.take k).foldl (bo g.up) (bo g.up g.L s.o.fH)
theorem PJ(g:SG)(s:cZ){k:Nat}(hk:k<s.aC.length):AT g s (k+1)=bo g.up (AT g s k) s.aC[k]:=by
 unfold AT;rw[List.take_add_one,List.getElem?_eq_getElem hk];simp only[Option.toList_some,List.foldl_append,List.foldl_cons,List.foldl_nil]
theorem TM(g:SG)(s:cZ){k:Nat}(hk:s.aC.length≤k):AT g s k=s.aC.foldl (bo g.up) (bo g.up g.L s.o.fH):=by
 unfold AT;rw[List.take_of_length_le hk]
theorem SP.Lo(hc:g.cur=true)(hs:g.aY=some s){Fs:List iq}{L':List aS}
  (h:SP.dy g.up g.W s.o (g.au.map eZ.t) (fun _=>true) (fun f=>{ f with az:=f.aX }) s.o.af (s.aC.foldl (bo g.up) (bo g.up g.L s.o.fH))=(Fs.map (fun f=>f.f),L')):(gL g s Fs L').st=g.st.dI g.W:=by
 unfold SP.dI;rw[show g.st.cur=true from hc,SG.tO hs];simp only[show g.st.up=g.up from rfl,show g.st.L=g.L from rfl,show g.st.au=g.au.map eZ.t from rfl,show s.o.aC=s.aC from rfl,h];rw[Zc,← show g.st.cur=true from hc];rfl
theorem Zd(h:cB lo w (gL g s Fs L))(hk:Fs[k]? = some m):aZ w m.ap 160 (eU s.ap g.dz m):=h.uL (s:={ s with af:=Fs }) rfl hk
theorem DI(h:cB lo w (gL g s Fs L))(hk:Fs[k]? = some m):∃ ga c,s.fv=.slice (some (aj ga 0)) Fs.length c∧ga<w.heap.size∧w.cell? (aj ga k)=some (aJ m.ap):=h.TK (s:={ s with af:=Fs }) rfl hk
theorem WZ{x:Nat}(h:cB lo w (gL g s Fs L))(hk:Fs[k]? = some m)(hc:aQ (fun j=>j=m.ap) w w')(hB:aZ w' m.ap 160 (eU s.ap g.dz { m with f:={ m.f with az:=x } })):
  dw lo w (gL g s Fs L) (gL g s (Fs.set k { m with f:={ m.f with az:=x } }) L).st w' (gL g s (Fs.set k { m with f:={ m.f with az:=x } }) L):=by
 have hT:=h.TE (s:={ s with af:=Fs }) (m':={ m with f:={ m.f with az:=x } }) rfl hk rfl hc hB;exact⟨hT.cN,rfl,hT.grow,hT.b,hT.iv,hT.qU⟩
theorem Iy(h:cB lo w (gL g s Fs L))(hk:Fs[k]? = some m)(ht:g.au[m.f.aG]? = some t)(hl:t.ks.length≤t.count)(hc:t.count≤1000000000000)(xT:m.f.aX≤m.f.az)(hsn:m.f.az≤1000000000000)(hW:g.W≤1000):
  aT 73 #[aM g.b,aM m.ap] w (fun e w'=>e=.returned (.tuple #[])∧∃ az L',dw lo w (gL g s Fs L) ((gL g s Fs L).st.fP g.W k) w' (gL g s (Fs.set k { m with f:={ m.f with az:=az } }) L')) :=
 TJ (g:=gL g s Fs L) (s:={ s with af:=Fs }) h rfl hk ht hl hc xT hsn hW
theorem dw.same(h:dw lo w g p w' g'):dw lo w g g'.st w' g':=⟨h.cN,rfl,h.grow,h.b,h.iv,h.qU⟩
theorem W8(g:SG)(s:cZ)(Fs:List iq)(k:Nat)(a b:iq)(L:List aS):gL g s ((Fs.set k a).set k b) L=gL g s (Fs.set k b) L:=by rw[List.set_set]
theorem Fe(h:cB lo w g)(hn:g.fR=.pointer none):
  aT 120 #[aM g.b] w (fun e w'=>e=.returned (.tuple #[])∧dw lo w g (g.st.dI g.W) w' { g with L:=bo g.up g.L (aw 7 0 0 0 0) }):=by
 have d11:w.cell? (aj g.b 11)=some (.pointer none):=(show w.cell? (aj g.b 11)=some g.fR from h.ap.cell 11).trans (by rw[hn]);have HS:=U (SP.Ln (W:=g.W) (SG.Ns (SG.Nr hn)));have H:=U h;clear h hn
 go_enter func120,ntmps120
 go_wp2_with fail
 refine(H.o.post (aw 7 0 0 0 0)).mono ?_;rintro e w1 ⟨rfl,h1,_⟩;have H1:=U h1;clear h1
 go_wp2_with fail
 (try simp only[Exit.inBlock,Exit.then]);refine bodyPost_ret (results_none rfl _ _ _) rfl ?_
 exact⟨rfl,by rw[HS.o];exact H1.o⟩
theorem W9(h:cB lo w g)(fF:g.cur=true)(hs:g.aY=some s)(hS:SSp g.st)(hW:g.W≤1000):
  aT 120 #[aM g.b] w (fun e w'=>e=.returned (.tuple #[])∧∃ Fs L',Fs.map (fun f=>f.ap)=s.af.map (fun f=>f.ap)∧dw lo w g (g.st.dI g.W) w' (gL g s Fs L')):=by
 have Tm:=U (show g.fR=aM s.ap by unfold SG.fR;rw[fF,hs];rfl);have d11:w.cell? (aj g.b 11)=some (aM s.ap):=(show w.cell? (aj g.b 11)=some g.fR from h.ap.cell 11).trans (by rw[Tm.o]);obtain⟨tM,MQ⟩:=hS.ln s.o (SG.tO hs);have tM:s.af.length≤1000000:=by simpa[cZ.o] using tM
 have MQ:s.aC.length≤1000000:=MQ;obtain⟨aa,ac,kn⟩:=(h.nw hs).rn.slice;have WJ:=U kn;obtain⟨fa,fc,qo⟩:=(h.nw hs).rf.slice;have Ks:=U qo;have Vn:=U (h.fL hs);have aby:=U (fun k m (hm:s.af[k]? = some m)=>SSp.top hS hs hm);have HFd:=U (fun k m (hm:s.af[k]? = some m)=>hS.fd s.o (SG.tO hs) m.f (List.mem_of_getElem? (cZ.fAt hm)));have nX:=U (fun(Fs:List iq) (L':List aS) e=>SP.Lo fF hs (Fs:=Fs) (L':=L') e);have TI:=U (fun L=>Np hs L);have Hs:=U hs;have H:=U h;clear h hs fF hS kn qo
 go_enter func120,ntmps120
 go_wp2_with fail
 go_region_with (first | (go_at_call 169;refine(Fa (w:=w.drew) (s:=s) Vn.o).mono ?_;rintro e w1 ⟨rfl,aA⟩) | (go_at_call 106;refine((H.o.drew.below aA).post (aw 7 s.ah s.number s.next 0)).mono ?_;rintro e w2 ⟨rfl,h2,_⟩;have H2:=U h2;clear h2))
 have e11:w2.cell? (aj g.b 11)=some (aM s.ap):=(show w2.cell? (aj g.b 11)=some g.fR from H2.o.cN.ap.cell 11).trans (by rw[Tm.o]);have e6:w2.cell? (aj s.ap 6)=some (.slice aa s.aC.length ac):=(show w2.cell? (aj s.ap 6)=some s.av from(H2.o.cN.fL (s:=s) Hs.o).cell 6).trans (by rw[WJ.o])
 go_wp2_with fail
 have cj:Below w.heap.size w w1:=(Below.refl _ w).drew.trans aA;have H3:=U (show dw lo w g ({ g with L:=AT g s 0 }:SG).st w2 { g with L:=AT g s 0 } from(H2.o.bz cj).same);clear e11 e6 aA cj H2
 go_loopg [3,33] s.aC.length (fun gk x i wr=>∃ k:Nat,k+gk=s.aC.length∧i=.int .i64 k∧Hid (dw lo w g ({ g with L:=AT g s k }:SG).st wr { g with L:=AT g s k }))
 case atStart=>exact⟨0,by omega,rfl,H3⟩
 case round=>
  obtain⟨k,hk,rfl,HC⟩:=hrel
  by_cases bC:k<s.aC.length
  ·obtain⟨ga,c,kn,vH,aK⟩:=HC.o.cN.agu (s:=s) Hs.o bC
   obtain⟨rfl,rfl⟩:aa=some (aj ga 0)∧ac=c:=by simpa using WJ.o.symm.trans kn
   have c0:wr.cell? ⟨ga,k*6,none⟩=some (.int .u8 s.aC[k].kind):=aK 0 _ rfl;have c1:wr.cell? ⟨ga,k*6+1,none⟩=some (.int .u64 s.aC[k].ah):=aK 1 _ rfl;have c2:wr.cell? ⟨ga,k*6+2,none⟩=some (.int .u64 s.aC[k].ag):=aK 2 _ rfl;have c3:wr.cell? ⟨ga,k*6+3,none⟩=some (.int .u64 s.aC[k].number):=aK 3 _ rfl;have c4:wr.cell? ⟨ga,k*6+4,none⟩=some (.int .u64 s.aC[k].ai):=aK 4 _ rfl;have c5:wr.cell? ⟨ga,k*6+5,none⟩=some (.string s.aC[k].data):=aK 5 _ rfl;have ej:(k:Int)<(s.aC.length:Int):=by omega
   have HN:=U (PJ g s bC);generalize s.aC[k]=p at *;obtain⟨wa,hwa,ja,hNA⟩:=eK wr p;obtain⟨z0,z1,z2,z3,z4,z5⟩:=hNA.c6;have Iv:=U ja;clear kn aK ja hNA
   go_wp2_with fail
   go_region_with (go_at_call 106;refine((HC.o.cN.below Iv.o).drew.post p).mono ?_;rintro e w3 ⟨rfl,h3,_⟩)
   have H4:=U (show dw lo w g ({ g with L:=bo g.up (AT g s k) p }:SG).st w3 { g with L:=bo g.up (AT g s k) p } from(HC.o.trans (h3.bz Iv.o.drew)).same);clear h3
   go_wp2_with fail
   go_roundg (gk-1)
   case rel=>exact⟨k+1,by omega,by go_num,by rw[HN.o];exact H4⟩
   case measure=>omega
  ·have ej:¬ (k:Int)<(s.aC.length:Int):=by omega
   have HAl:=U (TM g s (show s.aC.length≤k by omega))
   have H5:=U (show dw lo w g (gL g s s.af (s.aC.foldl (bo g.up) (bo g.up g.L s.o.fH))).st wr (gL g s s.af (s.aC.foldl (bo g.up) (bo g.up g.L s.o.fH))) by
    rw[TI.o,← HAl.o];exact HC.o)
   have e11:wr.cell? (aj g.b 11)=some (aM s.ap):=(show wr.cell? (aj g.b 11)=some g.fR from HC.o.cN.ap.cell 11).trans (by rw[Tm.o]);have e5:wr.cell? (aj s.ap 5)=some (.slice fa s.af.length fc):=(show wr.cell? (aj s.ap 5)=some s.fv from(HC.o.cN.fL (s:=s) Hs.o).cell 5).trans (by rw[Ks.o]);clear HC HAl hk;obtain⟨L1,Kp⟩:∃ L1,Hid (s.aC.foldl (bo g.up) (bo g.up g.L s.o.fH)=L1):=⟨_,U rfl⟩
   rw[Kp.o] at H5
   go_wp2_with fail
   clear e11 e5
   go_loopg [5,51] s.af.length (fun gk x i wr=>∃ (k:Nat) (Fs:List iq) (L':List aS),k+gk=s.af.length∧i=.int .i64 k∧Hid (dw lo w g (gL g s Fs L').st wr (gL g s Fs L'))∧Hid (pQ g s (fun _=>true) (fun f=>{ f with az:=f.aX }) L1 k Fs L'))
   case atStart=>exact⟨0,s.af,L1,by omega,rfl,H5,U (pQ.start _ _ _ _ _)⟩
   case round=>
    obtain⟨k,Fs,L',hk,rfl,HC,HF⟩:=hrel
    by_cases bC:k<s.af.length
    ·obtain⟨m,hm⟩:∃ m,s.af[k]? = some m:=⟨_,List.getElem?_eq_getElem bC⟩
     have Q0:=HF.o.at hm;obtain⟨ga,c,kn,vH,Iz⟩:=DI HC.o.cN Q0
     obtain⟨rfl,rfl⟩:fa=some (aj ga 0)∧fc=c:=by
      have:=Ks.o.symm.trans kn;simp only[Value.slice.injEq] at this;exact⟨this.1,this.2.2⟩
     have ej:(k:Int)<(s.af.length:Int):=by omega
     have aK:wr.cell? (aj ga k)=some (aM m.ap):=Iz;clear Iz;have hB:=Zd HC.o.cN Q0;have m3:=hB.ce 3 rfl;have m4:=hB.ce 4 rfl;have f4:=hB.aq 4;have dD:aZ (wr.setCell (aj m.ap 4) (vU m.f.aX)) m.ap 160 (eU s.ap g.dz { m with f:={ m.f with az:=m.f.aX } }):=hB.set 4 _;have jk:aQ (fun k=>k=m.ap) wr (wr.setCell (aj m.ap 4) (vU m.f.aX)):=(aQ.refl (fun k=>k=m.ap) wr).setCell (aj m.ap 4) _ (fun _=>rfl);have HT:=U (WZ (x:=m.f.aX) HC.o.cN Q0 jk dD);obtain⟨w3,iK⟩:∃ w3,wr.setCell (aj m.ap 4) (vU m.f.aX)=w3:=⟨_,rfl⟩
     rw[iK] at HT;have Hm:=U hm;have HFm:=U Q0;have HkF:Hid (k<Fs.length):=U (List.getElem?_eq_some_iff.1 Q0).1;clear kn hB dD jk hm Q0
     go_wp2_with fail
     obtain⟨t,ht,sK,Nb⟩:=aby.o k m Hm.o;obtain⟨Vb,QW,hfc⟩:=HFd.o k m Hm.o;have HkS:=U (show (Fs.set k { m with f:={ m.f with az:=m.f.aX } })[k]? = some { m with f:={ m.f with az:=m.f.aX } } by simp[HkF.o]);refine(Iy (m:={ m with f:={ m.f with az:=m.f.aX } }) HT.o.cN HkS.o ht sK Nb (Nat.le_refl _) (Nat.le_trans Vb QW) hW).mono ?_;rintro e w4 ⟨rfl,az,L4,h4⟩;have h5:=Nq (g:=g) (s:=s) (Fs:=Fs.set k { m with f:={ m.f with az:=m.f.aX } }) HkS.o ht h4.st;have h6:=HC.o.trans (HT.o.trans h4.same);rw[W8] at h6;have HX:=U (HF.o.SC (m':={ m with f:={ m.f with az:=az } }) Hm.o rfl ht rfl h5.1);have S8:=U h5.2;have H6:=U h6;rw[← S8.o] at HX;clear h4 h5 h6 ht sK Nb Vb QW hfc S8
     go_wp2_with fail
     go_roundg (gk-1)
     case rel=>exact⟨k+1,_,L4,by omega,by go_num,H6,HX⟩
     case measure=>omega
    ·have ej:¬ (k:Int)<(s.af.length:Int):=by omega
     have HE:=U (nX.o Fs L' (by rw[Kp.o];exact HF.o.bD (by omega)))
     go_wp2_with fail
     go_end0
     exact⟨rfl,Fs,HF.o.WY,L',by rw[← HE.o];exact HC.o⟩
theorem TN(h:cB lo w g)(hS:SSp g.st)(hW:g.W≤1000):
  aT 120 #[aM g.b] w (fun e w'=>e=.returned (.tuple #[])∧∃ g',dw lo w g (g.st.dI g.W) w' g'∧g'.aY.map (fun s=>s.ap)=g.aY.map (fun s=>s.ap)):=by
 cases hc:g.cur with
 | false=>
  refine(Fe h (by unfold SG.fR;rw[hc])).mono ?_;rintro e w' ⟨rfl,h1⟩;exact⟨rfl,_,h1,rfl⟩
 | true=>
  cases hs:g.aY with
  | none=>
   refine(Fe h (by unfold SG.fR;rw[hc,hs])).mono ?_;rintro e w' ⟨rfl,h1⟩;exact⟨rfl,_,h1,by rw[hs]⟩
  | some s=>
   refine(W9 h hc hs hS hW).mono ?_;rintro e w' ⟨rfl,Fs,L',_,h1⟩;exact⟨rfl,_,h1,rfl⟩
theorem xH(kd d:IntKind)(a:Int):∀ (es:List MapEntry) (ks:List Int) (i:Nat),es.map (fun e=>e.key)=ks.map (Value.int kd)→Instr.findNow (.int d) (.int kd a) es i=some ((ks.findIdx? (fun x=>a==x)).bind fun j=>(es[j]?).map fun e=>(i+j,e.val))
 | [],[],i,_=>by simp[Instr.findNow]
 | [],_::_,i,h=>by simp at h
 | _::_,[],i,h=>by simp at h
 | e::es,q::L,i,h=>by
  simp only[List.map_cons,List.cons.injEq] at h;rw[Instr.findNow];simp only[h.1,Instr.sameNow,if_true]
  cases hb:(a==q) with
  | true=>simp[List.findIdx?_cons,hb]
  | false=>
   simp only[xH kd d a es L (i+1) h.2,List.findIdx?_cons,hb,Bool.false_eq_true,if_false]
   congr 1
   cases L.findIdx? (fun x=>a==x) with
   | none=>rfl
   | some j=>
    simp only[Option.bind_some,Option.map_some,List.getElem?_cons_succ]
    congr 1
    funext x
    congr 1
    omega
theorem mU{T:TypeId}{kd d:IntKind}(hT:Tryz.prog.underlying T=some (.int d))(w:World)(a:Int)(es:List MapEntry)(ks:List Int)(h:es.map (fun e=>e.key)=ks.map (Value.int kd)):(Instr.findKey T (.int kd a) es).run Tryz.prog w=.ok ((ks.findIdx? (fun x=>a==x)).bind fun j=>(es[j]?).map fun e=>(j,e.val)) w:=by
 unfold Instr.findKey;simp only[Sem.run_bind,run_underlying hT,Result.andThen_ok,xH kd d a es ks 0 h];simp
theorem rm(w:World)(em:Bool)(z:Int):(Instr.checkKey em 10000 52 (vU z)).run Tryz.prog w=.ok () w:=MapKept.run_checkKey underlying52 (by simp[MapKept.IsKey]) em 9999
def bS(w:World)(ms:Nat)(l:List (Nat × Nat)):Prop:=∃ es clock,w.heap[ms]? = some (.map es clock)∧es.toList.map (fun e=>(e.key,e.val))=l.map (fun x=>(.int .u64 (x.1:Nat),aJ x.2))∧∀ e∈es.toList,e.born<clock
theorem cB.lC(h:cB lo w g):bS w g.ms (g.aY.toList.map (fun s=>(s.ah,s.ap))):=by
 obtain⟨_,o,h1,⟨es,clock,rfl,h2,h3⟩,_⟩:=h.dR.all (eI g.ms (g.aY.toList.map (fun s=>(s.ah,s.ap)))) (by unfold SG.aF SG.rest SG.nQ;simp);exact⟨es,clock,h1,h2,h3⟩
theorem bS.lt{l:List (Nat × Nat)}(h:bS w ms l):ms<w.heap.size:=by
 obtain⟨es,clock,hb,_⟩:=h;exact(Array.getElem?_eq_some_iff.1 hb).1
theorem bS.dW{F:Nat→Prop}{l:List (Nat × Nat)}(h:bS w ms l)(hc:aQ F w w')(hf:¬ F ms):bS w' ms l:=by
 have bC:=h.lt;obtain⟨es,clock,hb,hk⟩:=h;exact⟨es,clock,(hc.block ms bC hf).trans hb,hk⟩
theorem bS.drew{l:List (Nat × Nat)}(h:bS w ms l):bS w.drew ms l:=h
theorem bS.nil(h:bS w ms []):∃ clock,w.heap[ms]? = some (.map #[] clock):=by
 obtain⟨es,clock,hb,hk,_⟩:=h
 have:es=#[]:=by
  obtain⟨l⟩:=es
  cases l with
  | nil=>rfl
  | cons=>simp at hk
 exact⟨clock,by rw[hb,this]⟩
theorem bS.one(h:bS w ms [(gA,b)]):∃ clock born,w.heap[ms]? = some (.map #[⟨vU gA,aJ b,born⟩] clock)∧born<clock:=by
 obtain⟨es,clock,hb,hk,hn⟩:=h;obtain⟨l⟩:=es
 match l,hk,hn,hb with
 | [e],hk,hn,hb=>
  obtain⟨k,v,n⟩:=e;simp at hk;obtain⟨rfl,rfl⟩:=hk;exact⟨clock,n,hb,hn ⟨_,_,n⟩ (List.mem_singleton.2 rfl)⟩
 | [],hk,_,_=>simp at hk
 | _::_::_,hk,_,_=>simp at hk
theorem jf(h:bS w ms [])(gA:Int):(Instr.lookup 86 (.map (some ms)) (vU gA) false).run Tryz.prog w=.ok (.pointer none) w:=by
 obtain⟨clock,hb⟩:=h.nil;have hz:(zeroValue 87).run Tryz.prog w=.ok (.pointer none) w:=by simp[go_sem]
 simp[Instr.lookup,run_underlying underlying86,MapKept.run_getObj_map hb,rm,mU underlying52 w gA [] [] rfl,hz,Result.andThen]
theorem jg(h:bS w ms [(gA,b)]):(Instr.lookup 86 (.map (some ms)) (vU gA) false).run Tryz.prog w=.ok (aJ b) w:=by
 obtain⟨clock,born,hb,_⟩:=h.one;simp[Instr.lookup,run_underlying underlying86,MapKept.run_getObj_map hb,rm,mU (kd:=.u64) underlying52 w gA [⟨vU gA,aJ b,born⟩] [(gA:Int)] rfl,Result.andThen]
theorem Ff{m:Nat}{o:Obj}:aQ (fun k=>k=m) w ({ w with heap:=w.heap.setIfInBounds m o }:World):=by
 refine⟨rfl,rfl,rfl,by simp,fun k hk hf=>?_⟩;have bT:m≠k:=fun e=>hf e.symm
 exact Array.getElem?_setIfInBounds_ne bT
theorem Lp{m:Nat}{o:Obj}(h:m<w.heap.size):({ w with heap:=w.heap.setIfInBounds m o }:World).heap[m]? = some o:=by simp[h]
theorem bS.agv(bC:ms<w.heap.size)(hn:born<clock):bS ({ w with heap:=w.heap.setIfInBounds ms (.map #[⟨vU gA,aJ b,born⟩] clock) }:World) ms [(gA,b)] :=
 ⟨#[⟨vU gA,aJ b,born⟩],clock,Lp bC,rfl,fun e he=>by
  have:e=⟨vU gA,aJ b,born⟩:=List.mem_singleton.1 he;rw[this]
  exact hn⟩
theorem bS.al0(bC:ms<w.heap.size):bS ({ w with heap:=w.heap.setIfInBounds ms (.map #[] clock) }:World) ms [] :=
 ⟨#[],clock,Lp bC,rfl,fun e he=>by cases he⟩
theorem Lq{l:List (Nat × Nat)}(h:bS w ms l)(hl:l=[]∨∃ b0,l=[(gA,b0)]):∃ w',(Instr.mapUpdate 86 (.map (some ms)) (vU gA) (aJ b)).run Tryz.prog w=.ok () w'∧bS w' ms [(gA,b)]∧aQ (fun k=>k=ms) w w':=by
 have bC:=h.lt
 rcases hl with rfl | ⟨b0,rfl⟩
 ·obtain⟨clock,hb⟩:=h.nil
  refine⟨{ w with heap:=w.heap.setIfInBounds ms (.map #[⟨vU gA,aJ b,clock⟩] (clock+1)) },?_,?_,Ff⟩
  ·simp[Instr.mapUpdate,run_underlying underlying86,MapKept.run_getObj_map hb,rm,mU (kd:=.u64) underlying52 w gA [] [] rfl,MapKept.run_setObj_map _ hb,Result.andThen]
  ·exact bS.agv bC (Nat.lt_succ_self _)
 ·obtain⟨clock,born,hb,hn⟩:=h.one
  refine⟨{ w with heap:=w.heap.setIfInBounds ms (.map #[⟨vU gA,aJ b,born⟩] clock) },?_,?_,Ff⟩
  ·simp[Instr.mapUpdate,run_underlying underlying86,MapKept.run_getObj_map hb,rm,mU (kd:=.u64) underlying52 w gA [⟨vU gA,aJ b0,born⟩] [(gA:Int)] rfl,MapKept.run_setObj_map _ hb,Result.andThen,Instr.keyThatStays,Instr.sameBits]
  ·exact bS.agv bC hn
theorem PK{l:List (Nat × Nat)}(h:bS w ms l):∃ w',(∀ ty,(Builtin.clear_ #[86] ty #[.map (some ms)]).run Tryz.prog w=.ok (.tuple #[]) w')∧bS w' ms []∧aQ (fun k=>k=ms) w w':=by
 have bC:=h.lt;obtain⟨es,clock,hb,_⟩:=h;refine⟨{ w with heap:=w.heap.setIfInBounds ms (.map #[] clock) },fun ty=>?_,?_,Ff⟩
 ·simp[Builtin.clear_,run_underlying underlying86,MapKept.run_getObj_map hb,MapKept.run_setObj_map _ hb,Result.andThen]
 ·exact bS.al0 bC
theorem PL(hi:w.heap[it]? = some (.mapIter (some ms) since #[] c0))(hm:w.heap[ms]? = some (.map #[] clock))(ty:TypeId):(Instr.next (aM it) false ty).run Tryz.prog w=.ok (.tuple #[.bool false]) w:=by
 simp[Instr.next,getObj,Sem.run_bind,Sem.run,hi,hm,Result.andThen,choose,Question.forced]
theorem TO{e:MapEntry}(hi:w.heap[it]? = some (.mapIter (some ms) since #[] c0))(hm:w.heap[ms]? = some (.map #[e] clock))(hn:e.born<since)(ty:TypeId):(Instr.next (aM it) false ty).run Tryz.prog w=.ok (.tuple #[.bool true,e.key,e.val]) ({ w with heap:=w.heap.setIfInBounds it (.mapIter (some ms) since #[e.born] clock) }:World):=by
 have Ki:¬ since≤e.born:=by omega
 simp[Instr.next,getObj,setObj,Sem.run_bind,Sem.run,hi,hm,Result.andThen,hn,Ki,choose,Question.forced]
theorem PM(h:bS w ms [(gA,b)]):∃ since born w2,born<since∧(Instr.range 86 (.map (some ms))).run Tryz.prog w=.ok (aM w.heap.size) (w.alloc (.mapIter (some ms) since #[] since))∧(∀ ty,(Instr.next (aM w.heap.size) false ty).run Tryz.prog (w.alloc (.mapIter (some ms) since #[] since))=.ok (.tuple #[.bool true,vU gA,aJ b]) w2)∧Below w.heap.size w w2∧w2.heap[w.heap.size]? = some (.mapIter (some ms) since #[born] since)∧w2.heap[ms]? = some (.map #[⟨vU gA,aJ b,born⟩] since):=by
 have bC:=h.lt;obtain⟨clock,born,hb,hn⟩:=h.one;have JG:(w.alloc (.mapIter (some ms) clock #[] clock)).heap[ms]? = some (.map #[⟨vU gA,aJ b,born⟩] clock):=by rw[heap_alloc_old w _ bC,hb]
 refine⟨clock,born,{ w.alloc (.mapIter (some ms) clock #[] clock) with heap:=(w.alloc (.mapIter (some ms) clock #[] clock)).heap.setIfInBounds w.heap.size (.mapIter (some ms) clock #[born] clock) },hn,run_range_map (P:=Tryz.prog) w 86 _ _ ms _ clock underlying86 hb,fun ty=>?_,?_,?_,?_⟩
 ·exact TO (e:=⟨vU gA,aJ b,born⟩) (heap_alloc_new w _) JG hn ty
 ·refine⟨rfl,rfl,rfl,by simp,fun k hk=>?_⟩
  show (Array.setIfInBounds _ _ _)[k]? = _;rw[Array.getElem?_setIfInBounds_ne (by omega),heap_alloc_old w _ hk]
 ·exact Lp (Array.getElem?_eq_some_iff.1 (heap_alloc_new w _)).1
 ·show (Array.setIfInBounds _ _ _)[ms]? = _
  rw[Array.getElem?_setIfInBounds_ne (by omega)];exact JG
theorem Lr(h:bS w ms []):∃ since,(Instr.range 86 (.map (some ms))).run Tryz.prog w=.ok (aM w.heap.size) (w.alloc (.mapIter (some ms) since #[] since))∧(∀ ty,(Instr.next (aM w.heap.size) false ty).run Tryz.prog (w.alloc (.mapIter (some ms) since #[] since))=.ok (.tuple #[.bool false]) (w.alloc (.mapIter (some ms) since #[] since))):=by
 have bC:=h.lt;obtain⟨clock,hb⟩:=h.nil;have JG:(w.alloc (.mapIter (some ms) clock #[] clock)).heap[ms]? = some (.map #[] clock):=by rw[heap_alloc_old w _ bC,hb]
 refine⟨clock,run_range_map (P:=Tryz.prog) w 86 _ _ ms _ clock underlying86 hb,fun ty=>?_⟩;exact PL (heap_alloc_new w _) JG ty
theorem TP(hi:w.heap[it]? = some (.mapIter (some ms) since #[born] since))(hm:(∃ c,w.heap[ms]? = some (.map #[] c))∨∃ k v c,w.heap[ms]? = some (.map #[⟨k,v,born⟩] c))(hn:born<since)(ty:TypeId):(Instr.next (aM it) false ty).run Tryz.prog w=.ok (.tuple #[.bool false]) w:=by
 have Ki:¬ since≤born:=by omega
 rcases hm with⟨c,hm⟩ | ⟨k,v,c,hm⟩
 ·simp[Instr.next,getObj,Sem.run_bind,Sem.run,hi,hm,Result.andThen,choose,Question.forced]
 ·simp[Instr.next,getObj,Sem.run_bind,Sem.run,hi,hm,Result.andThen,choose,Question.forced,Ki]
theorem abz:∃ j,Tryz.prog.info? 157=some j:=by
 have h:(Tryz.prog.info? 157).isSome=true:=by kernel_rfl
 exact Option.isSome_iff_exists.1 h
theorem Fg(w:World)(a:Addr):(binOp .eql 87 (.pointer (some a)) (.pointer (some a))).run Tryz.prog w=.ok (.bool true) w:=by
 obtain⟨j,hj⟩:=abz;exact run_eql_ptr_same w a underlying87 hj
theorem Fh(w:World)(a:Addr):(binOp .neq 87 (.pointer (some a)) (.pointer (some a))).run Tryz.prog w=.ok (.bool false) w:=by
 have h:=Fg w a;simp only[binOp] at h ⊢;cases h2:(Op.equal 87 (.pointer (some a)) (.pointer (some a))).run Tryz.prog w<;>simp_all
theorem Fj(w:World)(a:Addr):(binOp .neq 87 (.pointer none) (.pointer (some a))).run Tryz.prog w=.ok (.bool true) w:=by
 have h1:∀ d:Nat,(Op.equalIn (d+1) 87 (.pointer none) (.pointer (some a))).run Tryz.prog w=.ok false w:=fun d=>by simp[Op.equalIn,run_underlying underlying87]
 have h2:(Op.equal 87 (.pointer none) (.pointer (some a))).run Tryz.prog w=.ok false w:=h1 9999;simp[binOp,h2]
theorem SG.xI(g:SG):g.aF.Perm (((g.bB++g.bq)++(g.nQ++g.nR))++(g.jy++(g.vx++(g.yd++g.vy)))):=bF (fun p=>by unfold SG.aF SG.rest;simp only[aP];omega)
theorem cB.Ze(h:cB lo w g)(hh:cE lo w' ((g'.bB++g'.bq)++(g'.nQ++g'.nR)))(hg:cM w ((g.bB++g.bq)++(g.nQ++g.nR)) w' ((g'.bB++g'.bq)++(g'.nQ++g'.nR)))(hr:g'.jy++(g'.vx++(g'.yd++g'.vy))=g.jy++(g.vx++(g.yd++g.vy)))(hb:g'.b=g.b)(hi:g'.iv=g.iv)(hf:g'.W=g.W∧g'.D=g.D∧g'.R=g.R)
  (rt:du 1 g'.tv g'.au.length (g'.au.map (fun t=>aJ t.ap))) (tp:∀ t∈g'.au,t.Ok) (ss:∀ s∈g'.aY.toList,s.Ok) (rw':du 6 g'.wv g'.waits.length (Rl g'.waits)):dw lo w g g'.st w' g':=by
 have p2:=(SG.xI g').symm;rw[hr] at p2;exact⟨⟨((h.dR.bZ (SG.xI g)).dE hh hg).bZ p2,rt,tp,ss,rw'⟩,rfl,hg.dE.bZ (SG.xI g).symm p2,hb,hi,hf⟩
theorem Fk{l:List (Nat × Nat)}(hl:lo≤ms)(h:bS w ms l):cE lo w [eI ms l]:=⟨by simp,fun p hp=>by
 rw[List.mem_singleton.1 hp];obtain⟨es,clock,hb,hk⟩:=h
 exact⟨hl,_,hb,⟨es,clock,rfl,hk⟩,by simp[Yn,aej]⟩⟩
theorem cB.abA(h:cB lo w g):lo≤g.ms:=(h.dR.lt ⟨eI g.ms (g.aY.toList.map (fun s=>(s.ah,s.ap))),by unfold SG.aF SG.rest SG.nQ;simp,rfl⟩).1
theorem cB.IA(h:cB lo w g):¬ aL (g.bB++g.bq) g.ms:=fun⟨p,hp,e⟩=>by
 have hd:=(ay.1 (ay.1 (h.dR.bZ (SG.xI g))).1).2.2;exact hd p hp (eI g.ms (g.aY.toList.map (fun s=>(s.ah,s.ap)))) (List.mem_append_left _ (List.mem_singleton.2 rfl)) e
theorem cB.PN(h:cB lo w g):g.ms≠g.b:=fun e=>h.IA (aL.bM.2 (Or.inl (aL.one.2 e)))
theorem cB.Nt(h:cB lo w g):cE lo w (g.bB++g.bq):=(ay.1 (ay.1 (h.dR.bZ (SG.xI g))).1).1
theorem cB.q_b(h:cB lo w g):g.q≠g.b∧g.m≠g.b:=by
 have hd:=(ay.1 h.Nt).2.2;exact⟨fun e=>hd _ (List.mem_singleton.2 rfl) (pN g.q g.L) (List.mem_append_left _ (List.mem_singleton.2 rfl)) e.symm,fun e=>hd _ (List.mem_singleton.2 rfl) (j9 g.m g.L) (List.mem_append_right _ (List.mem_singleton.2 rfl)) e.symm⟩
theorem cB.Y7(h:cB lo w g)(fF:g.cur=false)(hm:bS w' g.ms [])(hc:aQ (fun k=>k=g.ms) w w'):dw lo w g { g.st with aY:=none } w' { g with aY:=none }:=by
 have e1:({ g with aY:=none }:SG).bB=g.bB:=by
  have e:({ g with aY:=none }:SG).fR=g.fR:=by
   unfold SG.fR;rw[fF]
  show [eL g.b _ (pZ g.iv _ _ _ g.bu g.fN g.up g.q g.m [g.tv,.map (some g.ms),({ g with aY:=none }:SG).fR,_,g.wv,_,_])]=_;rw[e];rfl
 have hF:=h.Nt.nO hc (fun k hk e=>h.IA (by rw[← e];exact hk))
 have hT:=h.Ze (g':={ g with aY:=none }) (w':=w') (by
  rw[e1]
  exact ay.2 ⟨hF,by show cE lo w' ([eI g.ms []]++[]);rw[List.append_nil];exact Fk h.abA hm,fun a ha b hb e=>by
   have:b=eI g.ms []:=by
    have JG:b∈[eI g.ms []]++([]:List fm):=hb;simpa using JG
   subst this
   exact h.IA ⟨a,ha,e⟩⟩) ⟨hc.mono (fun i _ hi=>by subst hi;exact aL.bM.2 (Or.inr (aL.bM.2 (Or.inl (aL.one.2 rfl))))),fun k hk=>Or.inl (by
   rw[e1] at hk
   rcases aL.bM.1 hk with e | e
   ·exact aL.bM.2 (Or.inl e)
   ·rcases aL.bM.1 e with e | e
    ·exact aL.bM.2 (Or.inr (aL.bM.2 (Or.inl (aL.one.2 (show k=g.ms from aL.one.1 e)))))
    ·exact absurd e aL.nil)⟩ rfl rfl rfl ⟨rfl,rfl,rfl⟩ h.rt h.tp (fun s hs=>by cases hs) h.rw
 exact hT
theorem cB.PO(h:cB lo w g)(di:lo≤w.heap.size)(e1:g'.b=g.b)(e2:g'.ms=g.ms)(e3:g'.aY=none)(e4:g'.L=[])(hB:aZ w' g.b 91 g'.cells)(hq:w.heap.size≤g'.q)(WN:w.heap.size≤g'.m)(h1:sD w' g'.q [])(h2:cK w' g'.m [])(hm:bS w' g.ms [])(hc:aQ (fun k=>k=g.b∨k=g.ms) w w'):
  cE lo w' ((g'.bB++g'.bq)++(g'.nQ++g'.nR))∧cM w ((g.bB++g.bq)++(g.nQ++g.nR)) w' ((g'.bB++g'.bq)++(g'.nQ++g'.nR)):=by
 have zA:=h.ap.lt;have JB:=h.lC.lt;have RR:=h.PN;have x1:g'.bB=[eL g.b 91 g'.cells]:=by unfold SG.bB;rw[e1]
 have x2:g'.bq=[pN g'.q []]++[j9 g'.m []]:=by unfold SG.bq;rw[e4]
 have x3:g'.nQ=[eI g.ms []]:=by unfold SG.nQ;rw[e2,e3];rfl
 have x4:g'.nR=[]:=by unfold SG.nR;rw[e3];rfl
 rw[x1,x2,x3,x4,List.append_nil];constructor
 ·exact ay.2 ⟨ay.2 ⟨ct h.MB hB (by decide),oB (by omega) (by omega) h1 h2,fun a ha c fZ=>by
   rw[List.mem_singleton.1 ha]
   rcases List.mem_append.1 fZ with e | e
   ·rw[List.mem_singleton.1 e]
    show g.b≠g'.q;omega
   ·rw[List.mem_singleton.1 e]
    show g.b≠g'.m
    omega⟩,Fk h.abA hm,fun a ha b hb e=>by
   rw[List.mem_singleton.1 hb] at e;have e:a.1=g.ms:=e
   rcases List.mem_append.1 ha with ha | ha
   ·rw[List.mem_singleton.1 ha] at e
    exact RR e.symm
   ·rcases List.mem_append.1 ha with ha | ha
    ·rw[List.mem_singleton.1 ha] at e
     have:g'.q=g.ms:=e;omega
    ·rw[List.mem_singleton.1 ha] at e
     have:g'.m=g.ms:=e
     omega⟩
 ·exact⟨hc.mono (fun i _ hi=>by
   rcases hi with rfl | rfl
   ·exact aL.bM.2 (Or.inl (aL.bM.2 (Or.inl (aL.one.2 rfl))))
   ·exact aL.bM.2 (Or.inr (aL.bM.2 (Or.inl (aL.one.2 rfl))))),fun k hk=>by
   rcases aL.bM.1 hk with e | e
   ·rcases aL.bM.1 e with e | e
    ·exact Or.inl (aL.bM.2 (Or.inl (aL.bM.2 (Or.inl (aL.one.2 (show k=g.b from aL.one.1 e))))))
    ·rcases aL.bM.1 e with e | e
     ·exact Or.inr (by rw[aL.one.1 e];exact hq)
     ·exact Or.inr (by rw[aL.one.1 e];exact WN)
   ·exact Or.inl (aL.bM.2 (Or.inr (aL.bM.2 (Or.inl (aL.one.2 (show k=g.ms from aL.one.1 e))))))⟩
theorem cB.TQ{q' m':Nat}(h:cB lo w g)(di:lo≤w.heap.size)(hB:aZ w' g.b 91 ({ g with aY:=none,cur:=false,L:=[],q:=q',m:=m',wv:=.slice none 0 0,waits:=[] }:SG).cells)(hq:w.heap.size≤q')(WN:w.heap.size≤m')(h1:sD w' q' [])(h2:cK w' m' [])(hm:bS w' g.ms [])(hc:aQ (fun k=>k=g.b∨k=g.ms) w w'):dw lo w g g.st.qT w' { g with aY:=none,cur:=false,L:=[],q:=q',m:=m',wv:=.slice none 0 0,waits:=[] }:=by
 obtain⟨x1,x2⟩:=h.PO (g':={ g with aY:=none,cur:=false,L:=[],q:=q',m:=m',wv:=.slice none 0 0,waits:=[] }) di rfl rfl rfl rfl hB hq WN h1 h2 hm hc;generalize xR:({ g with aY:=none,cur:=false,L:=[],q:=q',m:=m',wv:=.slice none 0 0,waits:=[] }:SG)=g' at x1 x2;have er:g'.jy++(g'.vx++(g'.yd++g'.vy))=g.jy++(g.vx++g.vy):=by rw[← xR];rfl
 have p2:=(SG.xI g').symm;rw[er] at p2;generalize hX:(g'.bB++g'.bq)++(g'.nQ++g'.nR)=X' at x1 x2 p2;have p3:(X'++(g.jy++(g.vx++(g.yd++g.vy)))).Perm ((X'++(g.jy++(g.vx++g.vy)))++g.yd):=bF (fun p=>by simp only[aP];omega);have hh:=(((h.dR.bZ (SG.xI g)).dE x1 x2).left p3).bZ p2
 have hg:cM w g.aF w' g'.aF:=by
  have y:=(x2.dE (R:=g.jy++(g.vx++(g.yd++g.vy)))).bZ (SG.xI g).symm p3;exact⟨y.c,fun k hk=>y.k k (aL.bM.2 (Or.inl ((aL.bZ p2).2 hk)))⟩
 subst xR;exact⟨⟨hh,h.rt,h.tp,(fun s hs=>by cases hs),Or.inl ⟨rfl,rfl,rfl⟩⟩,rfl,hg,rfl,rfl,rfl,rfl,rfl⟩
theorem cB.al1{b' cW num:Nat}(h:cB lo w g)(di:lo≤w.heap.size)(ol:w.heap.size≤b')(hB:aZ w' g.b 91 ({ g with aY:=some ⟨b',gA,cW,num,0,0,.slice none 0 0,[],.slice none 0 0,[]⟩,cur:=true,cR:=num }:SG).cells)(hS:aZ w' b' 157 (ec ⟨b',gA,cW,num,0,0,.slice none 0 0,[],.slice none 0 0,[]⟩))(hm:bS w' g.ms [(gA,b')])(hc:aQ (fun k=>k=g.b∨k=g.ms) w w'):
  dw lo w g { g.st with aY:=some ⟨gA,cW,num,0,0,[],[]⟩,cur:=true,cR:=num } w' { g with aY:=some ⟨b',gA,cW,num,0,0,.slice none 0 0,[],.slice none 0 0,[]⟩,cur:=true,cR:=num }:=by
 have zA:=h.ap.lt;have JB:=h.lC.lt;have RR:=h.PN;have hql:=h.dR.lt (k:=g.q) ⟨pN g.q g.L,by unfold SG.aF SG.bq;simp,rfl⟩;have ov:=h.dR.lt (k:=g.m) ⟨j9 g.m g.L,by unfold SG.aF SG.bq;simp,rfl⟩
 have hQ:=(ay.1 h.Nt).2.1.nO hc (fun k hk e=>by
  rcases e with rfl | rfl
  ·rcases aL.bM.1 hk with e | e
   ·exact h.q_b.1 (aL.one.1 e).symm
   ·exact h.q_b.2 (aL.one.1 e).symm
  ·exact h.IA (aL.bM.2 (Or.inr hk)))
 have er:({ g with aY:=some ⟨b',gA,cW,num,0,0,.slice none 0 0,[],.slice none 0 0,[]⟩,cur:=true,cR:=num }:SG).nR=[eL b' 157 (ec ⟨b',gA,cW,num,0,0,.slice none 0 0,[],.slice none 0 0,[]⟩)]:=by
  unfold SG.nR cZ.aF cZ.cT cZ.jm cZ.kR cx;simp
 exact h.Ze (g':={ g with aY:=some ⟨b',gA,cW,num,0,0,.slice none 0 0,[],.slice none 0 0,[]⟩,cur:=true,cR:=num }) (w':=w') (by
  rw[er]
  exact ay.2 ⟨ay.2 ⟨ct h.MB hB (by decide),hQ,fun a ha c fZ=>by
   rw[List.mem_singleton.1 ha]
   exact(ay.1 h.Nt).2.2 _ (List.mem_singleton.2 rfl) c fZ⟩,ay.2 ⟨Fk h.abA hm,ct (by omega) hS (by decide),fun a ha c fZ=>by
   rw[List.mem_singleton.1 ha,List.mem_singleton.1 fZ];show g.ms≠b'
   omega⟩,fun a ha c fZ e=>by
   rcases List.mem_append.1 fZ with fZ | fZ
   ·rw[List.mem_singleton.1 fZ] at e
    have e:a.1=g.ms:=e;refine h.IA ?_;rw[← e]
    rcases List.mem_append.1 ha with ha | ha
    ·exact aL.bM.2 (Or.inl (by rw[List.mem_singleton.1 ha];exact aL.one.2 rfl))
    ·exact aL.bM.2 (Or.inr ⟨a,ha,rfl⟩)
   ·rw[List.mem_singleton.1 fZ] at e
    have e:a.1=b':=e
    rcases List.mem_append.1 ha with ha | ha
    ·rw[List.mem_singleton.1 ha] at e
     have:g.b=b':=e;omega
    ·rcases List.mem_append.1 ha with ha | ha
     ·rw[List.mem_singleton.1 ha] at e
      have:g.q=b':=e;omega
     ·rw[List.mem_singleton.1 ha] at e
      have:g.m=b':=e
      omega⟩) ⟨hc.mono (fun i _ hi=>by
   rcases hi with rfl | rfl
   ·exact aL.bM.2 (Or.inl (aL.bM.2 (Or.inl (aL.one.2 rfl))))
   ·exact aL.bM.2 (Or.inr (aL.bM.2 (Or.inl (aL.one.2 rfl))))),fun k hk=>by
   rw[er] at hk
   rcases aL.bM.1 hk with e | e
   ·rcases aL.bM.1 e with e | e
    ·exact Or.inl (aL.bM.2 (Or.inl (aL.bM.2 (Or.inl (aL.one.2 (show k=g.b from aL.one.1 e))))))
    ·exact Or.inl (aL.bM.2 (Or.inl (aL.bM.2 (Or.inr e))))
   ·rcases aL.bM.1 e with e | e
    ·exact Or.inl (aL.bM.2 (Or.inr (aL.bM.2 (Or.inl (aL.one.2 (show k=g.ms from aL.one.1 e))))))
    ·exact Or.inr (by rw[aL.one.1 e];exact ol)⟩ rfl rfl rfl ⟨rfl,rfl,rfl⟩ h.rt h.tp (fun s hs=>by
   have:s=⟨b',gA,cW,num,0,0,.slice none 0 0,[],.slice none 0 0,[]⟩:=by simpa using hs
   rw[this]
   exact⟨Or.inl ⟨rfl,rfl,rfl⟩,Or.inl ⟨rfl,rfl,rfl⟩⟩) h.rw
theorem cB.Lt{s':cZ}(h:cB lo w g)(hs:g.aY=some s)(hc:aQ (fun k=>k=s.ap) w w')(hB:aZ w' s.ap 157 (ec s'))(hb:s'.ap=s.ap)(ht:s'.ah=s.ah)(hr:s'.fv=s.fv∧s'.af=s.af∧s'.av=s.av∧s'.aC=s.aC):dw lo w g { g.st with aY:=some s'.o } w' { g with aY:=some s' }:=by
 have hS:=h.gK hs;have di:lo≤s.ap:=(hS.lt (aL.bM.2 (Or.inl (aL.one.2 rfl)))).1;have hh:cE lo w' s'.cT:=by unfold cZ.cT;rw[hb];exact ct di hB (by decide)
 have hg:cM w s.cT w' s'.cT:=⟨hc.mono (fun i _ hi=>by subst hi;exact aL.one.2 rfl),fun k hk=>Or.inl (aL.one.2 ((aL.one.1 hk).trans hb))⟩
 obtain⟨h1,h2,h3,h4⟩:=hr
 have e:s'.aF g.dz=s'.cT++(s.jm++(s.af.flatMap (iq.aF s.ap g.dz)++s.kR)):=by
  unfold cZ.aF cZ.jm cZ.kR;rw[h1,h2,h3,h4,hb]
 have bX:=h.nw hs;exact h.ko hs (by rw[e];exact hS.dE hh hg) (by rw[e];exact hg.dE) hb ht ⟨by rw[h1,h2];exact bX.rf,by rw[h3,h4];exact bX.rn⟩
theorem TR(w:World)(b:Nat)(i0 i1 i2 i3:Value)(bu:Int)(fN up:Bool)(q m:Nat)(tv cv wv:Value)(ms mo:Nat)(cR aE:Int)
  (h:aZ w b 91 (pZ i0 i1 i2 i3 bu fN up q m [tv,.map (some ms),cv,vU cR,wv,vI aE,.map (some mo)])) :
  aT 41 #[aM b] w (fun e w'=>e=.returned (.tuple #[])∧∃ q' m',w.heap.size≤q'∧w.heap.size≤m'∧aZ w' b 91 (pZ i0 i1 i2 i3 bu fN up q' m' [tv,.map (some ms),.pointer none,vU cR,wv,vI aE,.map (some mo)])∧sD w' q' []∧cK w' m' []∧aQ (fun k=>k=b) w w'):=by
 have d11:=h.ce 11 rfl;have g11:=h.aq 11;have hB:aZ (w.setCell (aj b 11) (.pointer none)) b 91 (pZ i0 i1 i2 i3 bu fN up q m [tv,.map (some ms),.pointer none,vU cR,wv,vI aE,.map (some mo)]):=h.set 11 _;have hc:aQ (fun k=>k=b) w (w.setCell (aj b 11) (.pointer none)):=(aQ.refl _ _).setCell _ _ (fun _=>rfl);have hz:=hc.size;have HB:=U hB;clear h hB
 go_enter func41,ntmps41
 go_wp2_with fail
 refine(qR _ b _ i0 i1 i2 i3 bu fN up _ _ _ HB.o).mono ?_;rintro e w1 ⟨rfl,q',m',h1,h2,h3,h4,h5,h6⟩;have H4:=U h4;have H3:=U h3;clear h3 h4
 go_wp2_with fail
 go_end0
 exact⟨rfl,q',m',by omega,by omega,H3.o,H4.o,h5,hc.same h6⟩
theorem abB(h:cB lo w g)(di:lo≤w.heap.size)(bA:Int)(hc:g.fN=false∨g.bu<bA):
  aT 55 #[aM g.b,vI bA] w (fun e w'=>e=.returned (vI 0)∧∃ g',dw lo w g (g.st.raise bA) w' g'):=by
 have H:=U h;have HC:=U hc;clear h hc
 go_enter func55,ntmps55
 go_wp2_with fail
 refine(CM w g.b _ g.iv _ _ _ g.bu g.fN g.up g.q g.m _ H.o.ap bA HC.o).mono ?_;rintro e w1 ⟨rfl,q',m',h1,h2,h3,h4,h5,h6⟩;have hT:=H.o.MC (g':={ g with bu:=bA,fN:=true,up:=true,q:=q',m:=m',L:=[] }) di h6 h3 h1 h2 h4 h5 rfl rfl rfl ⟨rfl,rfl,rfl⟩ H.o.rt H.o.tp H.o.ss H.o.rw;have d11:=h3.ce 11 rfl;have g11:=h3.aq 11;have hB:aZ (w1.setCell (aj g.b 11) (.pointer none)) g.b 91 ({ g with bu:=bA,fN:=true,up:=true,q:=q',m:=m',L:=[],cur:=false }:SG).cells:=h3.set 11 _;have jk:aQ (fun k=>k=g.b) w1 (w1.setCell (aj g.b 11) (.pointer none)):=(aQ.refl _ _).setCell _ _ (fun _=>rfl);have HT:=U (hT.trans (hT.cN.ke (g':={ g with bu:=bA,fN:=true,up:=true,q:=q',m:=m',L:=[],cur:=false }) jk hB rfl rfl rfl rfl ⟨rfl,rfl,rfl⟩ H.o.rt H.o.tp H.o.ss H.o.rw));clear h1 h2 h3 h4 h5 h6 hT hB jk
 go_wp2_with fail
 go_ret
 exact⟨rfl,_,HT.o⟩
theorem AC(h:cB lo w g)(di:lo≤w.heap.size):
  aT 25 #[aM g.b] w (fun e w'=>e=.returned (.tuple #[])∧∃ g',dw lo w g g.st.qT w' g'):=by
 obtain⟨w1,tZ,wX,jk⟩:=PK h.lC;have d10:=h.ap.ce 10 rfl;have RR:=h.PN;have dD:=h.ap.dW jk (fun e=>RR (Eq.symm e));have d13:=dD.ce 13 rfl;have g13:=dD.aq 13;have jO:aQ (fun k=>k=g.b) w1 (w1.setCell (aj g.b 13) (.slice none 0 0)):=(aQ.refl _ _).setCell _ _ (fun _=>rfl);have cz:aZ (w1.setCell (aj g.b 13) (.slice none 0 0)) g.b 91 (pZ g.iv (vI g.W) (vI g.D) (vI g.R) g.bu g.fN g.up g.q g.m [g.tv,.map (some g.ms),g.fR,vU g.cR,.slice none 0 0,vI g.aE,.map (some g.mo)]):=dD.set 13 _;have pY:=wX.dW jO RR;obtain⟨w2,dX⟩:∃ w2,w1.setCell (aj g.b 13) (.slice none 0 0)=w2:=⟨_,rfl⟩
 rw[dX] at jO cz pY;have Hc2:=U jO;have Hc1:=U jk;have gX:=U cz;have Hm2:=U pY;have H:=U h;clear h wX jk dD jO cz pY
 go_enter func25,ntmps25
 go_wp2_with fail
 refine(TR _ g.b g.iv _ _ _ g.bu g.fN g.up g.q g.m _ _ _ g.ms g.mo _ _ gX.o).mono ?_;rintro e w3 ⟨rfl,q',m',h1,h2,h3,h4,h5,h6⟩;have H3:=U h3;have H4:=U h4;have H5:=U h5;have H6:=U h6;clear h3 h4 h5 h6
 go_wp2_with fail
 go_end0
 refine⟨rfl,{ g with aY:=none,cur:=false,L:=[],q:=q',m:=m',wv:=.slice none 0 0,waits:=[] },?_⟩;have z1:=Hc1.o.size;have z2:=Hc2.o.size;exact H.o.TQ di H3.o (by omega) (by omega) H4.o H5.o (Hm2.o.dW H6.o RR) (((Hc1.o.mono (fun _ _ e=>Or.inr e)).same (Hc2.o.mono (fun _ _ e=>Or.inl e))).same (H6.o.mono (fun _ _ e=>Or.inl e)))
theorem PP(hi:w.heap[it]? = some (.mapIter (some ms) since #[born] since))(hm:w.heap[ms]? = some (.map #[⟨vU gA,aJ b,born⟩] since)):(Instr.entry (aM it)).run Tryz.prog w=.ok (.tuple #[vU gA,aM b]) w:=by
 simp[Instr.entry,getObj,Sem.run_bind,Sem.run,hi,hm,Result.andThen,aJ]
theorem abC(h:cB lo w g)(hs:g.aY=none):
  aT 84 #[aM g.b] w (fun e w'=>e=.returned (.tuple #[])∧∃ g',dw lo w g (g.st.hJ g.W g.D) w' g'):=by
 have hm:bS w g.ms []:=by have:=h.lC;rw[hs] at this;exact this
 obtain⟨since,hr,hx⟩:=Lr hm;have d10:=h.ap.ce 10 rfl;have aA:Below w.heap.size w (w.alloc (.mapIter (some g.ms) since #[] since)):=(Below.refl _ _).alloc (Nat.le_refl _) _;have H1:=U (h.below aA);have HN:=U (show g.fR=.pointer none by unfold SG.fR;rw[hs];split<;>first | rfl | (rename_i e;cases e));have HE:=U (show g.st.hJ g.W g.D=g.st.dI g.W by unfold SP.hJ;rw[show g.st.aY=none by unfold SG.st;rw[hs];rfl]);have iV:=U aA;clear h hm hs aA
 go_enter func84,ntmps84
 go_wp2_with fail
 go_loopg [2,3] 1 (fun gk x y wr=>wr=w.alloc (.mapIter (some g.ms) since #[] since))
 case atStart=>rfl
 case round=>
  subst hrel
  go_wp2_with fail
  refine(Fe H1.o HN.o).mono ?_;rintro e w2 ⟨rfl,h7⟩;have H7:=U h7;clear h7
  go_wp2_with fail
  go_end0
  exact⟨rfl,_,by rw[HE.o];exact H7.o.bz iV.o⟩
theorem abD(h:cB lo w g)(hs:g.aY=some s)(hS:SSm g.st)(hW:g.W≤1000)(hd:s.silence+1<g.D):
  aT 84 #[aM g.b] w (fun e w'=>e=.returned (.tuple #[])∧∃ g',dw lo w g (g.st.hJ g.W g.D) w' g'):=by
 have hm:bS w g.ms [(s.ah,s.ap)]:=by have:=h.lC;rw[hs] at this;exact this
 have hms:=hm.lt;obtain⟨since,born,w2,Nc,hr,Sw,aW,Dg,pY⟩:=PM hm;have d10:=h.ap.ce 10 rfl;have h2:=h.below aW;have rQ:=h2.fL hs;have c3:=rQ.ce 3 rfl;have f3:=rQ.aq 3;have gz:aZ (w2.setCell (aj s.ap 3) (vI ((s.silence:Int)+1))) s.ap 157 (ec { s with silence:=s.silence+1 }):=rQ.set 3 _;have js:aQ (fun k=>k=s.ap) w2 (w2.setCell (aj s.ap 3) (vI ((s.silence:Int)+1))):=(aQ.refl (fun k=>k=s.ap) w2).setCell (aj s.ap 3) _ (fun _=>rfl);obtain⟨w3,iK⟩:∃ w3,w2.setCell (aj s.ap 3) (vI ((s.silence:Int)+1))=w3:=⟨_,rfl⟩
 rw[iK] at gz js;have hsb:s.ap<w.heap.size:=(h.fL hs).lt
 have al2:g.ms≠s.ap:=fun e=>by
  have h1:w2.heap[s.ap]? = _:=rQ;rw[← e,pY] at h1;cases h1
 have hi3:w3.drew.heap[w.heap.size]? = some (.mapIter (some g.ms) since #[born] since):=(js.block w.heap.size (by have:=(Array.getElem?_eq_some_iff.1 Dg).1;exact this) (by omega)).trans Dg;have Mw:w3.drew.heap[g.ms]? = some (.map #[⟨vU s.ah,aJ s.ap,born⟩] since):=(js.block g.ms (Nat.lt_of_lt_of_le hms aW.size) al2).trans pY;have k3:=gz.ce 3 rfl;have FW:=(dw.refl h aW).trans (h2.Lt (s':={ s with silence:=s.silence+1 }) hs js gz rfl rfl ⟨rfl,rfl,rfl,rfl⟩);have k2:=FW.cN.ap.ce 2 rfl;have hT:=FW.below (Below.refl _ w3).drew;clear FW;have HT:=U hT;have vQ:=(hS.sl s.o (SG.tO hs)).1;have vQ:s.silence≤1000000000000:=vQ;have hen:=PP Dg pY;have hx:∀ ty,(Instr.next (aM w.heap.size) false ty).run Tryz.prog (w.alloc (.mapIter (some g.ms) since #[] since))=.ok (.tuple #[.bool true,vU s.ah,aM s.ap]) w2:=Sw
 clear Sw;have hxe:=fun ty=>TP (ty:=ty) hi3 (Or.inr ⟨_,_,_,Mw⟩) Nc
 have bC:((s.silence:Int)+1<(g.D:Int)):=by omega
 have HP:=U (hS.toSSp.mono (p':=({ g with aY:=some { s with silence:=s.silence+1 } }:SG).st) rfl (fun o' mz=>⟨s.o,SG.tO hs,by cases mz;exact⟨rfl,rfl⟩⟩))
 have HE:=U (show g.st.hJ g.W g.D=({ g with aY:=some { s with silence:=s.silence+1 } }:SG).st.dI g.W by
  unfold SP.hJ;rw[SG.tO hs];show (if s.silence+1<g.D then _ else _:SP).dI g.W=_;rw[if_pos hd]
  rfl)
 clear h hm hs hS h2 rQ js gz hT Dg pY hi3 Mw aW
 go_enter func84,ntmps84
 go_wp2_with fail
 go_loopg [2,3] 2 (fun gk x y wr=>(gk=2∧wr=w.alloc (.mapIter (some g.ms) since #[] since))∨(gk=1∧wr=w3.drew))
 case atStart=>exact Or.inl ⟨rfl,rfl⟩
 case round=>
  rcases hrel with⟨rfl,rfl⟩ | ⟨rfl,rfl⟩
  ·go_wp2_with fail
   go_region
   all_goals
    go_wp2_with fail
    go_roundg 1
    case rel=>exact Or.inr ⟨rfl,rfl⟩
    case measure=>omega
  ·go_wp2_with fail
   refine(TN HT.o.cN HP.o hW).mono ?_;rintro e w4 ⟨rfl,g4,h4,_⟩;have H4:=U h4;clear h4
   go_wp2_with fail
   go_end0
   exact⟨rfl,g4,by rw[HE.o];exact HT.o.trans H4.o⟩
theorem SA(h:cB lo w g)(hS:SSm g.st)(hW:g.W≤1000)(hd:∀ s,g.aY=some s→s.silence+1<g.D):
  aT 84 #[aM g.b] w (fun e w'=>e=.returned (.tuple #[])∧∃ g',dw lo w g (g.st.hJ g.W g.D) w' g'):=by
 cases hs:g.aY with
 | none=>exact abC h hs
 | some s=>exact abD h hs hS hW (hd s hs)
end Go.Proofs.YtkpfplbmmglkkaaGreatDoor
