/- Package courierkeep: publish: does a stream lack what would go? -/
import Derived.Test.YtkpfplbmmglkkaaGreatDoorV34
set_option linter.all false
set_option maxHeartbeats 4000000
set_option maxRecDepth 100000
namespace Go.Proofs.YtkpfplbmmglkkaaGreatDoor
open Go.Proofs.Tryz
variable {t n lo R k:Nat}{w:World}
open Go.RowKit Go.Conc
theorem acI(ht:t<3)(n:Nat)(hn:n≤2000)(w:World)(hE:JR w):aT 14 #[.string (eN t),vI n] w (y9 (rX t n) w):=by
 match t,ht with
 | 0,_=>exact Qb n hn w hE
 | 1,_=>exact Ub n hn w hE
 | 2,_=>exact IU n hn w hE
def kE(t n:Nat):ByteArray:=⟨(rX t n).toArray⟩
theorem XW{V:ByteArray}(h:V.toList=rX t n):V=kE t n:=by
 unfold kE;rw[← h,ByteArray.toList_eq]
theorem fY.at{f:Nat→ByteArray}{b:Nat}(ht:t<3)(h0:w.cell? (aj b 0)=some (.string (f 0)))(h1:w.cell? (aj b 1)=some (.string (f 1)))(h2:w.cell? (aj b 2)=some (.string (f 2))):w.cell? (aj b t)=some (.string (f t)):=by
 match t,ht with
 | 0,_=>exact h0
 | 1,_=>exact h1
 | 2,_=>exact h2
def gp.jc(t n R:Nat)(x:gp):gp:=if x.aG=t∧¬ n<x.start+1+R then { x with ni:=true } else x
def WP.LW(p:WP)(t:Nat)(V:ByteArray):WP:=match t with
 | 0=>{ p with v0:=p.v0++[V] }
 | 1=>{ p with v1:=p.v1++[V] }
 | _=>{ p with v2:=p.v2++[V] }
def WP.pub(p:WP)(t:Nat)(V:ByteArray)(d:List UInt8):WP:={ ({ p with s:=p.s.iS p.W p.R t d }:WP).LW t V with ae:=p.ae.map (gp.jc t ((p.cy t).length+1) p.R) }
def WG.LW(g:WG)(t:Nat)(vv:Value)(V:ByteArray):WG:=match t with
 | 0=>{ g with T5:=vv,v0:=g.v0++[V] }
 | 1=>{ g with wG:=vv,v1:=g.v1++[V] }
 | _=>{ g with T6:=vv,v2:=g.v2++[V] }
theorem gO.anB{g:WG}(ht:t=1)(h:gO lo w g)(di:lo≤w.heap.size)(hn:(g.dO t).length≤1000000){nb:Nat}{T:TypeId}{x:ByteArray}(hN:aZ w nb T [.string x]){aa:Option Addr}{ac:Nat}(hv:g.Zn t=.slice aa (g.dO t).length ac):
  ∃ a' c' w',(Builtin.append_ #[31,31] 31 #[.slice aa (g.dO t).length ac,.slice (some (aj nb 0)) 1 1]).run Tryz.prog w=.ok (.slice a' ((g.dO t).length+1) c') w'∧w'.cell? ⟨g.b,10+t,none⟩=some (.slice aa (g.dO t).length ac)∧w'.frozen? ⟨g.b,10+t,none⟩=false∧kz lo w g (g.st.LW t x) (w'.setCell ⟨g.b,10+t,none⟩ (.slice a' ((g.dO t).length+1) c')) (g.LW t (.slice a' ((g.dO t).length+1) c') x):=by
 subst ht;obtain⟨a',c',w',h1,h2,h3,_,h4⟩:=h.ag5 di hn hN hv;exact⟨a',c',w',h1,h2,h3,h4⟩
def eO(t n R k:Nat)(l:List gp):List gp:=(l.take k).map (gp.jc t n R)++l.drop k
theorem Bh(t n R k:Nat)(l:List gp):(eO t n R k l).length=l.length:=by
 unfold eO;rw[List.length_append,List.length_map,← List.length_append,List.take_append_drop]
theorem DP{l:List gp}{x:gp}(h:l[k]? = some x):(eO t n R k l)[k]? = some x:=by
 unfold eO;have hl:=(List.getElem?_eq_some_iff.1 h).1;have e:((l.take k).map (gp.jc t n R)).length=k:=by rw[List.length_map,List.length_take];omega
 rw[List.getElem?_append_right (by omega),e,List.getElem?_drop,Nat.sub_self,Nat.add_zero];exact h
theorem Bi{l:List gp}{x:gp}(h:l[k]? = some x):eO t n R (k+1) l=(eO t n R k l).set k (x.jc t n R):=by
 have hl:=(List.getElem?_eq_some_iff.1 h).1;have e:((l.take k).map (gp.jc t n R)).length=k:=by rw[List.length_map,List.length_take];omega
 have ed:l.drop k=x::l.drop (k+1):=by
  rw[← List.getElem_cons_drop hl];rw[(List.getElem?_eq_some_iff.1 h).2]
 unfold eO;rw[List.set_append_right _ _ (by omega),e,Nat.sub_self,ed,List.set_cons_zero,List.take_add_one,h];simp
theorem LX{l:List gp}(h:l.length≤k):eO t n R k l=l.map (gp.jc t n R):=by
 unfold eO;rw[List.take_of_length_le h,List.drop_of_length_le h,List.append_nil]
theorem I7{l:List gp}{x:gp}(h:l[k]? = some x)(hx:x.jc t n R=x):eO t n R (k+1) l=eO t n R k l:=by
 rw[Bi h,hx];apply List.ext_getElem?;intro j;rw[List.getElem?_set]
 split
 ·rename_i e
  subst e;rw[DP h]
  split
  ·rfl
  ·rename_i e2
   rw[Bh] at e2;exact absurd (List.getElem?_eq_some_iff.1 h).1 e2
 ·rfl
theorem Uu{g:WG}{d:List UInt8}(h:gO lo w g)(di:lo≤w.heap.size)(I2:JR w)(kd A B C:Int)(yY:cI A 3=1)(hA:-9223372036854775808≤A∧A≤9223372036854775807)(hB:-9223372036854775808≤B∧B≤9223372036854775807)(htm:g.vu=false)(vQ:g.ae.length≤100000)(hR:g.R≤1000)(BM:(g.dO (cI A 3)).length≤100000)(CT:∀ x∈g.ae,x.start≤1000000)(Nv:g.Fm (cI A 3)=false)(XY:∀ w2,Below w.heap.size w w2→aT 29 #[aM g.sg.b,.string (cr (cI A 3)),.string (kE (cI A 3) (cI B 100))] w2 (fun e w'=>e=.returned (vI 0)∧∃ pV,dw lo w2 g.sg (g.sg.st.iS g.W g.R (cI A 3) d) w' pV)):
  aT 6 #[aM g.b,.agg #[vI kd,vI A,vI B,vI C]] w (fun e w'=>e=.returned (.bool true)∧∃ g',kz lo w g (g.st.pub (cI A 3) (kE (cI A 3) (cI B 100)) d) w' g'):=by
 have rW:=fw A (n:=3) (by omega);have hpb:=fw B (n:=100) (by omega);have QL:=U (fun w=>gE A 3 w (by omega) (by unfold maxLen;omega) hA);have Zl:=U (fun w=>gE B 100 w (by omega) (by unfold maxLen;omega) hB);obtain⟨t,ht⟩:∃ t,cI A 3=t:=⟨_,rfl⟩
 obtain⟨nb,ol⟩:∃ nb,cI B 100=nb:=⟨_,rfl⟩
 have rP:=ol;rw[ol] at XY hpb;rw[ht] at rW BM Nv XY yY;have HA1:=U yY;clear yY;rw[ol];obtain⟨w0,nF,cj,Hq⟩:=cS w [vI kd,vI A,vI B,vI C] 41;have a1:=Hq.ce 1 rfl;have HD0:=U Hq;have ii:=U cj;have H0:=U (h.below cj);clear Hq cj;obtain⟨sa,sc,jU⟩:=h.rt.slice;have d16:w0.cell? (aj g.b 16)=some (.slice sa g.ae.length sc):=(show w0.cell? (aj g.b 16)=some g.iP from H0.o.ap.cell 16).trans (by rw[jU]);have tj:=U jU;have HKB:=U (show ∀ w',Below w0.heap.size w0 w'→w'.cell? (aj w.heap.size 2)=some (vI B) from fun w' hb=>(HD0.o.below hb).cell 2);have Ug:=U (fun w' (hb:Below w0.heap.size w0 w')=>(I2.below ii.o).below hb);have anC:=U XY;have Vn:=U CT;clear h jU I2 XY CT;rw[ht]
 go_enter func6,ntmps6
 go_wp2_with fail
 refine(QL.o w0).mono ?_;rintro e w1 ⟨rfl,ee⟩;rw[ee,ht];clear ee
 go_wp2_with fail
 clear d16
 go_loopg [6] g.ae.length (fun gk i wr=>∃ k:Nat,k+gk=g.ae.length∧i=.int .i64 k∧Hid (Below w0.heap.size w0 wr))
 case atStart=>exact⟨0,by omega,rfl,U (Below.refl _ _)⟩
 case round=>
  obtain⟨k,hk,rfl,Zv⟩:=hrel;have Hr:=U (H0.o.below Zv.o);have d16:wr.cell? (aj g.b 16)=some (.slice sa g.ae.length sc):=(show wr.cell? (aj g.b 16)=some g.iP from Hr.o.ap.cell 16).trans (by rw[tj.o])
  by_cases bC:k<g.ae.length
  ·obtain⟨x,hx⟩:∃ x,g.ae[k]? = some x:=⟨_,List.getElem?_eq_getElem bC⟩
   obtain⟨ga,c,hv,aK⟩:=Hr.o.iO hx;obtain⟨rfl,rfl⟩:sa=some (aj ga 0)∧sc=c:=by simpa using tj.o.symm.trans hv
   have c0:wr.cell? ⟨ga,k*5,none⟩=some (vI x.aG):=aK 0 _ rfl;have c1:wr.cell? ⟨ga,k*5+1,none⟩=some (vI x.start):=aK 1 _ rfl;have c2:wr.cell? ⟨ga,k*5+2,none⟩=some (vI x.aE):=aK 2 _ rfl;have c3:wr.cell? ⟨ga,k*5+3,none⟩=some (vI x.ended):=aK 3 _ rfl;have c4:wr.cell? ⟨ga,k*5+4,none⟩=some (.bool x.ni):=aK 4 _ rfl;have d22:wr.cell? (aj g.b 22)=some (.bool false):=(show wr.cell? (aj g.b 22)=some (.bool g.vu) from Hr.o.ap.cell 22).trans (by rw[htm]);have ej:(k:Int)<(g.ae.length:Int):=by omega
   have Nc:Below w0.heap.size w0 (wr.alloc (.cells #[vI x.aG,vI x.start,vI x.aE,vI x.ended,.bool x.ni] 44)):=Zv.o.alloc Zv.o.size _;obtain⟨ws,VK⟩:∃ ws,wr.alloc (.cells #[vI x.aG,vI x.start,vI x.aE,vI x.ended,.bool x.ni] 44)=ws:=⟨_,rfl⟩
   rw[VK] at Nc;have s22:ws.cell? (aj g.b 22)=some (.bool false):=(show ws.cell? (aj g.b 22)=some (.bool g.vu) from(H0.o.below Nc).ap.cell 22).trans (by rw[htm]);have HBs:=U Nc;clear hv aK Nc
   go_wp2_with fail
   go_quiet (fail)
   go_wp2_with fail
   go_roundg (gk-1)
   case rel=>exact⟨k+1,by omega,by go_num,U (below_drewN HBs.o nq)⟩
   case measure=>omega
  ·have ej:¬ (k:Int)<(g.ae.length:Int):=by omega
   go_wp2_with fail
   have ahb:(t:Int)<3:=by omega
   have a2:wr.cell? (aj w.heap.size 2)=some (vI B):=HKB.o _ Zv.o
   go_cut [8] (fun s8 wx=>s8=.string (kE t nb)∧Hid (Below w0.heap.size w0 wx))
   case first=>
    go_region_with
     (first | (go_at_call 15;refine(ab6 wr.drew).mono ?_;rintro e wb ⟨bb,rfl,D2,hle,b0,b1,b2⟩;have LK:=U (show Below w0.heap.size w0 wb from Zv.o.drew.trans (D2.mono Zv.o.drew.size));have bt:wb.cell? (aj bb t)=some (.string (eN t)):=fY.at rW b0 b1 b2;have a2b:wb.cell? (aj w.heap.size 2)=some (vI B):=HKB.o _ LK.o;clear b0 b1 b2 D2 hle) | (go_at_call 5;refine(Zl.o wb).mono ?_;rintro e wp ⟨rfl,hwp⟩;rw[hwp,rP];clear hwp) | (go_at_call 14;refine(acI rW nb (by omega) wb (Ug.o _ LK.o)).mono ?_;rintro e wv ⟨V,rfl,hbv,hV,hVs⟩;have HBv:=U (show Below w0.heap.size w0 wv from LK.o.trans (hbv.mono LK.o.size));obtain rfl:=XW hV;clear hV hVs hbv))
    all_goals
     go_wp2_with fail
     go_meet
     case rel=>exact⟨rfl,HBv⟩
   case rest=>
    obtain⟨rfl,HBv⟩:=hcut;have Hc:=U (H0.o.below HBv.o);have e0:=Hc.o.ap.ce 0 rfl
    go_upto_region 9 with fail
    go_cut [9] (fun s9 wx=>s9=.int .i64 0∧∃ pV,Hid (kz lo w g { g.st with s:=g.sg.st.iS g.W g.R t d } wx { g with sg:=pV }))
    case first=>
     go_region_with
      (first | (go_at_call 17;refine(uQ wc.drew).mono ?_;rintro e wt ⟨tb,rfl,Gk,hle,b0,b1,b2⟩;have xL:=U (show Below w0.heap.size w0 wt from HBv.o.drew.trans (Gk.mono HBv.o.drew.size));have tt:wt.cell? (aj tb t)=some (.string (cr t)):=fY.at rW b0 b1 b2;have e0t:wt.cell? (aj g.b 0)=some (aM g.sb):=(H0.o.below xL.o).ap.cell 0;clear b0 b1 b2 Gk hle) | (go_at_call 16;refine((py wt g.sb g.sg.b ((H0.o.below xL.o).cT.cell 0)).AB (cr t) (kE t nb) (fun z w'=>z=0∧∃ pV,Hid (dw lo wt g.sg (g.sg.st.iS g.W g.R t d) w' pV)) ((anC.o wt (ii.o.trans (xL.o.mono ii.o.size))).mono (by rintro e w' ⟨rfl,pV,h5⟩;exact⟨0,rfl,rfl,pV,U h5⟩))).mono ?_;rintro e w5 ⟨z,rfl,rfl,pV,H5⟩))
     all_goals
      go_wp2_with fail
      go_meet
      case rel=>exact⟨rfl,pV,U (((H0.o.below xL.o).ko H5.o).bz (ii.o.trans (xL.o.mono ii.o.size)))⟩
    case rest=>
     obtain⟨rfl,pV,ir⟩:=hcut;obtain⟨g1,ku⟩:∃ g1,({ g with sg:=pV }:WG)=g1:=⟨_,rfl⟩
     rw[ku] at ir
     have q1:g1.b=g.b∧g1.ae=g.ae∧g1.iP=g.iP∧g1.dO t=g.dO t∧g1.Zn t=g.Zn t∧g1.Fm t=g.Fm t∧g1.R=g.R:=by
      rw[← ku];refine⟨rfl,rfl,rfl,?_,?_,?_,rfl⟩<;>(match t with | 0=>rfl | 1=>rfl | _+2=>rfl)
     have zq:=U q1
     have dd:wc.cell? ⟨g.b,13+t,none⟩=some (.bool false):=by
      have:=ir.o.bL.Fo rW;rw[q1.1,q1.2.2.2.2.2.1,Nv] at this;exact this
     obtain⟨va,vc,pu,ry⟩:=ir.o.bL.lO rW;rw[q1.1] at ry;obtain⟨nv,mB⟩:∃ nv,(g1.dO t).length=nv:=⟨_,rfl⟩
     have HNV:=U mB;have HNL:=U (show nv≤100000 by rw[← mB,q1.2.2.2.1];exact BM);rw[mB] at ry;have qA:=U pu;clear q1 ku pu mB;have FY:Below wc.heap.size wc (wc.alloc (.cells #[.string (kE t nb)] 9)).drew:=((Below.refl _ _).alloc (Nat.le_refl _) _).drew;have hlc:lo≤wc.heap.size:=Nat.le_trans di ir.o.grow.c.size;obtain⟨a',c',w7,Vp,PE,hf7,LC⟩:=(ir.o.bL.below FY).anB HA1.o (Nat.le_trans hlc FY.size) (by rw[zq.o.2.2.2.1];omega) (nb:=wc.heap.size) (T:=9) (x:=kE t nb) (heap_alloc_new wc _) qA.o
     have v10:(wc.alloc (.cells #[.string (kE t nb)] 9)).drew.cell? ⟨g.b,10+t,none⟩=some (.slice va nv vc):=by
      obtain⟨Zr,vc',e1,e2⟩:=(ir.o.bL.below FY).lO rW;have e3:=e1.symm.trans qA.o;rw[e3,HNV.o,zq.o.1] at e2;exact e2
     rw[HNV.o] at Vp PE LC;rw[zq.o.1] at PE hf7 LC;have HR7:=U Vp;have DK:=U ((ir.o.below FY).trans LC);clear FY Vp LC hlc
     go_upto_region 12 with fail
     go_cut [9] (fun s9 wx=>s9=.int .i64 0∧Hid (kz lo w g (g1.st.LW t (kE t nb)) wx (g1.LW t (.slice a' (nv+1) c') (kE t nb))))
     case first=>
      go_region_law (refine lu rfl (.tmp 102) (.tmp 104) 31 rfl _ _ rfl rfl _ w7 HR7.o ?_)
      all_goals
       go_wp2_with fail
       go_meet
       case rel=>exact⟨rfl,DK⟩
     case rest=>
      obtain⟨rfl,FX⟩:=hcut;clear PE hf7 v10 ry dd;obtain⟨g2,nG⟩:∃ g2,g1.LW t (.slice a' (nv+1) c') (kE t nb)=g2:=⟨_,rfl⟩
      rw[nG] at FX
      have q2:g2.b=g.b∧g2.ae=g.ae∧g2.iP=g.iP∧(g2.dO t).length=nv+1∧g2.R=g.R:=by
       rw[← nG,← zq.o.1,← zq.o.2.1,← zq.o.2.2.1,← zq.o.2.2.2.2.2.2,← HNV.o]
       match t with
       | 0=>exact⟨rfl,rfl,rfl,by show (g1.v0++[_]).length=g1.v0.length+1;simp,rfl⟩
       | 1=>exact⟨rfl,rfl,rfl,by show (g1.v1++[_]).length=g1.v1.length+1;simp,rfl⟩
       | _+2=>exact⟨rfl,rfl,rfl,by show (g1.v2++[_]).length=g1.v2.length+1;simp,rfl⟩
      have Ew:=U q2;clear q2 nG;have XR:=U (show eO t (nv+1) g.R 0 g.ae=g2.ae by unfold eO;rw[Ew.o.2.1];simp);have R5:=U (show kz lo w g { g2.st with ae:=eO t (nv+1) g.R 0 g.ae } wc { g2 with ae:=eO t (nv+1) g.R 0 g.ae } by rw[XR.o];exact FX.o.same)
      have tq:=U (show ({ g2.st with ae:=g.ae.map (gp.jc t (nv+1) g.R) }:WP)=g.st.pub t (kE t nb) d by
       rw[FX.o.st,ir.o.st];unfold WP.pub;have e:(g.st.cy t).length+1=nv+1:=by rw[WG.rp,← zq.o.2.2.2.1,HNV.o]
       rw[e]
       rfl)
      clear XR HNV
      go_wp2_with fail
      go_loopg [10] g.ae.length (fun gk i wr=>∃ k:Nat,k+gk=g.ae.length∧i=.int .i64 k∧Hid (kz lo w g { g2.st with ae:=eO t (nv+1) g.R k g.ae } wr { g2 with ae:=eO t (nv+1) g.R k g.ae }))
      case atStart=>exact⟨0,by omega,rfl,R5⟩
      case round=>
       obtain⟨k,hk,rfl,HC⟩:=hrel;obtain⟨gc,WW⟩:∃ gc,({ g2 with ae:=eO t (nv+1) g.R k g.ae }:WG)=gc:=⟨_,rfl⟩
       rw[WW] at HC
       have q3:gc.b=g.b∧gc.ae=eO t (nv+1) g.R k g.ae∧gc.iP=g.iP∧(gc.dO t).length=nv+1∧gc.R=g.R∧gc.ae.length=g.ae.length:=by
        rw[← WW];refine⟨Ew.o.1,rfl,Ew.o.2.2.1,?_,Ew.o.2.2.2.2,Bh _ _ _ _ _⟩;rw[← Ew.o.2.2.2.1]
        match t with | 0=>rfl | 1=>rfl | _+2=>rfl
       have d16:wr.cell? (aj g.b 16)=some (.slice sa g.ae.length sc):=by
        have:=HC.o.bL.ap.cell 16;rw[q3.1] at this;exact this.trans (by show some gc.iP=_;rw[q3.2.2.1,tj.o])
       by_cases bC:k<g.ae.length
       ·obtain⟨x,hx⟩:∃ x,g.ae[k]? = some x:=⟨_,List.getElem?_eq_getElem bC⟩
        have JT:gc.ae[k]? = some x:=by rw[q3.2.1];exact DP hx
        obtain⟨ga,c,hv,aK⟩:=HC.o.bL.iO JT;rw[q3.2.2.1,q3.2.2.2.2.2] at hv;obtain⟨rfl,rfl⟩:sa=some (aj ga 0)∧sc=c:=by simpa using tj.o.symm.trans hv
        have c0:wr.cell? ⟨ga,k*5,none⟩=some (vI x.aG):=aK 0 _ rfl;have c1:wr.cell? ⟨ga,k*5+1,none⟩=some (vI x.start):=aK 1 _ rfl;have ej:(k:Int)<(g.ae.length:Int):=by omega
        have RI:=Vn.o x (List.mem_of_getElem? hx);have Uh:=U (NC HC.o.bL rW (x.start+1) (by rw[q3.2.2.2.1];have:=HNL.o;omega) (by rw[q3.2.2.2.2.1];exact hR) (by omega));have HKV:=U (show gc.st.eh t (x.start+1)=decide (nv+1<x.start+1+g.R) by unfold WP.eh;rw[WG.rp,q3.2.2.2.1];show decide (_<_+gc.R)=_;rw[q3.2.2.2.2.1]);rw[HKV.o,q3.1,show ((x.start+1:Nat):Int)=(x.start:Int)+1 by omega] at Uh;have CL:=U q3;have Hx:=U hx;have Hx2:=U JT;have HGC:=U WW;clear hv aK q3 hx JT WW
        go_wp2_with fail
        refine Uh.o.mono ?_;rintro e wk ⟨rfl,vj⟩;have HCk:=U (HC.o.below vj)
        have avD:wk.cell? (aj g.b 16)=some (.slice (some (aj ga 0)) g.ae.length sc):=by
         have:=HCk.o.bL.ap.cell 16;rw[CL.o.1] at this;exact this.trans (by show some gc.iP=_;rw[CL.o.2.2.1,tj.o])
        have sB:gc.iP=.slice (some (aj ga 0)) gc.ae.length sc:=by rw[CL.o.2.2.1,CL.o.2.2.2.2.2,tj.o]
        obtain⟨XG,c',hv3,LY⟩:=HCk.o.bL.iO Hx2.o;obtain⟨rfl,rfl⟩:ga=XG∧sc=c':=by simpa using sB.symm.trans hv3
        have k0:wk.cell? ⟨ga,k*5,none⟩=some (vI x.aG):=LY 0 _ rfl;have k4:wk.cell? ⟨ga,k*5+4,none⟩=some (.bool x.ni):=LY 4 _ rfl
        have f4:wk.frozen? ⟨ga,k*5+4,none⟩=false:=by
         have:=HCk.o.bL.tB;rw[sB] at this;exact gJ this _
        have Zt:=U sB;clear sB hv3 LY vj
        by_cases yA:x.aG=t∧¬ nv+1<x.start+1+g.R
        ·have b1:((x.aG:Int)==(t:Int))=true:=by simp[yA.1]
         have b2:decide (nv+1<x.start+1+g.R)=false:=decide_eq_false yA.2;have MV:=HCk.o.trans (HCk.o.bL.Qa (k:=k) (j:=4) (x:=x) (x':={ x with ni:=true }) (v:=.bool true) Hx2.o (by decide) rfl Zt.o)
         have HN:=U (show ({ gc with ae:=gc.ae.set k { x with ni:=true } }:WG) = { g2 with ae:=eO t (nv+1) g.R (k+1) g.ae } by
          have e:x.jc t (nv+1) g.R = { x with ni:=true }:=by unfold gp.jc;rw[if_pos yA]
          rw[Bi Hx.o,e,CL.o.2.1,← HGC.o])
         rw[HN.o] at MV;have HT4:=U MV.same;clear MV yA;rw[b2]
         go_wp2_with fail
         go_roundg (gk-1)
         case rel=>exact⟨k+1,by omega,by go_num,HT4⟩
         case measure=>omega
        ·have HN:=U (show eO t (nv+1) g.R (k+1) g.ae=eO t (nv+1) g.R k g.ae from I7 Hx.o (by unfold gp.jc;rw[if_neg yA]))
         have ahI:(((x.aG:Int)==(t:Int))=false)∨(((x.aG:Int)==(t:Int))=true∧decide (nv+1<x.start+1+g.R)=true):=by
          by_cases e:x.aG=t
          ·exact Or.inr ⟨by simp[e],decide_eq_true (by
            by_cases e2:nv+1<x.start+1+g.R
            ·exact e2
            ·exact absurd ⟨e,e2⟩ yA)⟩
          ·exact Or.inl (by simp;omega)
         clear yA
         rcases ahI with b1 | ⟨b1,b2⟩
         ·go_wp2_with fail
          go_roundg (gk-1)
          case rel=>exact⟨k+1,by omega,by go_num,by rw[HN.o,HGC.o];exact HCk⟩
          case measure=>omega
         ·rw[b2]
          go_wp2_with fail
          go_roundg (gk-1)
          case rel=>exact⟨k+1,by omega,by go_num,by rw[HN.o,HGC.o];exact HCk⟩
          case measure=>omega
       ·have ej:¬ (k:Int)<(g.ae.length:Int):=by omega
        have HL:=U (show gc.st=g.st.pub t (kE t nb) d by rw[← tq.o,← LX (k:=k) (by omega),← WW];rfl);clear q3 WW
        go_wp2_with fail
        go_ret
        exact⟨rfl,gc,by rw[← HL.o];exact HC.o.same⟩
end Go.Proofs.YtkpfplbmmglkkaaGreatDoor
