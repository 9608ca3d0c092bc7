/- Package courier: Poll, Answer, Next of what was made, whatever they give. -/
import Derived.Test.YtkpfplbmmglkkaaGreatDoorV31
set_option linter.all false
set_option maxHeartbeats 4000000
set_option maxRecDepth 100000
namespace Go.Proofs.YtkpfplbmmglkkaaGreatDoor
open Go.Proofs.Tryz
variable {lo b:Nat}{w w5 w6 w' w1 w2:World}{g:CG}{p:CP}{wF:Value}
open Go.RowKit Go.Conc
theorem fW.PX{g':CG}(h:fW lo w g p w5 g')(hc:aQ (fun k=>k=b) w5 w6)(hb:w.heap.size≤b)(hn:¬ aL g'.aF b):fW lo w g p w6 g' :=
 ⟨⟨h.dM.dR.nO hc (fun k hk e=>hn (e ▸ hk)),h.dM.ra,h.dM.rs,h.dM.rc,h.dM.rv⟩,h.st,⟨h.grow.c.trans hc (fun i hi e=>by have e:i=b:=e;omega),h.grow.k⟩,h.b,h.iv,h.qU⟩
theorem IK{T:TypeId}{x0 x1 x2:Value}(h:aZ w b T [x0,x1,x2])(v0 v1 v2:Value):aZ (((w.setCell (aj b 0) v0).setCell (aj b 1) v1).setCell (aj b 2) v2) b T [v0,v1,v2]:=((h.set 0 v0).set 1 v1).set 2 v2
theorem IL(w:World)(b:Nat)(v0 v1 v2:Value):aQ (fun k=>k=b) w (((w.setCell (aj b 0) v0).setCell (aj b 1) v1).setCell (aj b 2) v2):=(((aQ.refl (fun k=>k=b) w).setCell (aj b 0) _ (fun _=>rfl)).setCell (aj b 1) _ (fun _=>rfl)).setCell (aj b 2) _ (fun _=>rfl)
theorem abY(h:eH lo w g)(s:Nat)(hs:w.cell? (aj s 0)=some (aM g.b))(vQ:s<w.heap.size)(num:Int)(k0:Int)(v1 v2:ByteArray)(z:Int){q:CP}(hg:∀ w0,Below w.heap.size w w0→aT 89 #[aM g.b,vI num] w0 (fun e w'=>e=.returned (.tuple #[.agg #[vI k0,.string v1,.string v2],vI z])∧∃ g',fW lo w0 g q w' g')):
  aT 61 #[aM s,vI num] w (fun e w'=>e=.returned (.tuple #[.agg #[vI k0,.string v1,.string v2],vI z])∧∃ g',fW lo w g q w' g'):=by
 have cj:Below w.heap.size w (w.alloc (.cells #[vI 0,.string ⟨#[]⟩,.string ⟨#[]⟩] 134)):=(Below.refl _ _).alloc (Nat.le_refl _) _;have rh:aZ (w.alloc (.cells #[vI 0,.string ⟨#[]⟩,.string ⟨#[]⟩] 134)) w.heap.size 134 [vI 0,.string ⟨#[]⟩,.string ⟨#[]⟩]:=heap_alloc_new w _;have JF:=(cj.cell (p:=(aj s 0)) vQ).trans hs;obtain⟨w0,nF⟩:∃ w0,w.alloc (.cells #[vI 0,.string ⟨#[]⟩,.string ⟨#[]⟩] 134)=w0:=⟨_,rfl⟩
 rw[nF] at cj rh JF;have HS:=U JF;have HG:=U (hg w0 cj);have ii:=U rh;have gZ:=U cj;have yz:=U (show ¬ aL g.aF w.heap.size from h.kf);clear h hs JF hg rh cj
 go_enter func61,ntmps61
 go_wp2_with fail
 refine(Ha _ s g.b HS.o).mono ?_;rintro e w1 ⟨rfl,rfl⟩
 go_wp2_with fail
 refine HG.o.mono ?_;rintro e w2 ⟨rfl,g2,h2⟩;obtain⟨cz,QV⟩:=h2.ap ii.o yz.o;have e0:=cz.ce 0 rfl;have e1:=cz.ce 1 rfl;have e2:=cz.ce 2 rfl;have f0:=cz.aq 0;have f1:=cz.aq 1;have f2:=cz.aq 2;have HL:=U (jb _ _ _ _ _ (IK cz (vI k0) (.string v1) (.string v2)));have HT:=U ((h2.bz gZ.o).PX (IL w2 w.heap.size (vI k0) (.string v1) (.string v2)) (Nat.le_refl _) QV);clear cz QV h2
 go_wp2_with fail
 (try simp only[Exit.inBlock,Exit.then])
 refine⟨rfl,.tuple #[.agg #[vI k0,.string v1,.string v2],vI z],?_,rfl,g2,HT.o⟩;rw[results_cell_tmp rfl];have:=HL.o;simp[asAddr,this]
theorem abZ{g:SG}(h:cB lo w g)(s:Nat)(hs:w.cell? (aj s 0)=some (aM g.b))(vQ:s<w.heap.size)(k0:Int)(v1 v2:ByteArray)(b3:Bool){q:SP}(hg:∀ w0,Below w.heap.size w w0→aT 90 #[aM g.b] w0 (fun e w'=>e=.returned (.tuple #[.agg #[vI k0,.string v1,.string v2],.bool b3])∧∃ g',dw lo w0 g q w' g')):
  aT 63 #[aM s] w (fun e w'=>e=.returned (.tuple #[.agg #[vI k0,.string v1,.string v2],.bool b3])∧∃ g',dw lo w g q w' g'):=by
 have cj:Below w.heap.size w (w.alloc (.cells #[vI 0,.string ⟨#[]⟩,.string ⟨#[]⟩] 139)):=(Below.refl _ _).alloc (Nat.le_refl _) _;have rh:aZ (w.alloc (.cells #[vI 0,.string ⟨#[]⟩,.string ⟨#[]⟩] 139)) w.heap.size 139 [vI 0,.string ⟨#[]⟩,.string ⟨#[]⟩]:=heap_alloc_new w _;have JF:=(cj.cell (p:=(aj s 0)) vQ).trans hs;obtain⟨w0,nF⟩:∃ w0,w.alloc (.cells #[vI 0,.string ⟨#[]⟩,.string ⟨#[]⟩] 139)=w0:=⟨_,rfl⟩
 rw[nF] at cj rh JF;have HS:=U JF;have HG:=U (hg w0 cj);have ii:=U rh;have gZ:=U cj;have yz:=U (show ¬ aL g.aF w.heap.size from h.kf);clear h hs JF hg rh cj
 go_enter func63,ntmps63
 go_wp2_with fail
 refine(Hd _ s g.b HS.o).mono ?_;rintro e w1 ⟨rfl,rfl⟩
 go_wp2_with fail
 refine HG.o.mono ?_;rintro e w2 ⟨rfl,g2,h2⟩;obtain⟨cz,QV⟩:=h2.ap ii.o yz.o;have e0:=cz.ce 0 rfl;have e1:=cz.ce 1 rfl;have e2:=cz.ce 2 rfl;have f0:=cz.aq 0;have f1:=cz.aq 1;have f2:=cz.aq 2;have HL:=U (rZ _ _ _ _ _ (IK cz (vI k0) (.string v1) (.string v2)));have HT:=U ((h2.bz gZ.o).PX (IL w2 w.heap.size (vI k0) (.string v1) (.string v2)) (Nat.le_refl _) QV);clear cz QV h2
 go_wp2_with fail
 (try simp only[Exit.inBlock,Exit.then])
 refine⟨rfl,.tuple #[.agg #[vI k0,.string v1,.string v2],.bool b3],?_,rfl,g2,HT.o⟩;rw[results_cell_tmp rfl];have:=HL.o;simp[asAddr,this]
structure Ny where
 fv:Value
 n:Nat
 p:aS
abbrev agZ(m:Ny):List Value:=[.int .i64 m.n,m.fv]
def Xk(l:List Ny):List Value:=l.flatMap agZ
def Ny.bytes(m:Ny):List UInt8:=cd eQ (bO m.p)
def Ny.aF(m:Ny):List fm:=cx 5 1 m.fv m.bytes.length (m.bytes.map bJ)
def Ny.k(m:Ny):PkP:=⟨m.n,m.p⟩
abbrev IM(x:QD):List Value:=[.string x.name,.string x.value,.string x.answer,.int .i64 x.id,.int .i64 x.ended]
def PY(l:List QD):List Value:=l.flatMap IM
abbrev kZ(x:gp):List Value:=[.int .i64 x.aG,.int .i64 x.start,.int .i64 x.aE,.int .i64 x.ended,.bool x.ni]
def qL(l:List gp):List Value:=l.flatMap kZ
structure WG where
 b:Nat
 sb:Nat
 cb:Nat
 sg:SG
 cg:CG
 W:Nat
 D:Nat
 R:Nat
 bA:Nat
 lG:Nat
 lS:Nat
 tsv:Value
 U1:List Ny
 tcv:Value
 U2:List Ny
 T5:Value
 v0:List ByteArray
 wG:Value
 v1:List ByteArray
 T6:Value
 v2:List ByteArray
 d0:Bool
 d1:Bool
 d2:Bool
 iP:Value
 ae:List gp
 Vo:Value
 aU:List QD
 ZI:Nat
 bh:Nat
 bj:Nat
 dN:Bool
 vu:Bool
namespace WG
def st(g:WG):WP:=⟨g.sg.st,g.cg.st,g.W,g.D,g.R,g.bA,g.lG,g.lS,g.U1.map Ny.k,g.U2.map Ny.k,g.v0,g.v1,g.v2,g.d0,g.d1,g.d2,g.ae,g.aU,g.ZI,g.bh,g.bj,g.dN,g.vu⟩
abbrev cells(g:WG):List Value:=[aJ g.sb,aJ g.cb,.int .i64 g.W,.int .i64 g.D,.int .i64 g.R,.int .i64 g.bA,.int .i64 g.lG,.int .i64 g.lS,g.tsv,g.tcv,g.T5,g.wG,g.T6,.bool g.d0,.bool g.d1,.bool g.d2,g.iP,g.Vo,.int .i64 g.ZI,.int .i64 g.bh,.int .i64 g.bj,.bool g.dN,.bool g.vu]
def k9(g:WG):List fm:=[eL g.b 38 g.cells]
def cT(g:WG):List fm:=[eL g.sb 67 [aJ g.sg.b]]
def bB(g:WG):List fm:=[eL g.cb 72 [aJ g.cg.b]]
def IN(g:WG):List fm:=cx 132 2 g.tsv g.U1.length (Xk g.U1)++g.U1.flatMap Ny.aF
def IP(g:WG):List fm:=cx 132 2 g.tcv g.U2.length (Xk g.U2)++g.U2.flatMap Ny.aF
def Lz(g:WG):List fm:=cx 9 1 g.T5 g.v0.length (ck g.v0)++(cx 9 1 g.wG g.v1.length (ck g.v1)++cx 9 1 g.T6 g.v2.length (ck g.v2))
def jy(g:WG):List fm:=cx 44 5 g.iP g.ae.length (qL g.ae)
def jq(g:WG):List fm:=cx 79 5 g.Vo g.aU.length (PY g.aU)
def rest(g:WG):List fm:=g.IN++(g.IP++(g.Lz++(g.jy++g.jq)))
def aF(g:WG):List fm:=g.k9++(g.cT++(g.bB++(g.sg.aF++(g.cg.aF++g.rest))))
end WG
structure gO(lo:Nat)(w:World)(g:WG):Prop where
 dR:cE lo w g.aF
 cN:cB lo w g.sg
 dM:eH lo w g.cg
 rs:du 2 g.tsv g.U1.length (Xk g.U1)
 rc:du 2 g.tcv g.U2.length (Xk g.U2)
 fs:∀ m∈g.U1,du 1 m.fv m.bytes.length (m.bytes.map bJ)
 fc:∀ m∈g.U2,du 1 m.fv m.bytes.length (m.bytes.map bJ)
 r0:du 1 g.T5 g.v0.length (ck g.v0)
 r1:du 1 g.wG g.v1.length (ck g.v1)
 r2:du 1 g.T6 g.v2.length (ck g.v2)
 rt:du 5 g.iP g.ae.length (qL g.ae)
 ra:du 5 g.Vo g.aU.length (PY g.aU)
 rV:g.sg.W=g.W∧g.sg.D=g.D∧g.sg.R=g.R
 wH:g.cg.W=g.W∧g.cg.D=g.D∧g.cg.R=g.R
theorem gO.ap{g:WG}(h:gO lo w g):aZ w g.b 38 g.cells:=h.dR.ap (List.mem_append_left _ (List.mem_singleton.2 rfl))
theorem gO.cT{g:WG}(h:gO lo w g):aZ w g.sb 67 [aJ g.sg.b]:=h.dR.ap (by unfold WG.aF WG.cT;simp)
theorem gO.bB{g:WG}(h:gO lo w g):aZ w g.cb 72 [aJ g.cg.b]:=h.dR.ap (by unfold WG.aF WG.bB;simp)
theorem gO.MB{g:WG}(h:gO lo w g):lo≤g.b:=(h.dR.lt ⟨_,List.mem_append_left _ (List.mem_singleton.2 rfl),rfl⟩).1
theorem gO.below{g:WG}(h:gO lo w g)(hb:Below w.heap.size w w'):gO lo w' g:=⟨h.dR.below hb,h.cN.below hb,h.dM.below hb,h.rs,h.rc,h.fs,h.fc,h.r0,h.r1,h.r2,h.rt,h.ra,h.rV,h.wH⟩
theorem gO.drew{g:WG}(h:gO lo w g):gO lo w.drew g:=h.below (Below.refl _ _).drew
theorem gO.kf{g:WG}(h:gO lo w g):¬ aL g.aF w.heap.size:=fun hk=>by have:=(h.dR.lt hk).2;omega
structure kz(lo:Nat)(w:World)(g:WG)(p:WP)(w':World)(g':WG):Prop where
 bL:gO lo w' g'
 st:g'.st=p
 grow:cM w g.aF w' g'.aF
 b:g'.b=g.b
 iv:g'.cg.iv=g.cg.iv∧g'.sg.iv=g.sg.iv
theorem kz.refl{g:WG}(h:gO lo w g)(hb:Below w.heap.size w w'):kz lo w g g.st w' g:=⟨h.below hb,rfl,cM.aI hb,rfl,rfl,rfl⟩
theorem kz.trans{g g1 g2:WG}{p1 p2:WP}(h:kz lo w g p1 w1 g1)(k:kz lo w1 g1 p2 w2 g2):kz lo w g p2 w2 g2:=⟨k.bL,k.st,h.grow.trans k.grow,k.b.trans h.b,k.iv.1.trans h.iv.1,k.iv.2.trans h.iv.2⟩
theorem kz.below{g g1:WG}{p1:WP}(h:kz lo w g p1 w1 g1)(hb:Below w1.heap.size w1 w2):kz lo w g p1 w2 g1:=⟨h.bL.below hb,h.st,h.grow.below hb,h.b,h.iv⟩
theorem kz.bz{w0:World}{g g1:WG}{p1:WP}(h:kz lo w0 g p1 w1 g1)(hb:Below w.heap.size w w0):kz lo w g p1 w1 g1:=⟨h.bL,h.st,(cM.aI hb).trans h.grow,h.b,h.iv⟩
theorem kz.same{g g':WG}{p:WP}(h:kz lo w g p w' g'):kz lo w g g'.st w' g':=⟨h.bL,rfl,h.grow,h.b,h.iv⟩
theorem kz.ap{g g':WG}{p:WP}(h:kz lo w g p w' g'){b:Nat}{T:TypeId}{xs:List Value}(hB:aZ w b T xs)(hn:¬ aL g.aF b):aZ w' b T xs∧¬ aL g'.aF b :=
 ⟨hB.dW h.grow.c hn,fun hk=>by
  rcases h.grow.k b hk with e | e
  ·exact hn e
  ·have:=hB.lt
   omega⟩
theorem gO.AU{g:WG}{tP:CG}(h:gO lo w g)(hc:fW lo w g.cg p w' tP):kz lo w g { g.st with c:=p } w' { g with cg:=tP }:=by
 have p1:g.aF.Perm (g.cg.aF++(g.sg.aF++(g.k9++(g.cT++(g.bB++g.rest))))):=bF (fun p=>by unfold WG.aF;simp only[aP];omega);have e:({ g with cg:=tP }:WG).bB=g.bB:=by unfold WG.bB;rw[show ({ g with cg:=tP }:WG).cg.b=g.cg.b from hc.b]
 have p2:(tP.aF++(g.sg.aF++(g.k9++(g.cT++(g.bB++g.rest))))).Perm ({ g with cg:=tP }:WG).aF:=bF (fun p=>by
  unfold WG.aF;rw[e];show _=cnt p (g.k9++(g.cT++(g.bB++(g.sg.aF++(tP.aF++g.rest)))))
  simp only[aP];omega)
 have hh:=(h.dR.bZ p1).dE hc.dM.dR hc.grow;have hS:cB lo w' g.sg:=⟨(ay.1 (ay.1 hh).2.1).1,h.cN.rt,h.cN.tp,h.cN.ss,h.cN.rw⟩
 exact⟨⟨hh.bZ p2,hS,hc.dM,h.rs,h.rc,h.fs,h.fc,h.r0,h.r1,h.r2,h.rt,h.ra,h.rV,⟨hc.qU.1.trans h.wH.1,hc.qU.2.1.trans h.wH.2.1,hc.qU.2.2.trans h.wH.2.2⟩⟩,by unfold WG.st;rw[← hc.st],hc.grow.dE.bZ p1.symm p2,rfl,hc.iv,rfl⟩
theorem gO.ko{g:WG}{pV:SG}{p:SP}(h:gO lo w g)(hc:dw lo w g.sg p w' pV):kz lo w g { g.st with s:=p } w' { g with sg:=pV }:=by
 have p1:g.aF.Perm (g.sg.aF++(g.cg.aF++(g.k9++(g.cT++(g.bB++g.rest))))):=bF (fun p=>by unfold WG.aF;simp only[aP];omega);have e:({ g with sg:=pV }:WG).cT=g.cT:=by unfold WG.cT;rw[show ({ g with sg:=pV }:WG).sg.b=g.sg.b from hc.b]
 have p2:(pV.aF++(g.cg.aF++(g.k9++(g.cT++(g.bB++g.rest))))).Perm ({ g with sg:=pV }:WG).aF:=bF (fun p=>by
  unfold WG.aF;rw[e];show _=cnt p (g.k9++(g.cT++(g.bB++(pV.aF++(g.cg.aF++g.rest)))))
  simp only[aP];omega)
 have hh:=(h.dR.bZ p1).dE hc.cN.dR hc.grow;have hC:eH lo w' g.cg:=⟨(ay.1 (ay.1 hh).2.1).1,h.dM.ra,h.dM.rs,h.dM.rc,h.dM.rv⟩
 exact⟨⟨hh.bZ p2,hc.cN,hC,h.rs,h.rc,h.fs,h.fc,h.r0,h.r1,h.r2,h.rt,h.ra,⟨hc.qU.1.trans h.rV.1,hc.qU.2.1.trans h.rV.2.1,hc.qU.2.2.trans h.rV.2.2⟩,h.wH⟩,by unfold WG.st;rw[← hc.st],hc.grow.dE.bZ p1.symm p2,rfl,rfl,hc.iv⟩
theorem gO.ke{g g':WG}(h:gO lo w g)(hc:aQ (fun k=>k=g.b) w w')(hB:aZ w' g.b 38 g'.cells)(hb:g'.b=g.b)(hsb:g'.sb=g.sb∧g'.cb=g.cb)(fy:g'.sg=g.sg)(Om:g'.cg=g.cg)(Zk:g'.W=g.W∧g'.D=g.D∧g'.R=g.R)(hr:g'.tsv=g.tsv∧g'.U1=g.U1∧g'.tcv=g.tcv∧g'.U2=g.U2)(hv:g'.T5=g.T5∧g'.v0=g.v0∧g'.wG=g.wG∧g'.v1=g.v1∧g'.T6=g.T6∧g'.v2=g.v2)(ht:g'.iP=g.iP∧g'.ae=g.ae∧g'.Vo=g.Vo∧g'.aU=g.aU):kz lo w g g'.st w' g':=by
 have hh:cE lo w' g'.k9:=by unfold WG.k9;rw[hb];exact ct h.MB hB (by decide)
 have hg:cM w g.k9 w' g'.k9:=⟨hc.mono (fun i _ hi=>by subst hi;exact aL.one.2 rfl),fun k hk=>Or.inl (by
  have:=aL.one.1 hk;rw[this]
  exact aL.one.2 hb)⟩
 have e:g'.aF=g'.k9++(g.cT++(g.bB++(g.sg.aF++(g.cg.aF++g.rest)))):=by
  obtain⟨s1,s2⟩:=hsb;obtain⟨r1,r2,r3,r4⟩:=hr;obtain⟨v1,v2,v3,v4,v5,v6⟩:=hv;obtain⟨t1,t2,t3,t4⟩:=ht;unfold WG.aF WG.rest WG.IN WG.IP WG.Lz WG.jy WG.jq WG.cT WG.bB;rw[s1,s2,fy,Om,r1,r2,r3,r4,v1,v2,v3,v4,v5,v6,t1,t2,t3,t4]
 have hX:=h.dR.dE hh hg;have hS:cB lo w' g.sg:=⟨(ay.1 (ay.1 (ay.1 (ay.1 hX).2.1).2.1).2.1).1,h.cN.rt,h.cN.tp,h.cN.ss,h.cN.rw⟩
 have hC:eH lo w' g.cg:=⟨(ay.1 (ay.1 (ay.1 (ay.1 (ay.1 hX).2.1).2.1).2.1).2.1).1,h.dM.ra,h.dM.rs,h.dM.rc,h.dM.rv⟩
 obtain⟨r1,r2,r3,r4⟩:=hr;obtain⟨v1,v2,v3,v4,v5,v6⟩:=hv;obtain⟨t1,t2,t3,t4⟩:=ht;refine⟨⟨by rw[e];exact hX,by rw[fy];exact hS,by rw[Om];exact hC,by rw[r1,r2];exact h.rs,by rw[r3,r4];exact h.rc,by rw[r2];exact h.fs,by rw[r4];exact h.fc,by rw[v1,v2];exact h.r0,by rw[v3,v4];exact h.r1,by rw[v5,v6];exact h.r2,by rw[t1,t2];exact h.rt,by rw[t3,t4];exact h.ra,by rw[fy,Zk.1,Zk.2.1,Zk.2.2];exact h.rV,by rw[Om,Zk.1,Zk.2.1,Zk.2.2];exact h.wH⟩,rfl,by rw[e];exact hg.dE,hb,by rw[Om],by rw[fy]⟩
theorem Xl{g:WG}(h:gO lo w g)(hSm:yy g.cg.st)(jD:g.bh≤1000000000000)(hD:g.bh+1<g.D)(hd:g.cg.silence+1<g.D):
  aT 35 #[aM g.b,vI 0] w (fun e w'=>e=.returned (.tuple #[])∧∃ g',kz lo w g g.st.lj w' g'):=by
 have d19:=h.ap.ce 19 rfl;have f19:=h.ap.aq 19;have dD:aZ (w.drew.setCell (aj g.b 19) (vI ((g.bh:Int)+1))) g.b 38 ({ g with bh:=g.bh+1 }:WG).cells:=h.drew.ap.set 19 _;have jk:aQ (fun k=>k=g.b) w.drew (w.drew.setCell (aj g.b 19) (vI ((g.bh:Int)+1))):=(aQ.refl _ _).setCell _ _ (fun _=>rfl);have mA:=(kz.refl h (Below.refl _ w).drew).trans (h.drew.ke (g':={ g with bh:=g.bh+1 }) jk dD rfl ⟨rfl,rfl⟩ rfl rfl ⟨rfl,rfl,rfl⟩ ⟨rfl,rfl,rfl,rfl⟩ ⟨rfl,rfl,rfl,rfl,rfl,rfl⟩ ⟨rfl,rfl,rfl,rfl⟩);obtain⟨w1,ee⟩:∃ w1,w.drew.setCell (aj g.b 19) (vI ((g.bh:Int)+1))=w1:=⟨_,rfl⟩
 rw[ee] at dD mA;have k19:=dD.ce 19 rfl;have k3:=dD.ce 3 rfl;have b1:decide ((g.D:Int)≤(g.bh:Int)+1)=false:=by simp;omega
 have b2:decide (g.D≤g.bh+1)=false:=by simp;omega
 have HE:=U (show g.st.lj = { ({ g with bh:=g.bh+1 }:WG).st with c:=g.cg.st.hJ g.D } by
  show ({ g.st with bh:=g.bh+1,dN:=g.dN||decide (g.D≤g.bh+1),c:=g.cg.st.hJ g.D }:WP)=_;rw[b2];simp only[Bool.or_false]
  rfl)
 have ir:=U mA;have H1:=U mA.bL;clear h dD jk mA
 go_enter func35,ntmps35
 go_wp2_with fail
 go_region
 all_goals
  go_wp2_with fail
  go_region
  all_goals
  have vk:=ir.o.below (Below.refl _ w1).drew;obtain⟨w2,dX⟩:∃ w2,w1.drew=w2:=⟨_,rfl⟩
  rw[dX] at vk ⊢;have H2:=U vk.bL;have jo:=U vk;have p1:=H2.o.ap.ce 1 rfl;have HP:=U (show w2.cell? (aj g.cb 0)=some (aM g.cg.b) from H2.o.bB.cell 0)
  have HC:=U (show aT 83 #[aM g.cg.b] w2 (fun e w'=>e=.returned (.tuple #[])∧∃ g',fW lo w2 g.cg (g.cg.st.hJ g.D) w' g') by
   have e:g.cg.D=g.D:=H2.o.wH.2.1;have:=Sy H2.o.dM hSm (show ¬ g.cg.D≤g.cg.silence+1 by rw[e];omega);rw[e] at this
   exact this)
  clear vk
  go_wp2_with fail
  refine((py w2 g.cb g.cg.b HP.o).Sy _ HC.o).mono ?_;rintro e w3 ⟨rfl,g3,h3⟩;have pU:=U (jo.o.trans (H2.o.AU h3));clear h3
  go_wp2_with fail
  go_end0
  exact⟨rfl,_,by rw[HE.o];exact pU.o⟩
theorem Xm{g:WG}(h:gO lo w g)(hSm:SSm g.sg.st)(hW:g.W≤1000)(jD:g.bj≤1000000000000)(hD:g.bj+1<g.D)(hd:∀ s,g.sg.aY=some s→s.silence+1<g.D):
  aT 35 #[aM g.b,vI 1] w (fun e w'=>e=.returned (.tuple #[])∧∃ g',kz lo w g g.st.lp w' g'):=by
 have d20:=h.ap.ce 20 rfl;have f20:=h.ap.aq 20;have dD:aZ (w.drew.setCell (aj g.b 20) (vI ((g.bj:Int)+1))) g.b 38 ({ g with bj:=g.bj+1 }:WG).cells:=h.drew.ap.set 20 _;have jk:aQ (fun k=>k=g.b) w.drew (w.drew.setCell (aj g.b 20) (vI ((g.bj:Int)+1))):=(aQ.refl _ _).setCell _ _ (fun _=>rfl);have mA:=(kz.refl h (Below.refl _ w).drew).trans (h.drew.ke (g':={ g with bj:=g.bj+1 }) jk dD rfl ⟨rfl,rfl⟩ rfl rfl ⟨rfl,rfl,rfl⟩ ⟨rfl,rfl,rfl,rfl⟩ ⟨rfl,rfl,rfl,rfl,rfl,rfl⟩ ⟨rfl,rfl,rfl,rfl⟩);obtain⟨w1,ee⟩:∃ w1,w.drew.setCell (aj g.b 20) (vI ((g.bj:Int)+1))=w1:=⟨_,rfl⟩
 rw[ee] at dD mA;have k20:=dD.ce 20 rfl;have k3:=dD.ce 3 rfl;have b1:decide ((g.D:Int)≤(g.bj:Int)+1)=false:=by simp;omega
 have b2:decide (g.D≤g.bj+1)=false:=by simp;omega
 have HE:=U (show g.st.lp = { ({ g with bj:=g.bj+1 }:WG).st with s:=g.sg.st.hJ g.W g.D } by
  show ({ g.st with bj:=g.bj+1,dN:=g.dN||decide (g.D≤g.bj+1),s:=g.sg.st.hJ g.W g.D }:WP)=_;rw[b2];simp only[Bool.or_false]
  rfl)
 have ir:=U mA;have H1:=U mA.bL;clear h dD jk mA
 go_enter func35,ntmps35
 go_wp2_with fail
 go_region
 all_goals
  go_wp2_with fail
  go_region
  all_goals
  have vk:=ir.o.below (Below.refl _ w1).drew;obtain⟨w2,dX⟩:∃ w2,w1.drew=w2:=⟨_,rfl⟩
  rw[dX] at vk ⊢;have H2:=U vk.bL;have jo:=U vk;have p0:=H2.o.ap.ce 0 rfl;have HP:=U (show w2.cell? (aj g.sb 0)=some (aM g.sg.b) from H2.o.cT.cell 0)
  have HC:=U (show aT 84 #[aM g.sg.b] w2 (fun e w'=>e=.returned (.tuple #[])∧∃ g',dw lo w2 g.sg (g.sg.st.hJ g.W g.D) w' g') by
   have e:g.sg.D=g.D:=H2.o.rV.2.1;have e1:g.sg.W=g.W:=H2.o.rV.1;have:=SA H2.o.cN hSm (by rw[e1];exact hW) (by rw[e];exact hd);rw[e1,e] at this
   exact this)
  clear vk
  go_wp2_with fail
  refine((py w2 g.sb g.sg.b HP.o).SA _ HC.o).mono ?_;rintro e w3 ⟨rfl,g3,h3⟩;have pU:=U (jo.o.trans (H2.o.ko h3));clear h3
  go_wp2_with fail
  go_end0
  exact⟨rfl,_,by rw[HE.o];exact pU.o⟩
theorem amt{g:WG}(h:gO lo w g)(di:lo≤w.heap.size)(hSm:yy g.cg.st)(hcn:g.bA≤1000000000000)(hC:g.cg.fN=false∨g.cg.bu<((g.bA+1:Nat):Int))(hS:g.sg.fN=false∨g.sg.bu<((g.bA+1:Nat):Int)):
  aT 21 #[aM g.b,vI 0] w (fun e w'=>e=.returned (.bool true)∧∃ g',kz lo w g g.st.ZJ w' g'):=by
 have d5:=h.ap.ce 5 rfl;have f5:=h.ap.aq 5;have dD:aZ (w.setCell (aj g.b 5) (vI ((g.bA:Int)+1))) g.b 38 ({ g with bA:=g.bA+1 }:WG).cells:=h.ap.set 5 _;have jk:aQ (fun k=>k=g.b) w (w.setCell (aj g.b 5) (vI ((g.bA:Int)+1))):=(aQ.refl _ _).setCell _ _ (fun _=>rfl);have mA:=h.ke (g':={ g with bA:=g.bA+1 }) jk dD rfl ⟨rfl,rfl⟩ rfl rfl ⟨rfl,rfl,rfl⟩ ⟨rfl,rfl,rfl,rfl⟩ ⟨rfl,rfl,rfl,rfl,rfl,rfl⟩ ⟨rfl,rfl,rfl,rfl⟩;obtain⟨w1,ee⟩:∃ w1,w.setCell (aj g.b 5) (vI ((g.bA:Int)+1))=w1:=⟨_,rfl⟩
 rw[ee] at dD mA;have k5:=dD.ce 5 rfl;have k1:=dD.ce 1 rfl;have H1:=U mA.bL;have ir:=U mA;have ju:=mA.grow.c.size;have jP:=U (show w1.drew.cell? (aj g.cb 0)=some (aM g.cg.b) from H1.o.bB.cell 0)
 have xq:=U (show aT 54 #[aM g.cg.b,vI ((g.bA:Int)+1)] w1.drew (fun e w'=>∃ z:Int,e=.returned (vI z)∧(z=0∧∃ g',fW lo w1.drew g.cg (g.cg.st.raise ((g.bA+1:Nat):Int)).dI w' g')) by
  refine(aa8 (H1.o.drew.dM) (Nat.le_trans di ju) hSm ((g.bA+1:Nat):Int) hC).mono ?_;rintro e w' ⟨rfl,hh⟩
  exact⟨0,rfl,rfl,hh⟩)
 have Vn:=U hS;clear h dD jk mA hC hS
 go_enter func21,ntmps21
 go_wp2_with fail
 go_region_with (go_at_call 33;refine((py w1.drew g.cb g.cg.b jP.o).cUp ((g.bA:Int)+1) _ xq.o).mono ?_;rintro e w2 ⟨z,rfl,rfl,Q4,h2⟩)
 all_goals
  have vk:=(ir.o.below (Below.refl _ w1).drew).trans (H1.o.drew.AU h2);have m5:=vk.bL.ap.ce 5 rfl;have m6:=vk.bL.ap.ce 6 rfl;have n6:=vk.bL.ap.aq 6;have gz:aZ (w2.setCell (aj g.b 6) (vI ((g.bA:Int)+1))) g.b 38 ({ g with bA:=g.bA+1,cg:=Q4,lG:=g.bA+1 }:WG).cells:=vk.bL.ap.set 6 _;have js:aQ (fun k=>k=g.b) w2 (w2.setCell (aj g.b 6) (vI ((g.bA:Int)+1))):=(aQ.refl _ _).setCell _ _ (fun _=>rfl);have FW:=vk.trans (vk.bL.ke (g':={ g with bA:=g.bA+1,cg:=Q4,lG:=g.bA+1 }) js gz rfl ⟨rfl,rfl⟩ rfl rfl ⟨rfl,rfl,rfl⟩ ⟨rfl,rfl,rfl,rfl⟩ ⟨rfl,rfl,rfl,rfl,rfl,rfl⟩ ⟨rfl,rfl,rfl,rfl⟩);obtain⟨w3,iK⟩:∃ w3,w2.setCell (aj g.b 6) (vI ((g.bA:Int)+1))=w3:=⟨_,rfl⟩
  rw[iK] at gz FW;have q5:=gz.ce 5 rfl;have q0:=gz.ce 0 rfl;have H3:=U FW.bL;have pU:=U FW;have BD:=FW.grow.c.size;have nI:=U (show w3.drew.cell? (aj g.sb 0)=some (aM g.sg.b) from H3.o.cT.cell 0)
  have QZ:=U (show aT 55 #[aM g.sg.b,vI ((g.bA:Int)+1)] w3.drew (fun e w'=>∃ z:Int,e=.returned (vI z)∧(z=0∧∃ g',dw lo w3.drew g.sg (g.sg.st.raise ((g.bA+1:Nat):Int)) w' g')) by
   refine(abB (H3.o.drew.cN) (Nat.le_trans di BD) ((g.bA+1:Nat):Int) Vn.o).mono ?_;rintro e w' ⟨rfl,hh⟩
   exact⟨0,rfl,rfl,hh⟩)
  have HCP:=U h2.st;clear vk gz js FW h2
  go_wp2_with fail
  go_region_with (go_at_call 34;refine((py w3.drew g.sb g.sg.b nI.o).sUp ((g.bA:Int)+1) _ QZ.o).mono ?_;rintro e w4 ⟨z,rfl,rfl,sg4,h4⟩)
  all_goals
   have MV:=(pU.o.below (Below.refl _ w3).drew).trans (H3.o.drew.ko h4);have r5:=MV.bL.ap.ce 5 rfl;have r7:=MV.bL.ap.ce 7 rfl;have s7:=MV.bL.ap.aq 7;have yW:aZ (w4.setCell (aj g.b 7) (vI ((g.bA:Int)+1))) g.b 38 ({ g with bA:=g.bA+1,cg:=Q4,lG:=g.bA+1,sg:=sg4,lS:=g.bA+1 }:WG).cells:=MV.bL.ap.set 7 _;have vt:aQ (fun k=>k=g.b) w4 (w4.setCell (aj g.b 7) (vI ((g.bA:Int)+1))):=(aQ.refl _ _).setCell _ _ (fun _=>rfl);have hT5:=MV.trans (MV.bL.ke (g':={ g with bA:=g.bA+1,cg:=Q4,lG:=g.bA+1,sg:=sg4,lS:=g.bA+1 }) vt yW rfl ⟨rfl,rfl⟩ rfl rfl ⟨rfl,rfl,rfl⟩ ⟨rfl,rfl,rfl,rfl⟩ ⟨rfl,rfl,rfl,rfl,rfl,rfl⟩ ⟨rfl,rfl,rfl,rfl⟩);obtain⟨w5,Gt⟩:∃ w5,w4.setCell (aj g.b 7) (vI ((g.bA:Int)+1))=w5:=⟨_,rfl⟩
   rw[Gt] at hT5;have HT5:=U hT5;have rN:=U h4.st;clear MV yW vt hT5 h4
   go_wp2_with fail
   go_ret
   exact⟨rfl,_,by
    have e:g.st.ZJ=({ g with bA:=g.bA+1,cg:=Q4,lG:=g.bA+1,sg:=sg4,lS:=g.bA+1 }:WG).st:=by
     unfold WP.ZJ WG.st;simp only[HCP.o,rN.o]
    rw[e]
    exact HT5.o⟩
theorem Tryz.infoU8c:(Tryz.prog.info? 5).map (fun i=>(i.zero,i.size,i.bytes))=some (some (vB 0),1,1):=by kernel_rfl
theorem Nz(w:World)(fa:Addr)(fc:Nat)(F:List UInt8)(h:Rd w (.slice (some fa) F.length fc) F)(hl:F.length≤100000):
  aT 86 #[.slice (some fa) F.length fc,vI 0] w (fun e w'=>∃ a c,e=.returned (.slice a F.length c)∧fG w' w.heap.size (.slice a F.length c) F∧Below w.heap.size w w'):=by
 have amv:=U (show w.ownsRow w.heap.size 5 1 (.slice none 0 0) 0 [] from⟨rfl,Or.inl ⟨rfl,rfl⟩⟩)
 have amw:=U (show ∀ j u,(F.map bJ)[j]? = some u→w.cell? (fa.add j)=some u from fun j u hu=>by
  rcases h with⟨e,_⟩ | ⟨a,c,e,hh⟩
  ·cases e
  ·have:fa=a:=Option.some.inj (Value.slice.inj e).1
   subst this
   exact hh j u hu)
 have amx:=U (show ∀ u∈F.map bJ,u.oneCell'=true from fun u hu=>by
  obtain⟨x,_,rfl⟩:=List.mem_map.1 hu
  rfl)
 clear h
 go_enter func86,ntmps86
 go_wp2_with (at_builtin;refine cJ _ rfl (.tmp 7) (.tmp 8) 103 5 (vB 0) 1 1 rfl underlying103 Tryz.infoU8c rfl (by decide) (.slice none 0 0) 0 [] w.heap.size rfl amv.o fa F.length fc (F.map bJ) rfl (by simp) amw.o amx.o F.length (by simp) (F.map bJ) (by simp) (by unfold maxLen;omega) (by omega) (Nat.le_refl _) ?_)
 rintro a' c' w1 hA hg;have HA:=U hA;have HG:=U (show Below w.heap.size w w1 from⟨hg.g.os,hg.g.tape,hg.g.output,hg.g.size,fun k hk=>hg.g.block k hk (fun e=>by cases e)⟩);clear hA hg
 go_wp2_with fail
 go_ret
 exact⟨a',c',rfl,HA.o,HG.o⟩
theorem kz.PX{g g':WG}{p:WP}{F:Nat→Prop}(h:kz lo w g p w5 g')(hc:aQ F w5 w6)(hb:∀ k,F k→w.heap.size≤k)(hn:∀ k,F k→¬ aL g'.aF k):kz lo w g p w6 g':=by
 have hk:=h.bL.dR.nO hc (fun k hk e=>hn k e hk)
 have kS:∀ k,aL g'.sg.aF k→aL g'.aF k:=fun k hk=>by
  unfold WG.aF;simp only[aL.bM];exact Or.inr (Or.inr (Or.inr (Or.inl hk)))
 have kC:∀ k,aL g'.cg.aF k→aL g'.aF k:=fun k hk=>by
  unfold WG.aF;simp only[aL.bM];exact Or.inr (Or.inr (Or.inr (Or.inr (Or.inl hk))))
 have hS:cB lo w6 g'.sg:=⟨h.bL.cN.dR.nO hc (fun k hk e=>hn k e (kS k hk)),h.bL.cN.rt,h.bL.cN.tp,h.bL.cN.ss,h.bL.cN.rw⟩
 have hC:eH lo w6 g'.cg:=⟨h.bL.dM.dR.nO hc (fun k hk e=>hn k e (kC k hk)),h.bL.dM.ra,h.bL.dM.rs,h.bL.dM.rc,h.bL.dM.rv⟩
 exact⟨⟨hk,hS,hC,h.bL.rs,h.bL.rc,h.bL.fs,h.bL.fc,h.bL.r0,h.bL.r1,h.bL.r2,h.bL.rt,h.bL.ra,h.bL.rV,h.bL.wH⟩,h.st,⟨h.grow.c.trans hc (fun i hi e=>by have:=hb i e;omega),h.grow.k⟩,h.b,h.iv⟩
theorem ab0{g:WG}(h:gO lo w g)(di:lo≤w.heap.size)(p:aS)(q:SP)(fa:Addr)(fc:Nat)(FB:List UInt8)(hr:Rd w (.slice (some fa) FB.length fc) FB)(hl:FB.length≤100000)
  (hRc:∀ w2 a c,Below w.heap.size w w2→fG w2 w.heap.size (.slice a FB.length c) FB→aT 124 #[aM g.sg.b,vI g.lS,.slice a FB.length c] w2 (fun e w'=>e=.returned (vI 0)∧∃ g',dw lo w2 g.sg q w' g')) :
  aT 59 #[aM g.b,vI 1,.agg #[vI g.lS,.slice (some fa) FB.length fc],vI 0] w (fun e w'=>e=.returned (.bool true)∧∃ g',kz lo w g { g.st with bj:=0,s:=q } w' g'):=by
 obtain⟨w0,eM,aN,aD⟩:=cS w [vI g.lS,.slice (some fa) FB.length fc] 132;have e0:=aD.ce 0 rfl;have e1:=aD.ce 1 rfl;have h0:=h.below aN;have k6:=h0.ap.ce 6 rfl;have H0:=U h0;have gZ:=U aN;have ii:=U aD;have HR0:=U (hr.gr aN);have HRc:=U hRc;have yz:=U (show ¬ aL g.aF w.heap.size from h.kf);clear h h0 hr hRc aN aD
 go_enter func59,ntmps59
 go_wp2_with fail
 refine(Nz w0 fa fc FB HR0.o hl).mono ?_;rintro e w1 ⟨a,c,rfl,PG,aA⟩;have JQ:=U PG;have iV:=U aA;have H1:=U (H0.o.below aA);have kJ:=U (ii.o.below aA);have m6:=H1.o.ap.ce 6 rfl;have m0:=H1.o.ap.ce 0 rfl;have n0:=kJ.o.ce 0 rfl;clear PG aA
 go_wp2_with fail
 have jP:=U (show w1.drew.cell? (aj g.sb 0)=some (aM g.sg.b) from H1.o.cT.cell 0)
 have xq:=U (show aT 124 #[aM g.sg.b,vI g.lS,.slice a FB.length c] w1.drew (fun e w'=>∃ z:Int,e=.returned (vI z)∧(z=0∧∃ g',dw lo w1.drew g.sg q w' g')) by
  refine(HRc.o w1.drew a c ((gZ.o.trans (iV.o.mono gZ.o.size)).drew) ⟨JQ.o.1,by
   rcases JQ.o.2 with e | ⟨gb,cap,cur,e1,e2,e3⟩
   ·exact Or.inl e
   ·exact Or.inr ⟨gb,cap,cur,e1,Nat.le_trans gZ.o.size e2,e3⟩⟩).mono ?_
  rintro e w' ⟨rfl,hh⟩
  exact⟨0,rfl,rfl,hh⟩)
 go_region_with (go_at_call 88;refine((py w1.drew g.sb g.sg.b jP.o).AA g.lS a FB.length c _ xq.o).mono ?_;rintro e w2 ⟨z,rfl,rfl,sg2,h2⟩)
 all_goals
  have vk:=(kz.refl H0.o (iV.o.drew)).trans (H1.o.drew.ko h2)
  have Ce:∀ k,w0.heap.size≤k→k<w1.heap.size→¬ aL ({ g with sg:=sg2 }:WG).aF k:=fun k h1 h3 hk=>by
   rcases vk.grow.k k hk with e | e
   ·have:=(H0.o.dR.lt e).2
    omega
   ·have hz:w0.heap.size≤k:=e
    have M6:=(H1.o.drew.ko h2).grow.k k hk
    rcases M6 with e | e
    ·have:=(H0.o.dR.lt e).2
     omega
    ·have e:w1.heap.size≤k:=e
     omega
  have qI:fG w2 w0.heap.size (.slice a FB.length c) FB:=aH JQ.o (fun k hk=>h2.grow.c.block k (JQ.o.lt k hk).2 (fun e=>by
   have h3:=(H1.o.cN.dR.lt e)
   have h4:=(H0.o.cN.dR.lt e).2;have h5:=(JQ.o.lt k hk).1
   omega))
  have m7:=vk.bL.ap.ce 7 rfl;have jo:=U vk;have Rt:=U Ce;have FQ:=U qI;have HLt:=U (fun k hk=>JQ.o.lt k hk);have Zl:=U ((aZ.drew kJ.o).dW h2.grow.c (fun e=>by have h4:=(H0.o.cN.dR.lt e).2;exact yz.o (by unfold WG.aF;simp only[aL.bM];exact Or.inr (Or.inr (Or.inr (Or.inl e))))));have ab1:=U (show w.heap.size<w0.heap.size from ii.o.lt);clear vk Ce qI h2;have jn:=U (show aZ w2 w.heap.size 132 [vI g.lS,.slice (some fa) FB.length fc] from Zl.o);have amA:=ab1.o;have b7:((g.lS:Int) != (g.lS:Int))=false:=by simp
  go_wp2_with fail
  go_loopg [12] FB.length (fun gk i wr=>∃ k:Nat,k+gk=FB.length∧i=.int .i64 k∧∃ xs,Hid (wr.ownsRow w0.heap.size 5 1 (.slice a FB.length c) FB.length xs)∧Hid (kz lo w0 g { g.st with s:=q } wr { g with sg:=sg2 })∧Hid (aZ wr w.heap.size 132 [vI g.lS,.slice (some fa) FB.length fc]))
  case atStart=>exact⟨0,by omega,rfl,FB.map bJ,FQ,jo,jn⟩
  case round=>
   obtain⟨k,hk,rfl,xs,Dv,LA,HPw⟩:=hrel
   by_cases bC:k<FB.length
   ·obtain⟨gb,rfl⟩:∃ gb,a=some (aj gb 0):=by
     rcases Dv.o.2 with⟨e,_⟩ | ⟨gb,cap,cur,e,_⟩
     ·have:=(Value.slice.inj e).2.1
      omega
     ·exact⟨gb,(Value.slice.inj e).1⟩
    have Yr:xs.length=FB.length:=by have:=Dv.o.1;omega
    have JE:wr.cell? (aj gb k)=some (xs[k]'(by omega)):=by
     have:=Dv.o.cells (g:=gb) rfl k (xs[k]'(by omega)) (List.getElem?_eq_getElem (by omega));rw[dF _ _ rfl] at this;simpa using this
    have hfk:=gJ Dv.o k;have ej:(k:Int)<(FB.length:Int):=by omega
    have EY:=HLt.o gb rfl;have js:aQ (fun j=>j=gb) wr (wr.setCell (aj gb k) (vB 255)):=(aQ.refl (fun j=>j=gb) wr).setCell (aj gb k) _ (fun _=>rfl);have Lb:=U (kL (o:=k) Dv.o (vB 255));have pU:=U (LA.o.PX js (fun j e=>by rw[e];exact EY.1) (fun j e=>by rw[e];exact Rt.o gb EY.1 EY.2));have nI:=U (HPw.o.dW js (fun e=>by have e:w.heap.size=gb:=e;omega));generalize xs[k]'(by omega)=xk at JE;obtain⟨w3,iK⟩:∃ w3,wr.setCell (aj gb k) (vB 255)=w3:=⟨_,rfl⟩
    rw[iK] at Lb pU nI;clear js EY Yr
    go_wp2_with fail
    go_roundg (gk-1)
    case rel=>exact⟨k+1,by omega,by go_num,_,Lb,pU,nI⟩
    case measure=>omega
   ·have ej:¬ (k:Int)<(FB.length:Int):=by omega
    have t0:=HPw.o.ce 0 rfl;have t20:=LA.o.bL.ap.ce 20 rfl;have u20:=LA.o.bL.ap.aq 20;have Nu:aZ (wr.setCell (aj g.b 20) (vI 0)) g.b 38 ({ g with sg:=sg2,bj:=0 }:WG).cells:=LA.o.bL.ap.set 20 _;have hc8:aQ (fun j=>j=g.b) wr (wr.setCell (aj g.b 20) (vI 0)):=(aQ.refl _ _).setCell _ _ (fun _=>rfl);have FX:=U ((LA.o.bz gZ.o).trans (LA.o.bL.ke (g':={ g with sg:=sg2,bj:=0 }) hc8 Nu rfl ⟨rfl,rfl⟩ rfl rfl ⟨rfl,rfl,rfl⟩ ⟨rfl,rfl,rfl,rfl⟩ ⟨rfl,rfl,rfl,rfl,rfl,rfl⟩ ⟨rfl,rfl,rfl,rfl⟩));have HQ8:=U (show sg2.st=q from congrArg WP.s LA.o.st);clear Nu hc8
    go_wp2_with fail
    go_ret
    exact⟨rfl,_,FX.o.bL,by show ({ g with sg:=sg2,bj:=0 }:WG).st=_;unfold WG.st;simp only[HQ8.o],FX.o.grow,FX.o.b,FX.o.iv⟩
theorem ab2{g:WG}(h:gO lo w g)(di:lo≤w.heap.size)(p:aS)(q:CP)(fa:Addr)(fc:Nat)(FB:List UInt8)(hr:Rd w (.slice (some fa) FB.length fc) FB)(hl:FB.length≤100000)
  (hRc:∀ w2 a c,Below w.heap.size w w2→fG w2 w.heap.size (.slice a FB.length c) FB→aT 123 #[aM g.cg.b,vI g.lG,.slice a FB.length c] w2 (fun e w'=>e=.returned (vI 0)∧∃ g',fW lo w2 g.cg q w' g')) :
  aT 59 #[aM g.b,vI 0,.agg #[vI g.lG,.slice (some fa) FB.length fc],vI 0] w (fun e w'=>e=.returned (.bool true)∧∃ g',kz lo w g { g.st with bh:=0,c:=q } w' g'):=by
 obtain⟨w0,eM,aN,aD⟩:=cS w [vI g.lG,.slice (some fa) FB.length fc] 132;have e0:=aD.ce 0 rfl;have e1:=aD.ce 1 rfl;have h0:=h.below aN;have k6:=h0.ap.ce 6 rfl;have H0:=U h0;have gZ:=U aN;have ii:=U aD;have HR0:=U (hr.gr aN);have HRc:=U hRc;have yz:=U (show ¬ aL g.aF w.heap.size from h.kf);clear h h0 hr hRc aN aD
 go_enter func59,ntmps59
 go_wp2_with fail
 refine(Nz w0 fa fc FB HR0.o hl).mono ?_;rintro e w1 ⟨a,c,rfl,PG,aA⟩;have JQ:=U PG;have iV:=U aA;have H1:=U (H0.o.below aA);have kJ:=U (ii.o.below aA);have m6:=H1.o.ap.ce 6 rfl;have m0:=H1.o.ap.ce 1 rfl;have n0:=kJ.o.ce 0 rfl;clear PG aA
 go_wp2_with fail
 have jP:=U (show w1.drew.cell? (aj g.cb 0)=some (aM g.cg.b) from H1.o.bB.cell 0)
 have xq:=U (show aT 123 #[aM g.cg.b,vI g.lG,.slice a FB.length c] w1.drew (fun e w'=>∃ z:Int,e=.returned (vI z)∧(z=0∧∃ g',fW lo w1.drew g.cg q w' g')) by
  refine(HRc.o w1.drew a c ((gZ.o.trans (iV.o.mono gZ.o.size)).drew) ⟨JQ.o.1,by
   rcases JQ.o.2 with e | ⟨gb,cap,cur,e1,e2,e3⟩
   ·exact Or.inl e
   ·exact Or.inr ⟨gb,cap,cur,e1,Nat.le_trans gZ.o.size e2,e3⟩⟩).mono ?_
  rintro e w' ⟨rfl,hh⟩
  exact⟨0,rfl,rfl,hh⟩)
 go_region_with (go_at_call 87;refine((py w1.drew g.cb g.cg.b jP.o).Sz g.lG a FB.length c _ xq.o).mono ?_;rintro e w2 ⟨z,rfl,rfl,Q4,h2⟩)
 all_goals
  have vk:=(kz.refl H0.o (iV.o.drew)).trans (H1.o.drew.AU h2)
  have Ce:∀ k,w0.heap.size≤k→k<w1.heap.size→¬ aL ({ g with cg:=Q4 }:WG).aF k:=fun k h1 h3 hk=>by
   rcases vk.grow.k k hk with e | e
   ·have:=(H0.o.dR.lt e).2
    omega
   ·have hz:w0.heap.size≤k:=e
    have M6:=(H1.o.drew.AU h2).grow.k k hk
    rcases M6 with e | e
    ·have:=(H0.o.dR.lt e).2
     omega
    ·have e:w1.heap.size≤k:=e
     omega
  have qI:fG w2 w0.heap.size (.slice a FB.length c) FB:=aH JQ.o (fun k hk=>h2.grow.c.block k (JQ.o.lt k hk).2 (fun e=>by
   have h3:=(H1.o.dM.dR.lt e)
   have h4:=(H0.o.dM.dR.lt e).2;have h5:=(JQ.o.lt k hk).1
   omega))
  have jo:=U vk;have Rt:=U Ce;have FQ:=U qI;have HLt:=U (fun k hk=>JQ.o.lt k hk);have Zl:=U ((aZ.drew kJ.o).dW h2.grow.c (fun e=>by have h4:=(H0.o.dM.dR.lt e).2;exact yz.o (by unfold WG.aF;simp only[aL.bM];exact Or.inr (Or.inr (Or.inr (Or.inr (Or.inl e)))))));have ab1:=U (show w.heap.size<w0.heap.size from ii.o.lt);clear vk Ce qI h2;have jn:=U (show aZ w2 w.heap.size 132 [vI g.lG,.slice (some fa) FB.length fc] from Zl.o);have amA:=ab1.o;have b7:((g.lG:Int) != (g.lG:Int))=false:=by simp
  go_wp2_with fail
  go_loopg [12] FB.length (fun gk i wr=>∃ k:Nat,k+gk=FB.length∧i=.int .i64 k∧∃ xs,Hid (wr.ownsRow w0.heap.size 5 1 (.slice a FB.length c) FB.length xs)∧Hid (kz lo w0 g { g.st with c:=q } wr { g with cg:=Q4 })∧Hid (aZ wr w.heap.size 132 [vI g.lG,.slice (some fa) FB.length fc]))
  case atStart=>exact⟨0,by omega,rfl,FB.map bJ,FQ,jo,jn⟩
  case round=>
   obtain⟨k,hk,rfl,xs,Dv,LA,HPw⟩:=hrel
   by_cases bC:k<FB.length
   ·obtain⟨gb,rfl⟩:∃ gb,a=some (aj gb 0):=by
     rcases Dv.o.2 with⟨e,_⟩ | ⟨gb,cap,cur,e,_⟩
     ·have:=(Value.slice.inj e).2.1
      omega
     ·exact⟨gb,(Value.slice.inj e).1⟩
    have Yr:xs.length=FB.length:=by have:=Dv.o.1;omega
    have JE:wr.cell? (aj gb k)=some (xs[k]'(by omega)):=by
     have:=Dv.o.cells (g:=gb) rfl k (xs[k]'(by omega)) (List.getElem?_eq_getElem (by omega));rw[dF _ _ rfl] at this;simpa using this
    have hfk:=gJ Dv.o k;have ej:(k:Int)<(FB.length:Int):=by omega
    have EY:=HLt.o gb rfl;have js:aQ (fun j=>j=gb) wr (wr.setCell (aj gb k) (vB 255)):=(aQ.refl (fun j=>j=gb) wr).setCell (aj gb k) _ (fun _=>rfl);have Lb:=U (kL (o:=k) Dv.o (vB 255));have pU:=U (LA.o.PX js (fun j e=>by rw[e];exact EY.1) (fun j e=>by rw[e];exact Rt.o gb EY.1 EY.2));have nI:=U (HPw.o.dW js (fun e=>by have e:w.heap.size=gb:=e;omega));generalize xs[k]'(by omega)=xk at JE;obtain⟨w3,iK⟩:∃ w3,wr.setCell (aj gb k) (vB 255)=w3:=⟨_,rfl⟩
    rw[iK] at Lb pU nI;clear js EY Yr
    go_wp2_with fail
    go_roundg (gk-1)
    case rel=>exact⟨k+1,by omega,by go_num,_,Lb,pU,nI⟩
    case measure=>omega
   ·have ej:¬ (k:Int)<(FB.length:Int):=by omega
    have t0:=HPw.o.ce 0 rfl;have t20:=LA.o.bL.ap.ce 19 rfl;have u20:=LA.o.bL.ap.aq 19;have Nu:aZ (wr.setCell (aj g.b 19) (vI 0)) g.b 38 ({ g with cg:=Q4,bh:=0 }:WG).cells:=LA.o.bL.ap.set 19 _;have hc8:aQ (fun j=>j=g.b) wr (wr.setCell (aj g.b 19) (vI 0)):=(aQ.refl _ _).setCell _ _ (fun _=>rfl);have FX:=U ((LA.o.bz gZ.o).trans (LA.o.bL.ke (g':={ g with cg:=Q4,bh:=0 }) hc8 Nu rfl ⟨rfl,rfl⟩ rfl rfl ⟨rfl,rfl,rfl⟩ ⟨rfl,rfl,rfl,rfl⟩ ⟨rfl,rfl,rfl,rfl,rfl,rfl⟩ ⟨rfl,rfl,rfl,rfl⟩));have HQ8:=U (show Q4.st=q from congrArg WP.c LA.o.st);clear Nu hc8
    go_wp2_with fail
    go_ret
    exact⟨rfl,_,FX.o.bL,by show ({ g with cg:=Q4,bh:=0 }:WG).st=_;unfold WG.st;simp only[HQ8.o],FX.o.grow,FX.o.b,FX.o.iv⟩
def wJ(l:List QD):Nat:=(l.filter (fun x=>decide (x.ended=0))).length
theorem PZ{l:List QD}{k:Nat}{x:QD}(h:l[k]? = some x):wJ (l.take (k+1))=wJ (l.take k)+(if x.ended=0 then 1 else 0):=by
 unfold wJ;rw[List.take_add_one,h,List.filter_append,List.length_append]
 by_cases e:x.ended=0
 ·simp[e]
 ·simp[e]
theorem Xn(l:List QD)(k:Nat):wJ (l.take k)≤k:=by
 unfold wJ;have h1:=List.length_filter_le (fun x:QD=>decide (x.ended=0)) (l.take k);have h2:(l.take k).length≤k:=by simp;omega
 omega
theorem NA:∀ (l:List QD) (k j:Nat) (v:Value) (x:QD),l[k]? = some x→(IM x)[j]? = some v→(PY l)[k*5+j]? = some v
 | [],k,_,_,_,h,_=>by simp at h
 | y::r,0,j,v,x,h,hj=>by
  obtain rfl:y=x:=by simpa using h
  have hj5:j<5:=by
   rcases Nat.lt_or_ge j 5 with h | h
   ·exact h
   ·rw[List.getElem?_eq_none (by simp;omega)] at hj;cases hj
  show (IM y++PY r)[0*5+j]? = some v;rw[List.getElem?_append_left (by simp;omega)];simpa using hj
 | y::r,k+1,j,v,x,h,hj=>by
  show (IM y++PY r)[(k+1)*5+j]? = some v;rw[List.getElem?_append_right (by simp;omega)];have:=NA r k j v x (by simpa using h) hj;rw[← this]
  congr 1
  simp;omega
theorem gO.IQ{g:WG}(h:gO lo w g):w.ownsRow lo 79 5 g.Vo g.aU.length (PY g.aU) :=
 h.dR.own h.ra (fun p hp=>by unfold WG.aF WG.rest;simp only[List.mem_append];exact Or.inr (Or.inr (Or.inr (Or.inr (Or.inr (Or.inr (Or.inr (Or.inr (Or.inr hp)))))))))
theorem gO.ab3{g:WG}(h:gO lo w g){k:Nat}{x:QD}(hk:g.aU[k]? = some x):∃ ga c,g.Vo=.slice (some (aj ga 0)) g.aU.length c∧∀ j v,(IM x)[j]? = some v→w.cell? ⟨ga,k*5+j,none⟩=some v:=by
 have GA:k<g.aU.length:=(List.getElem?_eq_some_iff.1 hk).1
 rcases h.IQ.2 with⟨_,e⟩ | ⟨ga,c,cur,hv,r⟩
 ·omega
 ·refine⟨ga,c,hv,fun j v hj=>?_⟩
  have:=h.IQ.cells (g:=ga) (by rw[hv];rfl) (k*5+j) v (NA _ k j v x hk hj);rw[dF _ _ rfl] at this;simpa using this
theorem Xo{g:WG}(h:gO lo w g)(hn:g.aU.length≤100000):
  aT 23 #[aM g.b] w (fun e w'=>e=.returned (vI (wJ g.aU))∧w'=w):=by
 obtain⟨ca,cc,Cm⟩:=h.ra.slice;have d17:w.cell? (aj g.b 17)=some (.slice ca g.aU.length cc):=(show w.cell? (aj g.b 17)=some g.Vo from h.ap.cell 17).trans (by rw[Cm]);have Tm:=U Cm;have H:=U h;clear h Cm
 go_enter func23,ntmps23
 go_wp2_with fail
 go_loopg [3,4] g.aU.length (fun gk n i wr=>∃ k:Nat,k+gk=g.aU.length∧n=.int .i64 (wJ (g.aU.take k))∧i=.int .i64 k∧wr=w)
 case atStart=>exact⟨0,by omega,by simp[wJ],rfl,rfl⟩
 case round=>
  obtain⟨k,hk,rfl,rfl,rfl⟩:=hrel
  by_cases bC:k<g.aU.length
  ·obtain⟨x,hx⟩:∃ x,g.aU[k]? = some x:=⟨_,List.getElem?_eq_getElem bC⟩
   obtain⟨ga,c,hv,aK⟩:=H.o.ab3 hx;obtain⟨rfl,rfl⟩:ca=some (aj ga 0)∧cc=c:=by simpa using Tm.o.symm.trans hv
   have c4:wr.cell? ⟨ga,k*5+4,none⟩=some (vI x.ended):=aK 4 _ rfl;have ej:(k:Int)<(g.aU.length:Int):=by omega
   have HS:=U (PZ hx);have hle:=Xn g.aU k;obtain⟨N,hN⟩:∃ N,wJ (g.aU.take k)=N:=⟨_,rfl⟩
   rw[hN] at HS hle ⊢;clear hN hv aK hx
   by_cases e:x.ended=0
   ·have b1:((x.ended:Int)==0)=true:=by simp[e]
    have oG:=U (show wJ (g.aU.take (k+1))=N+1 by have:=HS.o;rw[if_pos e] at this;exact this);clear e HS
    go_wp2_with fail
    go_roundg (gk-1)
    case rel=>exact⟨k+1,by omega,by rw[oG.o];go_num,by go_num,rfl⟩
    case measure=>omega
   ·have b1:((x.ended:Int)==0)=false:=by simp;omega
    have oG:=U (show wJ (g.aU.take (k+1))=N by have:=HS.o;rw[if_neg e] at this;exact this);clear e HS
    go_wp2_with fail
    go_roundg (gk-1)
    case rel=>exact⟨k+1,by omega,by rw[oG.o],by go_num,rfl⟩
    case measure=>omega
  ·have ej:¬ (k:Int)<(g.aU.length:Int):=by omega
   have HA:=U (show wJ (g.aU.take k)=wJ g.aU by rw[List.take_of_length_le (by omega)])
   go_wp2_with fail
   go_ret
   exact⟨by rw[← HA.o];rfl,rfl⟩
def nZ(l:List gp):Nat:=(l.filter (fun x=>decide (x.ended=0))).length
theorem P8{l:List gp}{k:Nat}{x:gp}(h:l[k]? = some x):nZ (l.take (k+1))=nZ (l.take k)+(if x.ended=0 then 1 else 0):=by
 unfold nZ;rw[List.take_add_one,h,List.filter_append,List.length_append]
 by_cases e:x.ended=0
 ·simp[e]
 ·simp[e]
theorem Xp(l:List gp)(k:Nat):nZ (l.take k)≤k:=by
 unfold nZ;have h1:=List.length_filter_le (fun x:gp=>decide (x.ended=0)) (l.take k);have h2:(l.take k).length≤k:=by simp;omega
 omega
theorem NB:∀ (l:List gp) (k j:Nat) (v:Value) (x:gp),l[k]? = some x→(kZ x)[j]? = some v→(qL l)[k*5+j]? = some v
 | [],k,_,_,_,h,_=>by simp at h
 | y::r,0,j,v,x,h,hj=>by
  obtain rfl:y=x:=by simpa using h
  have hj5:j<5:=by
   rcases Nat.lt_or_ge j 5 with h | h
   ·exact h
   ·rw[List.getElem?_eq_none (by simp;omega)] at hj;cases hj
  show (kZ y++qL r)[0*5+j]? = some v;rw[List.getElem?_append_left (by simp;omega)];simpa using hj
 | y::r,k+1,j,v,x,h,hj=>by
  show (kZ y++qL r)[(k+1)*5+j]? = some v;rw[List.getElem?_append_right (by simp;omega)];have:=NB r k j v x (by simpa using h) hj;rw[← this]
  congr 1
  simp;omega
theorem gO.tB{g:WG}(h:gO lo w g):w.ownsRow lo 44 5 g.iP g.ae.length (qL g.ae) :=
 h.dR.own h.rt (fun p hp=>by unfold WG.aF WG.rest;simp only[List.mem_append];exact Or.inr (Or.inr (Or.inr (Or.inr (Or.inr (Or.inr (Or.inr (Or.inr (Or.inl hp)))))))))
theorem gO.iO{g:WG}(h:gO lo w g){k:Nat}{x:gp}(hk:g.ae[k]? = some x):∃ ga c,g.iP=.slice (some (aj ga 0)) g.ae.length c∧∀ j v,(kZ x)[j]? = some v→w.cell? ⟨ga,k*5+j,none⟩=some v:=by
 have GA:k<g.ae.length:=(List.getElem?_eq_some_iff.1 hk).1
 rcases h.tB.2 with⟨_,e⟩ | ⟨ga,c,cur,hv,r⟩
 ·omega
 ·refine⟨ga,c,hv,fun j v hj=>?_⟩
  have:=h.tB.cells (g:=ga) (by rw[hv];rfl) (k*5+j) v (NB _ k j v x hk hj);rw[dF _ _ rfl] at this;simpa using this
theorem ab4{g:WG}(h:gO lo w g)(hn:g.ae.length≤100000):
  aT 20 #[aM g.b] w (fun e w'=>e=.returned (vI (nZ g.ae))∧w'=w):=by
 obtain⟨ca,cc,Cm⟩:=h.rt.slice;have d16:w.cell? (aj g.b 16)=some (.slice ca g.ae.length cc):=(show w.cell? (aj g.b 16)=some g.iP from h.ap.cell 16).trans (by rw[Cm]);have Tm:=U Cm;have H:=U h;clear h Cm
 go_enter func20,ntmps20
 go_wp2_with fail
 go_loopg [3,4] g.ae.length (fun gk n i wr=>∃ k:Nat,k+gk=g.ae.length∧n=.int .i64 (nZ (g.ae.take k))∧i=.int .i64 k∧wr=w)
 case atStart=>exact⟨0,by omega,by simp[nZ],rfl,rfl⟩
 case round=>
  obtain⟨k,hk,rfl,rfl,rfl⟩:=hrel
  by_cases bC:k<g.ae.length
  ·obtain⟨x,hx⟩:∃ x,g.ae[k]? = some x:=⟨_,List.getElem?_eq_getElem bC⟩
   obtain⟨ga,c,hv,aK⟩:=H.o.iO hx;obtain⟨rfl,rfl⟩:ca=some (aj ga 0)∧cc=c:=by simpa using Tm.o.symm.trans hv
   have c4:wr.cell? ⟨ga,k*5+3,none⟩=some (vI x.ended):=aK 3 _ rfl;have ej:(k:Int)<(g.ae.length:Int):=by omega
   have HS:=U (P8 hx);have hle:=Xp g.ae k;obtain⟨N,hN⟩:∃ N,nZ (g.ae.take k)=N:=⟨_,rfl⟩
   rw[hN] at HS hle ⊢;clear hN hv aK hx
   by_cases e:x.ended=0
   ·have b1:((x.ended:Int)==0)=true:=by simp[e]
    have oG:=U (show nZ (g.ae.take (k+1))=N+1 by have:=HS.o;rw[if_pos e] at this;exact this);clear e HS
    go_wp2_with fail
    go_roundg (gk-1)
    case rel=>exact⟨k+1,by omega,by rw[oG.o];go_num,by go_num,rfl⟩
    case measure=>omega
   ·have b1:((x.ended:Int)==0)=false:=by simp;omega
    have oG:=U (show nZ (g.ae.take (k+1))=N by have:=HS.o;rw[if_neg e] at this;exact this);clear e HS
    go_wp2_with fail
    go_roundg (gk-1)
    case rel=>exact⟨k+1,by omega,by rw[oG.o],by go_num,rfl⟩
    case measure=>omega
  ·have ej:¬ (k:Int)<(g.ae.length:Int):=by omega
   have HA:=U (show nZ (g.ae.take k)=nZ g.ae by rw[List.take_of_length_le (by omega)])
   go_wp2_with fail
   go_ret
   exact⟨by rw[← HA.o];rfl,rfl⟩
theorem Tryz.infoSw:(Tryz.prog.info? 44).map (fun i=>(i.zero,i.size,i.bytes))=some (some (.agg #[vI 0,vI 0,vI 0,vI 0,.bool false]),5,40):=by kernel_rfl
theorem P9(l:List gp)(x:gp):qL (l++[x])=qL l++kZ x:=by unfold qL;simp
theorem gO.IR{g:WG}{l':List gp}(h:gO lo w g)(hc:aQ (fun k=>k=g.b∨g.iP.ownBlock=some k) w w')(hB:aZ w' g.b 38 ({ g with iP:=wF,ae:=l'}:WG).cells)(hA:w'.ownsRow lo 44 5 wF l'.length (qL l'))(iZ:∀ k,wF.ownBlock=some k→g.iP.ownBlock=some k∨w.heap.size≤k):
  kz lo w g { g.st with ae:=l'} w' { g with iP:=wF,ae:=l'}:=by
 obtain⟨yY,mr⟩:=fQ hA (by decide)
 have hh:cE lo w' (({ g with iP:=wF,ae:=l'}:WG).k9++({ g with iP:=wF,ae:=l'}:WG).jy):=ay.2 ⟨ct h.MB hB (by decide),yY,fun a ha c fZ e=>by
  rw[List.mem_singleton.1 ha] at e;have hk:=(be (e:=44) mr).1 ⟨c,fZ,rfl⟩;have e':g.b=c.1:=e;rw[← e'] at hk
  exact hB.bY hA (by decide) hk⟩
 have hg:cM w (g.k9++g.jy) w' (({ g with iP:=wF,ae:=l'}:WG).k9++({ g with iP:=wF,ae:=l'}:WG).jy):=⟨hc.mono (fun i _ hi=>by
  rcases hi with rfl | hi
  ·exact aL.bM.2 (Or.inl (aL.one.2 rfl))
  ·exact aL.bM.2 (Or.inr ((be h.rt).2 hi))),fun k hk=>by
  rcases aL.bM.1 hk with e | e
  ·exact Or.inl (aL.bM.2 (Or.inl (aL.one.2 (show k=g.b from aL.one.1 e))))
  ·rcases iZ k ((be mr).1 e) with e | e
   ·exact Or.inl (aL.bM.2 (Or.inr ((be h.rt).2 e)))
   ·exact Or.inr e⟩
 have p1:g.aF.Perm ((g.k9++g.jy)++(g.sg.aF++(g.cg.aF++(g.cT++(g.bB++(g.IN++(g.IP++(g.Lz++g.jq)))))))):=bF (fun p=>by unfold WG.aF WG.rest;simp only[aP];omega)
 have p2:((({ g with iP:=wF,ae:=l'}:WG).k9++({ g with iP:=wF,ae:=l'}:WG).jy)++(g.sg.aF++(g.cg.aF++(g.cT++(g.bB++(g.IN++(g.IP++(g.Lz++g.jq)))))))).Perm ({ g with iP:=wF,ae:=l'}:WG).aF:=bF (fun p=>by
  show _=cnt p (({ g with iP:=wF,ae:=l'}:WG).k9++(g.cT++(g.bB++(g.sg.aF++(g.cg.aF++(g.IN++(g.IP++(g.Lz++(({ g with iP:=wF,ae:=l'}:WG).jy++g.jq)))))))))
  simp only[aP];omega)
 have hX:=(h.dR.bZ p1).dE hh hg;have hS:cB lo w' g.sg:=⟨(ay.1 (ay.1 hX).2.1).1,h.cN.rt,h.cN.tp,h.cN.ss,h.cN.rw⟩
 have hC:eH lo w' g.cg:=⟨(ay.1 (ay.1 (ay.1 hX).2.1).2.1).1,h.dM.ra,h.dM.rs,h.dM.rc,h.dM.rv⟩
 exact⟨⟨hX.bZ p2,hS,hC,h.rs,h.rc,h.fs,h.fc,h.r0,h.r1,h.r2,mr,h.ra,h.rV,h.wH⟩,rfl,hg.dE.bZ p1.symm p2,rfl,rfl,rfl⟩
theorem gO.amC{g:WG}(h:gO lo w g)(di:lo≤w.heap.size)(hn:g.ae.length≤1000000){nb:Nat}{T:TypeId}{x:gp}(hN:aZ w nb T (kZ x)){aa:Option Addr}{ac:Nat}(hv:g.iP=.slice aa g.ae.length ac):
  ∃ a' c' w',(Builtin.append_ #[34,34] 34 #[.slice aa g.ae.length ac,.slice (some (aj nb 0)) 1 1]).run Tryz.prog w=.ok (.slice a' (g.ae.length+1) c') w'∧w'.cell? (aj g.b 16)=some (.slice aa g.ae.length ac)∧w'.frozen? (aj g.b 16)=false∧aQ (fun k=>g.iP.ownBlock=some k) w w'∧kz lo w g { g.st with ae:=g.ae++[x] } (w'.setCell (aj g.b 16) (.slice a' (g.ae.length+1) c')) { g with iP:=.slice a' (g.ae.length+1) c',ae:=g.ae++[x] }:=by
 have hA:=h.tB;have Zj:=hA;rw[hv] at Zj
 obtain⟨a',c',w4,hr,QX,pI⟩:=jH w 34 34 44 _ 5 40 underlying34 Tryz.infoSw rfl (by decide) (.slice aa g.ae.length ac) g.ae.length (qL g.ae) lo Zj (aj nb 0) 1 1 (kZ x) rfl (fun j u hu=>by
  rw[dF _ _ rfl];have:=hN.cell (0+j);rw[this]
  simpa using hu) (fun u hu=>by simp at hu;rcases hu with rfl | rfl | rfl | rfl | rfl<;>rfl) (by unfold maxLen;omega) (by omega) di
 have yw:∀ k,(Value.slice aa g.ae.length ac).ownBlock=some k→g.iP.ownBlock=some k:=fun k hk=>by rw[hv];exact hk
 have jr:aQ (fun k=>g.iP.ownBlock=some k) w w4:=aQ.mZ pI yw;have ol:=h.ap.bY hA (by decide);have jR:=h.ap.dW jr ol;have rP:(Value.slice a' (g.ae.length+1) c').ownBlock≠some g.b:=jR.bY QX (by decide);have vt:aQ (fun k=>k=g.b) w4 (w4.setCell (aj g.b 16) (.slice a' (g.ae.length+1) c')):=(aQ.refl _ _).setCell _ _ (fun _=>rfl);have WK:=vt.own QX (fun k hk e=>rP (e ▸ hk));have yW:aZ (w4.setCell (aj g.b 16) (.slice a' (g.ae.length+1) c')) g.b 38 ({ g with iP:=.slice a' (g.ae.length+1) c',ae:=g.ae++[x]}:WG).cells:=jR.set 16 _;refine⟨a',c',w4,hr,(show w4.cell? (aj g.b 16)=some g.iP from jR.cell 16).trans (by rw[hv]),jR.aq 16,jr,?_⟩
 exact h.IR ((jr.mono (fun i _ e=>Or.inr e)).same (vt.mono (fun i _ e=>Or.inl e))) yW (by
  rw[P9,List.length_append,List.length_singleton]
  exact WK) (fun k hk=>by
  rcases pI.b k hk with e | e
  ·exact Or.inl (yw k e)
  ·exact Or.inr e)
theorem DM:∀ (l:List gp) (k j:Nat) (x x':gp) (v:Value),l[k]? = some x→j<5→(kZ x).set j v=kZ x'→(qL l).set (k*5+j) v=qL (l.set k x')
 | [],k,_,_,_,_,h,_,_=>by simp at h
 | y::r,0,j,x,x',v,h,hj,he=>by
  obtain rfl:y=x:=by simpa using h
  show (kZ y++qL r).set (0*5+j) v=kZ x'++qL r;rw[List.set_append_left _ _ (by simp;omega),← he];simp
 | y::r,k+1,j,x,x',v,h,hj,he=>by
  show (kZ y++qL r).set ((k+1)*5+j) v=kZ y++qL (r.set k x');rw[List.set_append_right _ _ (by simp;omega),← DM r k j x x' v (by simpa using h) hj he]
  congr 2
  simp;omega
theorem gO.Qa{g:WG}(h:gO lo w g){k j:Nat}{x x':gp}{v:Value}(hk:g.ae[k]? = some x)(hj:j<5)(he:(kZ x).set j v=kZ x'){ga c:Nat}(hv:g.iP=.slice (some (aj ga 0)) g.ae.length c):
  kz lo w g { g.st with ae:=g.ae.set k x' } (w.setCell ⟨ga,k*5+j,none⟩ v) { g with ae:=g.ae.set k x' }:=by
 have hA:=h.tB;have Cv:g.iP.ownBlock=some ga:=by rw[hv];rfl
 have ol:=h.ap.bY hA (by decide);have EY:ga≠g.b:=fun e=>ol (by rw[Cv,e])
 have hc:aQ (fun k=>k=ga) w (w.setCell ⟨ga,k*5+j,none⟩ v):=(aQ.refl (fun k=>k=ga) w).setCell ⟨ga,k*5+j,none⟩ _ (fun _=>rfl);rw[hv] at hA;have hR:=kL (o:=k*5+j) hA v;rw[DM g.ae k j x x' v hk hj he] at hR;have hB:aZ (w.setCell ⟨ga,k*5+j,none⟩ v) g.b 38 ({ g with iP:=g.iP,ae:=g.ae.set k x'}:WG).cells:=h.ap.dW hc (fun e=>EY (Eq.symm e))
 exact h.IR (wF:=g.iP) (l':=g.ae.set k x') (hc.mono (fun i _ e=>Or.inr (by rw[Cv,e]))) hB (by
  rw[hv,List.length_set]
  exact hR) (fun k hk=>Or.inl hk)
theorem LB(l:List ByteArray)(x:ByteArray):ck (l++[x])=ck l++[.string x]:=by unfold ck;simp
theorem gO.ag7{g:WG}(h:gO lo w g):w.ownsRow lo 9 1 g.T5 g.v0.length (ck g.v0):=h.dR.own h.r0 (fun p hp=>by unfold WG.aF WG.rest WG.Lz;simp only[List.mem_append];exact Or.inr (Or.inr (Or.inr (Or.inr (Or.inr (Or.inr (Or.inr (Or.inl (Or.inl hp)))))))))
theorem gO.ahc{g:WG}(h:gO lo w g):w.ownsRow lo 9 1 g.T6 g.v2.length (ck g.v2):=h.dR.own h.r2 (fun p hp=>by unfold WG.aF WG.rest WG.Lz;simp only[List.mem_append];exact Or.inr (Or.inr (Or.inr (Or.inr (Or.inr (Or.inr (Or.inr (Or.inl (Or.inr (Or.inr hp))))))))))
theorem gO.Zm{g:WG}(h:gO lo w g):w.ownsRow lo 9 1 g.wG g.v1.length (ck g.v1):=h.dR.own h.r1 (fun p hp=>by unfold WG.aF WG.rest WG.Lz;simp only[List.mem_append];exact Or.inr (Or.inr (Or.inr (Or.inr (Or.inr (Or.inr (Or.inr (Or.inl (Or.inr (Or.inl hp))))))))))
theorem gO.ab5{g:WG}{l':List ByteArray}(h:gO lo w g)(hc:aQ (fun k=>k=g.b∨g.wG.ownBlock=some k) w w')(hB:aZ w' g.b 38 ({ g with wG:=wF,v1:=l'}:WG).cells)(hA:w'.ownsRow lo 9 1 wF l'.length (ck l'))(iZ:∀ k,wF.ownBlock=some k→g.wG.ownBlock=some k∨w.heap.size≤k):
  kz lo w g { g.st with v1:=l'} w' { g with wG:=wF,v1:=l'}:=by
 obtain⟨yY,mr⟩:=fQ hA (by decide)
 have hh:cE lo w' (({ g with wG:=wF,v1:=l'}:WG).k9++(cx 9 1 wF l'.length (ck l'))):=ay.2 ⟨ct h.MB hB (by decide),yY,fun a ha c fZ e=>by
  rw[List.mem_singleton.1 ha] at e;have hk:=(be (e:=9) mr).1 ⟨c,fZ,rfl⟩;have e':g.b=c.1:=e;rw[← e'] at hk
  exact hB.bY hA (by decide) hk⟩
 have hg:cM w (g.k9++(cx 9 1 g.wG g.v1.length (ck g.v1))) w' (({ g with wG:=wF,v1:=l'}:WG).k9++(cx 9 1 wF l'.length (ck l'))):=⟨hc.mono (fun i _ hi=>by
  rcases hi with rfl | hi
  ·exact aL.bM.2 (Or.inl (aL.one.2 rfl))
  ·exact aL.bM.2 (Or.inr ((be h.r1).2 hi))),fun k hk=>by
  rcases aL.bM.1 hk with e | e
  ·exact Or.inl (aL.bM.2 (Or.inl (aL.one.2 (show k=g.b from aL.one.1 e))))
  ·rcases iZ k ((be mr).1 e) with e | e
   ·exact Or.inl (aL.bM.2 (Or.inr ((be h.r1).2 e)))
   ·exact Or.inr e⟩
 have p1:g.aF.Perm ((g.k9++(cx 9 1 g.wG g.v1.length (ck g.v1)))++(g.sg.aF++(g.cg.aF++(g.cT++(g.bB++(g.IN++(g.IP++((cx 9 1 g.T5 g.v0.length (ck g.v0))++((cx 9 1 g.T6 g.v2.length (ck g.v2))++(g.jy++g.jq)))))))))):=bF (fun p=>by unfold WG.aF WG.rest WG.Lz;simp only[aP];omega)
 have p2:((({ g with wG:=wF,v1:=l'}:WG).k9++(cx 9 1 wF l'.length (ck l')))++(g.sg.aF++(g.cg.aF++(g.cT++(g.bB++(g.IN++(g.IP++((cx 9 1 g.T5 g.v0.length (ck g.v0))++((cx 9 1 g.T6 g.v2.length (ck g.v2))++(g.jy++g.jq)))))))))).Perm ({ g with wG:=wF,v1:=l'}:WG).aF:=bF (fun p=>by
  show _=cnt p (({ g with wG:=wF,v1:=l'}:WG).k9++(g.cT++(g.bB++(g.sg.aF++(g.cg.aF++(g.IN++(g.IP++(((cx 9 1 g.T5 g.v0.length (ck g.v0))++((cx 9 1 wF l'.length (ck l'))++(cx 9 1 g.T6 g.v2.length (ck g.v2))))++(g.jy++g.jq)))))))))
  simp only[aP];omega)
 have hX:=(h.dR.bZ p1).dE hh hg;have hS:cB lo w' g.sg:=⟨(ay.1 (ay.1 hX).2.1).1,h.cN.rt,h.cN.tp,h.cN.ss,h.cN.rw⟩
 have hC:eH lo w' g.cg:=⟨(ay.1 (ay.1 (ay.1 hX).2.1).2.1).1,h.dM.ra,h.dM.rs,h.dM.rc,h.dM.rv⟩
 exact⟨⟨hX.bZ p2,hS,hC,h.rs,h.rc,h.fs,h.fc,h.r0,mr,h.r2,h.rt,h.ra,h.rV,h.wH⟩,rfl,hg.dE.bZ p1.symm p2,rfl,rfl,rfl⟩
theorem gO.ag5{g:WG}(h:gO lo w g)(di:lo≤w.heap.size)(hn:g.v1.length≤1000000){nb:Nat}{T:TypeId}{x:ByteArray}(hN:aZ w nb T [.string x]){aa:Option Addr}{ac:Nat}(hv:g.wG=.slice aa g.v1.length ac):
  ∃ a' c' w',(Builtin.append_ #[31,31] 31 #[.slice aa g.v1.length ac,.slice (some (aj nb 0)) 1 1]).run Tryz.prog w=.ok (.slice a' (g.v1.length+1) c') w'∧w'.cell? (aj g.b 11)=some (.slice aa g.v1.length ac)∧w'.frozen? (aj g.b 11)=false∧aQ (fun k=>g.wG.ownBlock=some k) w w'∧kz lo w g { g.st with v1:=g.v1++[x] } (w'.setCell (aj g.b 11) (.slice a' (g.v1.length+1) c')) { g with wG:=.slice a' (g.v1.length+1) c',v1:=g.v1++[x] }:=by
 have hA:=h.Zm;have Zj:=hA;rw[hv] at Zj
 obtain⟨a',c',w4,hr,QX,pI⟩:=jH w 31 31 9 _ 1 16 underlying31 Tryz.infoStr rfl (by decide) (.slice aa g.v1.length ac) g.v1.length (ck g.v1) lo Zj (aj nb 0) 1 1 [.string x] rfl (fun j u hu=>by
  rw[dF _ _ rfl];have:=hN.cell (0+j);rw[this]
  simpa using hu) (fun u hu=>by simp at hu;subst hu;rfl) (by unfold maxLen;omega) (by omega) di
 have yw:∀ k,(Value.slice aa g.v1.length ac).ownBlock=some k→g.wG.ownBlock=some k:=fun k hk=>by rw[hv];exact hk
 have jr:aQ (fun k=>g.wG.ownBlock=some k) w w4:=aQ.mZ pI yw;have ol:=h.ap.bY hA (by decide);have jR:=h.ap.dW jr ol;have rP:(Value.slice a' (g.v1.length+1) c').ownBlock≠some g.b:=jR.bY QX (by decide);have vt:aQ (fun k=>k=g.b) w4 (w4.setCell (aj g.b 11) (.slice a' (g.v1.length+1) c')):=(aQ.refl _ _).setCell _ _ (fun _=>rfl);have WK:=vt.own QX (fun k hk e=>rP (e ▸ hk));have yW:aZ (w4.setCell (aj g.b 11) (.slice a' (g.v1.length+1) c')) g.b 38 ({ g with wG:=.slice a' (g.v1.length+1) c',v1:=g.v1++[x]}:WG).cells:=jR.set 11 _;refine⟨a',c',w4,hr,(show w4.cell? (aj g.b 11)=some g.wG from jR.cell 11).trans (by rw[hv]),jR.aq 11,jr,?_⟩
 exact h.ab5 ((jr.mono (fun i _ e=>Or.inr e)).same (vt.mono (fun i _ e=>Or.inl e))) yW (by
  rw[LB,List.length_append,List.length_singleton]
  exact WK) (fun k hk=>by
  rcases pI.b k hk with e | e
  ·exact Or.inl (yw k e)
  ·exact Or.inr e)
def cr:Nat→ByteArray
 | 0=>ByteArray.mk #[116,105,99,107,115]
 | 1=>ByteArray.mk #[109,97,114,107,115]
 | _=>ByteArray.mk #[104,117,101,115]
def eN:Nat→ByteArray
 | 0=>ByteArray.mk #[105,110,116]
 | 1=>ByteArray.mk #[112,111,105,110,116]
 | _=>ByteArray.mk #[99,111,108,111,114]
def fY(f:Nat→ByteArray)(w:World)(e:Ending)(w':World):Prop:=∃ b,e=.returned (.slice (some ⟨b,0,none⟩) 3 3)∧Below w.heap.size w w'∧w.heap.size≤b∧w'.cell? ⟨b,0,none⟩=some (.string (f 0))∧w'.cell? ⟨b,1,none⟩=some (.string (f 1))∧w'.cell? ⟨b,2,none⟩=some (.string (f 2))
theorem uQ(w:World):aT 17 #[] w (fY cr w):=by
 go_enter func17,ntmps17
 go_wp2_with fail
 go_ret
 have hB:aZ (w.alloc (.cells #[.string (cr 0),.string (cr 1),.string (cr 2)] 9)) w.heap.size 9 [.string (cr 0),.string (cr 1),.string (cr 2)]:=heap_alloc_new w _;exact⟨w.heap.size,rfl,(Below.refl _ _).alloc (Nat.le_refl _) _,Nat.le_refl _,hB.cell 0,hB.cell 1,hB.cell 2⟩
theorem ab6(w:World):aT 15 #[] w (fY eN w):=by
 go_enter func15,ntmps15
 go_wp2_with fail
 go_ret
 have hB:aZ (w.alloc (.cells #[.string (eN 0),.string (eN 1),.string (eN 2)] 9)) w.heap.size 9 [.string (eN 0),.string (eN 1),.string (eN 2)]:=heap_alloc_new w _;exact⟨w.heap.size,rfl,(Below.refl _ _).alloc (Nat.le_refl _) _,Nat.le_refl _,hB.cell 0,hB.cell 1,hB.cell 2⟩
def WG.dO(g:WG):Nat→List ByteArray
 | 0=>g.v0
 | 1=>g.v1
 | _=>g.v2
def WG.Zn(g:WG):Nat→Value
 | 0=>g.T5
 | 1=>g.wG
 | _=>g.T6
def WG.Fm(g:WG):Nat→Bool
 | 0=>g.d0
 | 1=>g.d1
 | _=>g.d2
theorem gO.lO{g:WG}(h:gO lo w g){t:Nat}(ht:t<3):∃ a c,g.Zn t=.slice a (g.dO t).length c∧w.cell? ⟨g.b,10+t,none⟩=some (.slice a (g.dO t).length c):=by
 match t,ht with
 | 0,_=>obtain⟨a,c,e⟩:=h.r0.slice;exact⟨a,c,e,(show w.cell? (aj g.b 10)=some g.T5 from h.ap.cell 10).trans (by rw[e];rfl)⟩
 | 1,_=>obtain⟨a,c,e⟩:=h.r1.slice;exact⟨a,c,e,(show w.cell? (aj g.b 11)=some g.wG from h.ap.cell 11).trans (by rw[e];rfl)⟩
 | 2,_=>obtain⟨a,c,e⟩:=h.r2.slice;exact⟨a,c,e,(show w.cell? (aj g.b 12)=some g.T6 from h.ap.cell 12).trans (by rw[e];rfl)⟩
theorem gO.Fo{g:WG}(h:gO lo w g){t:Nat}(ht:t<3):w.cell? ⟨g.b,13+t,none⟩=some (.bool (g.Fm t)):=by
 match t,ht with
 | 0,_=>exact h.ap.cell 13
 | 1,_=>exact h.ap.cell 14
 | 2,_=>exact h.ap.cell 15
def WP.cy(p:WP):Nat→List ByteArray
 | 0=>p.v0
 | 1=>p.v1
 | _=>p.v2
theorem WG.rp(g:WG)(t:Nat):g.st.cy t=g.dO t:=by match t with | 0=>rfl | 1=>rfl | _+2=>rfl
def WP.eh(p:WP)(t pos:Nat):Bool:=decide ((p.cy t).length<pos+p.R)
theorem NC{g:WG}(h:gO lo w g){t:Nat}(ht:t<3)(pos:Nat)(hl:(g.dO t).length≤1000000000)(hR:g.R≤1000)(hp:pos≤1000000000000):
  aT 10 #[aM g.b,vI t,vI pos] w (fun e w'=>e=.returned (.bool (g.st.eh t pos))∧Below w.heap.size w w'):=by
 obtain⟨a,c,hv,aK⟩:=h.lO ht;have d4:=h.ap.ce 4 rfl;have htI:(t:Int)<3:=by omega
 have HE:=U (show g.st.eh t pos=decide ((g.dO t).length<pos+g.R) by unfold WP.eh;rw[WG.rp];rfl);obtain⟨n,hn⟩:∃ n,(g.dO t).length=n:=⟨_,rfl⟩
 rw[hn] at aK hl HE;clear hn hv h
 go_enter func10,ntmps10
 go_wp2_with fail
 go_region
 all_goals
  go_wp2_with fail
  go_ret
  refine⟨?_,(Below.refl _ _).drew⟩;rw[HE.o,show decide (n<pos+g.R)=decide ((n:Int)-(g.R:Int)<(pos:Int)) from decide_eq_decide.2 (by omega)];rfl
end Go.Proofs.YtkpfplbmmglkkaaGreatDoor
