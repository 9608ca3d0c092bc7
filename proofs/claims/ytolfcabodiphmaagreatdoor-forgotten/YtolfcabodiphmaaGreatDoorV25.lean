/- Package ends: the server: a question comes. -/
import Derived.Test.YtolfcabodiphmaaGreatDoorV24
import Derived.Test.YtolfcabodiphmaaGreatDoorV20
set_option linter.unusedSimpArgs false
set_option linter.unusedVariables false
set_option maxHeartbeats 4000000
set_option maxRecDepth 100000
namespace Go.Proofs.YtolfcabodiphmaaGreatDoor
open Go.Proofs.Tryz
open Go.RowKit Go.Conc
theorem SP.Nv{W:Nat}{s:SP}{p:aP}(h:(s.request W p).2=true):s.oI p=true:=by
 cases hc:s.oI p with
 | true=>rfl
 | false=>rw[SP.Nq hc] at h;cases h
theorem dV.stat{lo:Nat}{w w':World}{g g':SG}{p:SP}{iv:Value}{X:List aO}(h:dV lo w g p w' g')(hc:Srv lo w g)(hs:Stat lo w iv X):Stat lo w' iv X:=hs.keep hc.has h.grow.c
theorem V9{lo:Nat}{w:World}{g:SG}{X:List aO}(h:Srv lo w g)(p:aP)(ask:SP.Ask)(hlo:lo≤w.heap.size)(hst:Stat lo w g.iv X)(hS:SSp g.st)(hW:g.W≤1000)(hp:p.number≤1000000000000)(ht:∀ s,g.aT=some s→s.token=p.token)(hwl:g.st.waits.length≤1000000)(hwk:(g.st.request g.W p).1.waits=g.st.waits)(h2:(g.st.request g.W p).2=true)
  (nm dat:ByteArray) (hd:p.data=nm++⟨#[32]⟩++dat) (hnm:∀ c∈nm.data.toList,c≠32) (hsz:p.data.size≤1000) (h1s:1<p.data.size) (hnz:nm.size+1≤p.data.size) (hdz:dat.size≤1000) (x:aO) (bs an:ByteArray) (i:Nat) (hFi:jH X 3 nm.toList (i:Int)) (hxi:X[i]? = some x) (hbs:∃ v,x.it.base=[.string bs,v]) (has:∃ v,x.it.answer=[.string an,v]) (t:ByteArray) (hdec:dU X bs dat.toList=some t) (hask:ask p.data.toList=some (x.it.name.text,t,an)) :
  Calls Tryz.prog 123 #[.pointer (some ⟨g.b,0,none⟩),.agg #[.int .u8 p.kind,.int .u64 p.token,.int .u64 p.session,.int .u64 p.number,.int .u64 p.position,.string p.data]] w (fun e w'=>e=.returned (.tuple #[])∧∃ g',dV lo w g (g.st.call ask g.W p) w' g'):=by
 have hbw0:Below w.heap.size w (w.alloc (.cells #[.int .u8 p.kind,.int .u64 p.token,.int .u64 p.session,.int .u64 p.number,.int .u64 p.position,.string p.data] 124)):=(Below.refl _ _).alloc (Nat.le_refl _) _
 have au:aK (w.alloc (.cells #[.int .u8 p.kind,.int .u64 p.token,.int .u64 p.session,.int .u64 p.number,.int .u64 p.position,.string p.data] 124)) w.heap.size 124 [.int .u8 p.kind,.int .u64 p.token,.int .u64 p.session,.int .u64 p.number,.int .u64 p.position,.string p.data]:=heap_alloc_new w _
 obtain⟨w0,dw⟩:∃ w0,w.alloc (.cells #[.int .u8 p.kind,.int .u64 p.token,.int .u64 p.session,.int .u64 p.number,.int .u64 p.position,.string p.data] 124)=w0:=⟨_,rfl⟩
 rw[dw] at hbw0 au
 have e0:w0.cell? ⟨w.heap.size,0,none⟩=some (.int .u8 p.kind):=au.cell 0
 have e1:w0.cell? ⟨w.heap.size,1,none⟩=some (.int .u64 p.token):=au.cell 1
 have e2:w0.cell? ⟨w.heap.size,2,none⟩=some (.int .u64 p.session):=au.cell 2
 have e3:w0.cell? ⟨w.heap.size,3,none⟩=some (.int .u64 p.number):=au.cell 3
 have e4:w0.cell? ⟨w.heap.size,4,none⟩=some (.int .u64 p.position):=au.cell 4
 have e5:w0.cell? ⟨w.heap.size,5,none⟩=some (.string p.data):=au.cell 5
 have H0:=hid (h.below hbw0)
 have Hb0:=hid hbw0
 have HB0:=hid au
 have Aj:=hid (show ¬ Key g.res w.heap.size from h.lM)
 have ai6:=hid (hst.below hbw0)
 have hlo0:lo≤w0.heap.size:=Nat.le_trans hlo hbw0.size
 have HR:=hid (fun w' (hw:Srv lo w' g)=>V6 (w:=w') hw p hS hW hp ht (SP.Nv h2) h2)
 have HC:=hid (fun o (ho:(g.st.request g.W p).1.aT=some o)=>show g.st.call ask g.W p = { (g.st.request g.W p).1 with waits:=(g.st.request g.W p).1.waits++[⟨x.it.name.text,t,⟨o.token,o.number,p.number,an⟩⟩] } by
  unfold SP.call
  simp only[h2,if_true,hask,ho])
 have ai7:=hid (fun w'=>RS w' p.data nm dat hd hnm h1s (by omega) hnz)
 have HF:=hid hFi
 have YO:=hid hxi
 have HBs:=hid hbs
 have HAs:=hid has
 have aft:=hid hdec
 have HWL:=hid (show (g.st.request g.W p).1.waits.length≤1000000 by rw[hwk];exact hwl)
 clear h hst hS hp ht hwl hwk h2 hd hnm h1s hnz hFi hxi hbs has hdec hask hbw0 au
 go_enter func123,ntmps123
 go_wp2_with fail
 refine(HR.out w0 H0.out).mono ?_;rintro e w1 ⟨b1,rfl,g1,h1,hk1⟩
 have HB1:=hid (h1.blk HB0.out Aj.out).1
 have ab3:=hid (h1.stat H0.out ai6.out)
 have H1:=hid h1
 obtain⟨s1,hs1,rfl⟩:=SG.OV hk1
 have Np:=hid hs1
 have hgb:g1.b=g.b:=h1.b
 have Hiv:=hid (show g1.iv=g.iv from h1.iv)
 have BP:=hid (show (g.st.request g.W p).1.aT=some s1.o from(congrArg SP.aT h1.st).symm.trans (SG.oAt hs1))
 have HW1:=hid (show (g.st.request g.W p).1.waits=g1.waits from(congrArg SP.waits h1.st).symm)
 have y5:w1.cell? ⟨w.heap.size,5,none⟩=some (.string p.data):=HB1.out.cell 5
 have hlo1:lo≤w1.heap.size:=Nat.le_trans hlo0 h1.grow.c.size
 rw[← hgb]
 clear h1 hk1 hs1 hgb
 go_wp2_with fail
 obtain⟨pl,hi⟩:=ab3.out.i
 obtain⟨ia,ic,hiv⟩:∃ a c,g.iv=.slice a X.length c:=ay hi.own
 refine(ai7.out w1).mono ?_;rintro e w2 ⟨rfl,hb2⟩
 have OT:=hid hiv
 have HI2:=hid ((hiv ▸ hi:dK w1 pl (.slice ia X.length ic) X).below hb2)
 have HX:=hid ab3.out.xo
 have HG2:=hid (H1.out.srv.below hb2)
 have Hb2:=hid hb2
 have z0:w2.cell? ⟨g1.b,0,none⟩=some (.slice ia X.length ic):=(show w2.cell? ⟨g1.b,0,none⟩=some g1.iv from HG2.out.blk.cell 0).trans (by rw[Hiv.out,hiv])
 clear hi hiv hb2
 go_wp2_with fail
 refine(Fv w2 pl (.slice ia X.length ic) X 3 nm HI2.out HX.out.nms HX.out.len).mono ?_;rintro e w3 ⟨z,hF,hb3,⟨rfl,rfl⟩ | ⟨j,y,n,rfl,hx,hba,han,rfl⟩⟩
 ·exact absurd (HF.out.uniq hF) (by omega)
 ·obtain rfl:i=j:=by have:=HF.out.uniq hF;omega
  obtain rfl:x=y:=by have:=YO.out.symm.trans hx;simpa using this
  have hbb:n.bb=bs:=by
   obtain⟨v,hv⟩:=HBs.out
   rw[hba] at hv
   simpa using(List.cons.inj hv).1
  have hab:n.ab=an:=by
   obtain⟨v,hv⟩:=HAs.out
   rw[han] at hv
   simpa using(List.cons.inj hv).1
  have Ag:=hid hbb
  have HAB:=hid hab
  have hbI:Below w3.heap.size w3 (w3.alloc (.cells #[.int .i64 x.it.kind,.string x.it.name.text,.int .i64 x.it.name.at_,.slice n.fa x.it.fields.length n.fc,.slice n.na x.it.names.length n.nc,.string n.bb,.int .i64 n.ba,.string n.ab,.int .i64 n.aa] 116)):=(Below.refl _ _).alloc (Nat.le_refl _) _
  have hBI:aK (w3.alloc (.cells #[.int .i64 x.it.kind,.string x.it.name.text,.int .i64 x.it.name.at_,.slice n.fa x.it.fields.length n.fc,.slice n.na x.it.names.length n.nc,.string n.bb,.int .i64 n.ba,.string n.ab,.int .i64 n.aa] 116)) w3.heap.size 116 [.int .i64 x.it.kind,.string x.it.name.text,.int .i64 x.it.name.at_,.slice n.fa x.it.fields.length n.fc,.slice n.na x.it.names.length n.nc,.string n.bb,.int .i64 n.ba,.string n.ab,.int .i64 n.aa]:=heap_alloc_new w3 _
  have HBI:=hid hBI
  have Rt:=hid ((Hb2.out.trans (hb3.mono Hb2.out.size)).trans (hbI.mono (Nat.le_trans Hb2.out.size hb3.size)))
  unfold xH
  clear hF hx hba han hbI hBI hbb hab hb3
  go_wp2_with fail
  generalize w3.alloc (.cells #[.int .i64 x.it.kind,.string x.it.name.text,.int .i64 x.it.name.at_,.slice n.fa x.it.fields.length n.fc,.slice n.na x.it.names.length n.nc,.string n.bb,.int .i64 n.ba,.string n.ab,.int .i64 n.aa] 116)=wI at *
  generalize hib:w3.heap.size=ib at *
  obtain⟨nt,hnt⟩:∃ nt,x.it.name.text=nt:=⟨_,rfl⟩
  rw[hnt] at HBI ⊢
  obtain⟨k0,k2,fa,fl,fc,na,nl,nc,bb,k6,ab,k8,hHB,hbb,hab⟩:∃ (k0 k2:Int) (fa:Option Addr) (fl fc:Nat) (na:Option Addr) (nl nc:Nat) (bb:ByteArray) (k6:Int) (ab:ByteArray) (k8:Int),aK wI ib 116 [.int .i64 k0,.string nt,.int .i64 k2,.slice fa fl fc,.slice na nl nc,.string bb,.int .i64 k6,.string ab,.int .i64 k8]∧bb=bs∧ab=an:=⟨_,_,_,_,_,_,_,_,_,_,_,_,HBI.out,Ag.out,HAB.out⟩
  subst hbb hab
  have HBY:=hid hHB
  have HNT:=hid hnt
  have HGI:=hid (H1.out.srv.below Rt.out)
  have HPI:=hid (HB1.out.below Rt.out)
  have ai9:=hid (show Stat lo wI (.slice ia X.length ic) X by have:=ab3.out.below Rt.out;rw[OT.out] at this;exact this)
  have hbB:Below wI.heap.size wI (Lib.bytesWorld wI.drew 5 dat):=(Below.refl _ wI).drew.trans (rZ wI.drew dat)
  have e0:wI.cell? ⟨g1.b,0,none⟩=some (.slice ia X.length ic):=(show wI.cell? ⟨g1.b,0,none⟩=some g1.iv from HGI.out.blk.cell 0).trans (by rw[Hiv.out,OT.out])
  have e5:wI.cell? ⟨ib,5,none⟩=some (.string bb):=HBY.out.cell 5
  have e0b:(Lib.bytesWorld wI.drew 5 dat).cell? ⟨g1.b,0,none⟩=some (.slice ia X.length ic):=(show (Lib.bytesWorld wI.drew 5 dat).cell? ⟨g1.b,0,none⟩=some g1.iv from(HGI.out.below hbB).blk.cell 0).trans (by rw[Hiv.out,OT.out])
  have e5b:(Lib.bytesWorld wI.drew 5 dat).cell? ⟨ib,5,none⟩=some (.string bb):=(HBY.out.below hbB).cell 5
  have hcv:=OM dat
  clear hHB HBI Ag HAB hnt hbB hib
  go_wp2_with fail
  go_cut [10,11] (fun s10 s11 wx=>∃ (t':ByteArray) (E:Int),s10=.string t'∧s11=.int .i64 E∧Hid (Below wI.heap.size wI wx)∧Hid ((E≠0∧dU X bb dat.toList=none)∨(E=0∧dU X bb dat.toList=some t')))
  case first=>
   go_region_with (go_at_call 166;refine(CQ (W:=wI.drew) ai9.out (Below.refl _ _).drew bb dat hdz).mono ?_;rintro e w4 ⟨t',E,rfl,hb4,hD⟩;have HD:=hid hD;have Hb4:=hid hb4;clear hD hb4)
   all_goals (go_wp2_with fail;go_meet;exact⟨t',E,rfl,rfl,Hb4,HD⟩)
  case rest=>
  obtain⟨t',E,rfl,rfl,Hb4,HD⟩:=hcut
  obtain⟨wF,hwF⟩:∃ wF,wF=wc:=⟨_,rfl⟩
  subst hwF
  rcases HD.out with⟨hE,hN⟩ | ⟨rfl,hN⟩
  ·exact absurd (aft.out.symm.trans hN) (by simp)
  obtain rfl:t=t':=by have:=aft.out.symm.trans hN;simpa using this
  clear hN HD
  have HG4:=hid (HGI.out.below Hb4.out)
  have JE:=hid (HPI.out.below Hb4.out)
  have HI4:=hid (HBY.out.below Hb4.out)
  have Mc:=hid (HG4.out.jm Np.out)
  have u0a:wF.cell? ⟨s1.blk,0,none⟩=some (.int .u64 s1.token):=(Mc.out.below (Below.refl wF.heap.size wF)).cell 0
  have u2a:wF.cell? ⟨s1.blk,2,none⟩=some (.int .u64 s1.number):=(Mc.out.below (Below.refl wF.heap.size wF)).cell 2
  have u3a:wF.cell? ⟨w.heap.size,3,none⟩=some (.int .u64 p.number):=(JE.out.below (Below.refl wF.heap.size wF)).cell 3
  have u7a:wF.cell? ⟨ib,7,none⟩=some (.string ab):=(HI4.out.below (Below.refl wF.heap.size wF)).cell 7
  have u0b:(wF.alloc (.cells #[.int .u64 0,.int .u64 0,.int .u64 0,.string ⟨#[]⟩] 137)).cell? ⟨s1.blk,0,none⟩=some (.int .u64 s1.token):=(Mc.out.below (iK (Below.refl wF.heap.size wF) _)).cell 0
  have u2b:(wF.alloc (.cells #[.int .u64 0,.int .u64 0,.int .u64 0,.string ⟨#[]⟩] 137)).cell? ⟨s1.blk,2,none⟩=some (.int .u64 s1.number):=(Mc.out.below (iK (Below.refl wF.heap.size wF) _)).cell 2
  have u3b:(wF.alloc (.cells #[.int .u64 0,.int .u64 0,.int .u64 0,.string ⟨#[]⟩] 137)).cell? ⟨w.heap.size,3,none⟩=some (.int .u64 p.number):=(JE.out.below (iK (Below.refl wF.heap.size wF) _)).cell 3
  have u7b:(wF.alloc (.cells #[.int .u64 0,.int .u64 0,.int .u64 0,.string ⟨#[]⟩] 137)).cell? ⟨ib,7,none⟩=some (.string ab):=(HI4.out.below (iK (Below.refl wF.heap.size wF) _)).cell 7
  have u0c:(wF.drew.alloc (.cells #[.int .u64 0,.int .u64 0,.int .u64 0,.string ⟨#[]⟩] 137)).cell? ⟨s1.blk,0,none⟩=some (.int .u64 s1.token):=(Mc.out.below (iK (Below.refl wF.heap.size wF).drew _)).cell 0
  have u2c:(wF.drew.alloc (.cells #[.int .u64 0,.int .u64 0,.int .u64 0,.string ⟨#[]⟩] 137)).cell? ⟨s1.blk,2,none⟩=some (.int .u64 s1.number):=(Mc.out.below (iK (Below.refl wF.heap.size wF).drew _)).cell 2
  have u3c:(wF.drew.alloc (.cells #[.int .u64 0,.int .u64 0,.int .u64 0,.string ⟨#[]⟩] 137)).cell? ⟨w.heap.size,3,none⟩=some (.int .u64 p.number):=(JE.out.below (iK (Below.refl wF.heap.size wF).drew _)).cell 3
  have u7c:(wF.drew.alloc (.cells #[.int .u64 0,.int .u64 0,.int .u64 0,.string ⟨#[]⟩] 137)).cell? ⟨ib,7,none⟩=some (.string ab):=(HI4.out.below (iK (Below.refl wF.heap.size wF).drew _)).cell 7
  have nb0:(wF.alloc (.cells #[.int .u64 0,.int .u64 0,.int .u64 0,.string ⟨#[]⟩] 137)).cell? ⟨wF.heap.size,0,none⟩=some (.int .u64 0):=(show aK (wF.alloc (.cells #[.int .u64 0,.int .u64 0,.int .u64 0,.string ⟨#[]⟩] 137)) wF.heap.size 137 [.int .u64 0,.int .u64 0,.int .u64 0,.string ⟨#[]⟩] from heap_alloc_new wF _).cell 0
  have aok:=(show aK (wF.alloc (.cells #[.int .u64 0,.int .u64 0,.int .u64 0,.string ⟨#[]⟩] 137)) wF.heap.size 137 [.int .u64 0,.int .u64 0,.int .u64 0,.string ⟨#[]⟩] from heap_alloc_new wF _).frozen 0
  have nb1:(wF.alloc (.cells #[.int .u64 0,.int .u64 0,.int .u64 0,.string ⟨#[]⟩] 137)).cell? ⟨wF.heap.size,1,none⟩=some (.int .u64 0):=(show aK (wF.alloc (.cells #[.int .u64 0,.int .u64 0,.int .u64 0,.string ⟨#[]⟩] 137)) wF.heap.size 137 [.int .u64 0,.int .u64 0,.int .u64 0,.string ⟨#[]⟩] from heap_alloc_new wF _).cell 1
  have aol:=(show aK (wF.alloc (.cells #[.int .u64 0,.int .u64 0,.int .u64 0,.string ⟨#[]⟩] 137)) wF.heap.size 137 [.int .u64 0,.int .u64 0,.int .u64 0,.string ⟨#[]⟩] from heap_alloc_new wF _).frozen 1
  have nb2:(wF.alloc (.cells #[.int .u64 0,.int .u64 0,.int .u64 0,.string ⟨#[]⟩] 137)).cell? ⟨wF.heap.size,2,none⟩=some (.int .u64 0):=(show aK (wF.alloc (.cells #[.int .u64 0,.int .u64 0,.int .u64 0,.string ⟨#[]⟩] 137)) wF.heap.size 137 [.int .u64 0,.int .u64 0,.int .u64 0,.string ⟨#[]⟩] from heap_alloc_new wF _).cell 2
  have aom:=(show aK (wF.alloc (.cells #[.int .u64 0,.int .u64 0,.int .u64 0,.string ⟨#[]⟩] 137)) wF.heap.size 137 [.int .u64 0,.int .u64 0,.int .u64 0,.string ⟨#[]⟩] from heap_alloc_new wF _).frozen 2
  have nb3:(wF.alloc (.cells #[.int .u64 0,.int .u64 0,.int .u64 0,.string ⟨#[]⟩] 137)).cell? ⟨wF.heap.size,3,none⟩=some (.string ⟨#[]⟩):=(show aK (wF.alloc (.cells #[.int .u64 0,.int .u64 0,.int .u64 0,.string ⟨#[]⟩] 137)) wF.heap.size 137 [.int .u64 0,.int .u64 0,.int .u64 0,.string ⟨#[]⟩] from heap_alloc_new wF _).cell 3
  have aon:=(show aK (wF.alloc (.cells #[.int .u64 0,.int .u64 0,.int .u64 0,.string ⟨#[]⟩] 137)) wF.heap.size 137 [.int .u64 0,.int .u64 0,.int .u64 0,.string ⟨#[]⟩] from heap_alloc_new wF _).frozen 3
  have nc0:(wF.drew.alloc (.cells #[.int .u64 0,.int .u64 0,.int .u64 0,.string ⟨#[]⟩] 137)).cell? ⟨wF.heap.size,0,none⟩=some (.int .u64 0):=(show aK (wF.drew.alloc (.cells #[.int .u64 0,.int .u64 0,.int .u64 0,.string ⟨#[]⟩] 137)) wF.heap.size 137 [.int .u64 0,.int .u64 0,.int .u64 0,.string ⟨#[]⟩] from heap_alloc_new wF.drew _).cell 0
  have aoo:=(show aK (wF.drew.alloc (.cells #[.int .u64 0,.int .u64 0,.int .u64 0,.string ⟨#[]⟩] 137)) wF.heap.size 137 [.int .u64 0,.int .u64 0,.int .u64 0,.string ⟨#[]⟩] from heap_alloc_new wF.drew _).frozen 0
  have nc1:(wF.drew.alloc (.cells #[.int .u64 0,.int .u64 0,.int .u64 0,.string ⟨#[]⟩] 137)).cell? ⟨wF.heap.size,1,none⟩=some (.int .u64 0):=(show aK (wF.drew.alloc (.cells #[.int .u64 0,.int .u64 0,.int .u64 0,.string ⟨#[]⟩] 137)) wF.heap.size 137 [.int .u64 0,.int .u64 0,.int .u64 0,.string ⟨#[]⟩] from heap_alloc_new wF.drew _).cell 1
  have aop:=(show aK (wF.drew.alloc (.cells #[.int .u64 0,.int .u64 0,.int .u64 0,.string ⟨#[]⟩] 137)) wF.heap.size 137 [.int .u64 0,.int .u64 0,.int .u64 0,.string ⟨#[]⟩] from heap_alloc_new wF.drew _).frozen 1
  have nc2:(wF.drew.alloc (.cells #[.int .u64 0,.int .u64 0,.int .u64 0,.string ⟨#[]⟩] 137)).cell? ⟨wF.heap.size,2,none⟩=some (.int .u64 0):=(show aK (wF.drew.alloc (.cells #[.int .u64 0,.int .u64 0,.int .u64 0,.string ⟨#[]⟩] 137)) wF.heap.size 137 [.int .u64 0,.int .u64 0,.int .u64 0,.string ⟨#[]⟩] from heap_alloc_new wF.drew _).cell 2
  have aoq:=(show aK (wF.drew.alloc (.cells #[.int .u64 0,.int .u64 0,.int .u64 0,.string ⟨#[]⟩] 137)) wF.heap.size 137 [.int .u64 0,.int .u64 0,.int .u64 0,.string ⟨#[]⟩] from heap_alloc_new wF.drew _).frozen 2
  have nc3:(wF.drew.alloc (.cells #[.int .u64 0,.int .u64 0,.int .u64 0,.string ⟨#[]⟩] 137)).cell? ⟨wF.heap.size,3,none⟩=some (.string ⟨#[]⟩):=(show aK (wF.drew.alloc (.cells #[.int .u64 0,.int .u64 0,.int .u64 0,.string ⟨#[]⟩] 137)) wF.heap.size 137 [.int .u64 0,.int .u64 0,.int .u64 0,.string ⟨#[]⟩] from heap_alloc_new wF.drew _).cell 3
  have aor:=(show aK (wF.drew.alloc (.cells #[.int .u64 0,.int .u64 0,.int .u64 0,.string ⟨#[]⟩] 137)) wF.heap.size 137 [.int .u64 0,.int .u64 0,.int .u64 0,.string ⟨#[]⟩] from heap_alloc_new wF.drew _).frozen 3
  go_wp2_with fail
  go_cut [12] (fun s12 wx=>∃ eb:Nat,s12=.pointer (some ⟨eb,0,none⟩)∧Hid (Below wF.heap.size wF wx)∧Hid (aK wx eb 137 [.int .u64 s1.token,.int .u64 s1.number,.int .u64 p.number,.string ab]))
  case first=>
   go_region
   all_goals
    go_wp2_with fail
    go_meet
    case rel=>
     refine⟨wF.heap.size,rfl,?_,?_⟩
     ·exact hid (iK (Below.refl wF.heap.size wF) _).drew
     ·exact hid (aK.drew (heap_alloc_new wF _))
  case rest=>
  obtain⟨eb,rfl,HbX,HBE⟩:=hcut
  obtain⟨wE,hwE⟩:∃ wE,wE=wc:=⟨_,rfl⟩
  subst hwE
  have HbE:=hid (Hb4.out.trans (HbX.out.mono Hb4.out.size))
  have HGE:=hid (HGI.out.below HbE.out)
  have HIE:=hid (HBY.out.below HbE.out)
  have aja:lo≤wE.heap.size:=Nat.le_trans hlo1 (Nat.le_trans Rt.out.size HbE.out.size)
  obtain⟨qa,qc,hqv⟩:=HGE.out.rw.slice
  have v0:wE.cell? ⟨eb,0,none⟩=some (.int .u64 s1.token):=HBE.out.cell 0
  have v1:wE.cell? ⟨eb,1,none⟩=some (.int .u64 s1.number):=HBE.out.cell 1
  have v2:wE.cell? ⟨eb,2,none⟩=some (.int .u64 p.number):=HBE.out.cell 2
  have v3:wE.cell? ⟨eb,3,none⟩=some (.string ab):=HBE.out.cell 3
  have v13:wE.cell? ⟨g1.b,13,none⟩=some (.slice qa g1.waits.length qc):=(show wE.cell? ⟨g1.b,13,none⟩=some g1.wv from HGE.out.blk.cell 13).trans (by rw[hqv])
  have vi1:wE.cell? ⟨ib,1,none⟩=some (.string nt):=HIE.out.cell 1
  have hbN:=(iK (Below.refl wE.heap.size wE) (.cells #[.string nt,.string t,.int .u64 s1.token,.int .u64 s1.number,.int .u64 p.number,.string ab] 139)).drew
  have hWL:g1.waits.length≤1000000:=by have:=HWL.out;rw[HW1.out] at this;exact this
  obtain⟨a',c',w7,RU,Tz,hf7,OX⟩:=(HGE.out.below hbN).appW (Nat.le_trans aja hbN.size) hWL (nb:=wE.heap.size) (x:=⟨nt,t,⟨s1.token,s1.number,p.number,ab⟩⟩) (aK.drew (heap_alloc_new wE _)) hqv
  have n13:(wE.alloc (.cells #[.string nt,.string t,.int .u64 s1.token,.int .u64 s1.number,.int .u64 p.number,.string ab] 139)).drew.cell? ⟨g1.b,13,none⟩=some (.slice qa g1.waits.length qc):=(show _=some g1.wv from(HGE.out.below hbN).blk.cell 13).trans (by rw[hqv])
  have HR7:=hid RU
  have Xv:=hid OX
  have HbN:=hid hbN
  have aou:wE.drew.cell? ⟨g1.b,13,none⟩=some (.slice qa g1.waits.length qc):=v13
  clear hqv hbN RU OX
  go_wp2_with fail
  go_region_law (refine fQ rfl (.tmp 71) (.tmp 78) 102 rfl _ _ rfl rfl _ w7 HR7.out ?_)
  all_goals
   go_wp2_with fail
   go_end0
   have hbig:=Rt.out.trans ((HbE.out.trans (HbN.out.mono HbE.out.size)).mono Rt.out.size)
   exact⟨rfl,_,by rw[HC.out _ BP.out,HNT.out,← H1.out.st];exact((H1.out.same.before Hb0.out).below hbig).trans Xv.out⟩
end Go.Proofs.YtolfcabodiphmaaGreatDoor
