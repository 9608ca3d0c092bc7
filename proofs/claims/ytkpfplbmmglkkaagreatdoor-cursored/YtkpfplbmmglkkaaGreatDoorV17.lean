/- Package payloads: Read of what Write wrote. -/
import Derived.Test.YtkpfplbmmglkkaaGreatDoorV14
import Derived.Test.YtkpfplbmmglkkaaGreatDoorV16
import Derived.Test.YtkpfplbmmglkkaaGreatDoorV02
set_option linter.all false
set_option maxHeartbeats 8000000
set_option maxRecDepth 100000
namespace Go.Proofs.YtkpfplbmmglkkaaGreatDoor
open Go.Proofs.Tryz
variable {p:aS}{B b lo:Nat}{w w':World}
open Go.RowKit Go.Conc
def fK(p:aS):Nat→List UInt8
 | 0=>p.data.toList
 | j+1=>eV (uE p (3-j))++fK p j
theorem vZ(p:aS):bO p=p.kind.toUInt8::fK p 4:=by
 simp[bO,px,fK,uE]
def wg(p:aS)(k:Nat):List Value:=[.int .u8 p.kind,.int .u64 (if 0<k then p.ah else 0),.int .u64 (if 1<k then p.ag else 0),.int .u64 (if 2<k then p.number else 0),.int .u64 (if 3<k then p.ai else 0),.string ⟨#[]⟩]
theorem K4(p:aS)(k:Nat)(hk:k<4):(wg p k).set (k+1) (vU (uE p k:Nat))=wg p (k+1):=by
 have:k=0∨k=1∨k=2∨k=3:=by omega
 rcases this with rfl | rfl | rfl | rfl<;>rfl
theorem Dw(h:lH p)(hd:p.data.size≤900):∀ j,(fK p j).length≤900+10*j
 | 0=>by rw[fK,aO];omega
 | j+1=>by
  have:=Dw h hd j;have:=oI (uE p (3-j)) (h.at _);simp only[fK,List.length_append];omega
theorem om.nO{v:Value}{L:List UInt8}(h:om w v L)(hb:Below B w w')(hl:∀ k,v.ownBlock=some k→k<B):om w' v L:=⟨h.1.same hb (fun k hk _=>hl k hk),h.2⟩
theorem Ib(w:World)(o1 o2:Obj):Below w.heap.size w ((w.alloc o1).alloc o2):=by
 have h1:Below w.heap.size w (w.alloc o1):=(Below.refl _ _).alloc (Nat.le_refl _) _;exact h1.alloc h1.size o2
theorem Ta(w:World)(o1 o2:Obj):((w.alloc o1).alloc o2).heap[w.heap.size]? = (w.alloc o1).heap[w.heap.size]? :=
 ((Below.refl _ (w.alloc o1)).alloc (Nat.le_refl _) o2).block _ (by simp)
theorem Tb(w:World)(o1 o2:Obj):((w.alloc o1).alloc o2).heap[w.heap.size+1]? = some o2:=by
 have:=heap_alloc_new (w.alloc o1) o2;simpa using this
theorem Pw(p:aS)(j:Nat):0<(fK p (j+1)).length:=by
 rw[fK,List.length_append];have:0<(eV (uE p (3-j))).length:=by unfold eV eVK;split;simp;split<;>simp
 omega
theorem K5(h:lH p)(k g:Nat)(hk:k+(g+1)=4):dB (fK p (g+1))=some (uE p k,fK p g):=by
 rw[fK,show 3-g=k by omega];exact KW _ (h.at k) _
theorem je{w0:World}(h:Below w.heap.size w w0)(hb:w.heap.size≤b)(v0 v1 v2 v3 v4 v5:Value):Below w.heap.size w ((((((w0.setCell (aj b 0) v0).setCell (aj b 1) v1).setCell (aj b 2) v2).setCell (aj b 3) v3).setCell (aj b 4) v4).setCell (aj b 5) v5) :=
 (((((h.setCell (p:=(aj b 0)) hb v0).setCell (p:=(aj b 1)) hb v1).setCell (p:=(aj b 2)) hb v2).setCell (p:=(aj b 3)) hb v3).setCell (p:=(aj b 4)) hb v4).setCell (p:=(aj b 5)) hb v5
theorem oS{T:TypeId}{u0 u1 u2 u3 u4 u5:Value}(h:aZ w b T [u0,u1,u2,u3,u4,u5])(v0 v1 v2 v3 v4 v5:Value):aZ ((((((w.setCell (aj b 0) v0).setCell (aj b 1) v1).setCell (aj b 2) v2).setCell (aj b 3) v3).setCell (aj b 4) v4).setCell (aj b 5) v5) b T [v0,v1,v2,v3,v4,v5]:=(((((h.set 0 v0).set 1 v1).set 2 v2).set 3 v3).set 4 v4).set 5 v5
theorem WD(w:World)(p:aS)(hp:lH p)(hd9:p.data.size≤900)(v:Value)(h:om w v (bO p))(BM:∀ k,v.ownBlock=some k→k<w.heap.size):
  aT 197 #[v] w (fun e w'=>e=.returned (.tuple #[lQ p,.bool true])∧Below w.heap.size w w'):=by
 obtain⟨hR,a,c,rfl,hc⟩:=h;have HP:=U hp;have HT0:=U (Dw hp hd9);have KE:(bO p).length=(fK p 4).length+1:=by rw[vZ];rfl
 obtain⟨b,o,c',hv,zA,aK⟩:=hR.at (by omega);obtain⟨rfl,rfl⟩:a=some ⟨b,o,none⟩∧c=c':=by simpa using hv
 have hk8:(p.kind.toUInt8.toNat:Int)=p.kind:=by rw[show p.kind.toUInt8.toNat=p.kind by simp[Nat.toUInt8,UInt8.toNat_ofNat'];have:=hp.k;omega]
 have hc0:w.cell? ⟨b,o,none⟩=some (vB p.kind):=by
  have:=aK 0 (by omega);have e:(bO p)[0]'(by omega)=p.kind.toUInt8:=by simp[vZ]
  rw[e,hk8] at this;simpa using this
 have cj:Below w.heap.size w (w.alloc (.cells #[vB 0,vU 0,vU 0,vU 0,vU 0,.string ⟨#[]⟩] 125)):=(Below.refl _ _).alloc (Nat.le_refl _) _;have rh:aZ (w.alloc (.cells #[vB 0,vU 0,vU 0,vU 0,vU 0,.string ⟨#[]⟩] 125)) w.heap.size 125 [vB 0,vU 0,vU 0,vU 0,vU 0,.string ⟨#[]⟩]:=heap_alloc_new w _;have mF:(w.alloc (.cells #[vB 0,vU 0,vU 0,vU 0,vU 0,.string ⟨#[]⟩] 125)).heap.size=w.heap.size+1:=by simp
 obtain⟨w0,nF⟩:∃ w0,w.alloc (.cells #[vB 0,vU 0,vU 0,vU 0,vU 0,.string ⟨#[]⟩] 125)=w0:=⟨_,rfl⟩
 rw[nF] at cj rh mF;have jk:w0.cell? ⟨b,o,none⟩=some (vB p.kind):=(cj.cell (p:=⟨b,o,none⟩) zA).trans hc0;have CK:((fK p 4).length+1:Int)≠0:=by omega
 have HRT:=U (show Rd w (.slice (some ⟨b,o+1,none⟩) (fK p 4).length (c-1)) (fK p 4) by
  have:=Rd.CN aK 1 (fK p 4).length (c-1) (by omega);rw[vZ] at this
  simpa using this)
 have hW:Below w.heap.size w ((w0.alloc (.cells #[vB p.kind,vU 0,vU 0,vU 0,vU 0,.string ⟨#[]⟩] 125)).alloc (.cells #[.pointer (some ⟨w0.heap.size,1,none⟩),.pointer (some ⟨w0.heap.size,2,none⟩),.pointer (some ⟨w0.heap.size,3,none⟩),.pointer (some ⟨w0.heap.size,4,none⟩)] 318)):=cj.trans ((Ib w0 _ _).mono cj.size);have hBp:aZ ((w0.alloc (.cells #[vB p.kind,vU 0,vU 0,vU 0,vU 0,.string ⟨#[]⟩] 125)).alloc (.cells #[.pointer (some ⟨w0.heap.size,1,none⟩),.pointer (some ⟨w0.heap.size,2,none⟩),.pointer (some ⟨w0.heap.size,3,none⟩),.pointer (some ⟨w0.heap.size,4,none⟩)] 318)) w0.heap.size 125 [vB p.kind,vU 0,vU 0,vU 0,vU 0,.string ⟨#[]⟩]:=(Ta w0 _ _).trans (heap_alloc_new w0 _);have hBs:aZ ((w0.alloc (.cells #[vB p.kind,vU 0,vU 0,vU 0,vU 0,.string ⟨#[]⟩] 125)).alloc (.cells #[.pointer (some ⟨w0.heap.size,1,none⟩),.pointer (some ⟨w0.heap.size,2,none⟩),.pointer (some ⟨w0.heap.size,3,none⟩),.pointer (some ⟨w0.heap.size,4,none⟩)] 318)) (w0.heap.size+1) 318 [.pointer (some ⟨w0.heap.size,1,none⟩),.pointer (some ⟨w0.heap.size,2,none⟩),.pointer (some ⟨w0.heap.size,3,none⟩),.pointer (some ⟨w0.heap.size,4,none⟩)]:=Tb w0 _ _;have hBr:aZ ((w0.alloc (.cells #[vB p.kind,vU 0,vU 0,vU 0,vU 0,.string ⟨#[]⟩] 125)).alloc (.cells #[.pointer (some ⟨w0.heap.size,1,none⟩),.pointer (some ⟨w0.heap.size,2,none⟩),.pointer (some ⟨w0.heap.size,3,none⟩),.pointer (some ⟨w0.heap.size,4,none⟩)] 318)) w.heap.size 125 [vB 0,vU 0,vU 0,vU 0,vU 0,.string ⟨#[]⟩]:=rh.below (Ib w0 _ _);have HW:=U hW;have HBp:=U hBp;have HBs:=U hBs;have HBr:=U hBr;have HBL:=U zA;have yR:(fK p 4).length+1≤c:=by omega
 have HC0:=U hc;obtain⟨TL,hTL⟩:∃ TL,(fK p 4).length=TL:=⟨_,rfl⟩
 rw[KE,hTL];rw[hTL] at CK yR;have hTI:((TL:Int)+1==0)=false:=by simp;omega
 have QP:=U hTL;have atj:¬ c=1:=by have:=Pw p 3;rw[hTL] at this;omega
 have HZ0:=U mF
 have ZV:=U (show om w (.slice (some ⟨b,o+1,none⟩) TL (c-1)) (fK p 4) by
  have:=HRT.o
  refine⟨by rw[← hTL];exact this,_,_,by rw[hTL],by omega⟩)
 clear hW hBp hBs hBr aK hR hc hv BM rh cj hp hTL KE hk8 hc0 mF
 go_enter func197,ntmps197
 go_wp2_with fail
 go_loopg [5,6,8,25] 4 (fun gk dv okv tv i wr=>∃ k:Nat,k+gk=4∧i=.int .i64 k∧okv=.bool true∧Hid (om wr dv (fK p gk))∧Hid (∀ j,dv.ownBlock=some j→j<w.heap.size)∧Hid (aZ wr w0.heap.size 125 (wg p k))∧Hid (aZ wr (w0.heap.size+1) 318 [.pointer (some ⟨w0.heap.size,1,none⟩),.pointer (some ⟨w0.heap.size,2,none⟩),.pointer (some ⟨w0.heap.size,3,none⟩),.pointer (some ⟨w0.heap.size,4,none⟩)])∧Hid (aZ wr w.heap.size 125 [vB 0,vU 0,vU 0,vU 0,vU 0,.string ⟨#[]⟩])∧Below w.heap.size w wr)
 case atStart=>exact⟨0,by omega,rfl,rfl,U (ZV.o.nO HW.o (fun k hk=>by simp[Value.ownBlock] at hk;have:=HBL.o;omega)),U (fun k hk=>by simp[Value.ownBlock] at hk;have:=HBL.o;omega),HBp,HBs,HBr,HW.o⟩
 case round=>
  obtain⟨k,hk,rfl,rfl,HR,HO,HB,HS,HRr,bi⟩:=hrel;obtain⟨w3,iK⟩:∃ w3,w3=wr:=⟨_,rfl⟩
  subst iK;obtain⟨gk2,aaA⟩:∃ g,g=gk:=⟨_,rfl⟩
  subst aaA
  by_cases bC:k<4
  ·have JE:w3.cell? ⟨w0.heap.size+1,k,none⟩=some (.pointer (some ⟨w0.heap.size,k+1,none⟩)):=by
    rw[HS.o.cell];have:k=0∨k=1∨k=2∨k=3:=by omega
    rcases this with rfl | rfl | rfl | rfl<;>rfl
   have ej:(k:Int)<4:=by omega
   obtain⟨g1,rfl⟩:∃ g1,gk2=g1+1:=⟨gk2-1,by omega⟩
   have td:=U (K5 HP.o k g1 hk);have hlen:=HT0.o (g1+1)
   go_wp2_with fail
   refine(mT w3 _ (fK p (g1+1)) HR.o (by omega)).mono ?_;rintro e w4 ⟨n,a4,c4,R,ok,rfl,hn,hRd,hRl,hRo,iA,jt⟩;have hE:=td.o.symm.trans jt
   cases ok with
   | false=>simp at hE
   | true=>
    obtain⟨rfl,rfl⟩:n=uE p k∧R=fK p g1:=by
     have:=Option.some.inj hE;simp only[Prod.mk.injEq] at this;exact⟨this.1.symm,this.2.symm⟩
    have jR:=HB.o.below iA;have K6:=HS.o.below iA;have afN:=HRr.o.below iA;obtain⟨xv,hxv⟩:∃ xv,(wg p k)[k+1]? = some xv:=⟨_,List.getElem?_eq_getElem (by unfold wg;simp;omega)⟩
    have q1:w4.cell? ⟨w0.heap.size,k+1,none⟩=some xv:=(jR.cell (k+1)).trans hxv;have q2:=jR.aq (k+1);have xb:=bi.trans (iA.mono bi.size);have hz:=HZ0.o;obtain⟨N,HN⟩:∃ N,Hid (uE p k=N):=⟨_,U rfl⟩
    rw[HN.o];have Nc:Below w.heap.size w (w4.setCell ⟨w0.heap.size,k+1,none⟩ (vU N)):=xb.setCell (p:=⟨w0.heap.size,k+1,none⟩) (by show w.heap.size≤w0.heap.size;omega) _;have afO:Below w.heap.size w4 (w4.setCell ⟨w0.heap.size,k+1,none⟩ (vU N)):=(Below.refl _ _).setCell (p:=⟨w0.heap.size,k+1,none⟩) (by show w.heap.size≤w0.heap.size;omega) _;have HOO:=U (show ∀ j,(Value.slice a4 (fK p g1).length c4).ownBlock=some j→j<w.heap.size from fun j hj=>HO.o j (hRo j hj));have HRN:=U (hRd.nO afO HOO.o)
    have HBN:=U (show aZ (w4.setCell ⟨w0.heap.size,k+1,none⟩ (vU N)) w0.heap.size 125 (wg p (k+1)) by
     have:=jR.set (k+1) (vU N);rw[← HN.o,K4 p k bC] at this;rw[← HN.o]
     exact this)
    have BF:aQ (fun j=>j=w0.heap.size) w4 (w4.setCell ⟨w0.heap.size,k+1,none⟩ (vU N)):=(aQ.refl (fun j=>j=w0.heap.size) w4).setCell ⟨w0.heap.size,k+1,none⟩ _ (fun _=>rfl);have YR:=U (K6.dW BF (fun e=>by have:w0.heap.size+1=w0.heap.size:=e;omega));have alf:=U (afN.dW BF (fun e=>by have:w.heap.size=w0.heap.size:=e;omega));have HbN:=U Nc;generalize (fK p g1).length=M at *;clear hE jt hRd hRl hRo iA jR K6 afN xb Nc afO BF JE hz hn hxv
    go_wp2_with fail
    go_roundg g1
    case rel=>exact⟨k+1,by omega,by go_num,rfl,HRN,HOO,HBN,YR,alf,HbN.o⟩
    case measure=>omega
  ·obtain rfl:k=4:=by omega
   obtain rfl:gk2=0:=by omega
   have Cm:(convert 103 9 u5).run Tryz.prog w3=.ok (.string p.data) w3:=by
    have:=HR.o.1.conv;rw[show qd (fK p 0)=p.data by unfold qd fK;rw[ByteArray.toList_eq]] at this;exact this
   have yW:aZ (w3.setCell ⟨w0.heap.size,5,none⟩ (.string p.data)) w0.heap.size 125 [vB p.kind,vU p.ah,vU p.ag,vU p.number,vU p.ai,.string p.data]:=HB.o.set 5 _;have q5:=HB.o.ce 5 rfl;have f5:=HB.o.aq 5;have hz:=HZ0.o;have BF:aQ (fun j=>j=w0.heap.size) w3 (w3.setCell ⟨w0.heap.size,5,none⟩ (.string p.data)):=(aQ.refl (fun j=>j=w0.heap.size) w3).setCell ⟨w0.heap.size,5,none⟩ _ (fun _=>rfl);have Vk:=HRr.o.dW BF (fun e=>by have:w.heap.size=w0.heap.size:=e;omega);have iC:Below w.heap.size w (w3.setCell ⟨w0.heap.size,5,none⟩ (.string p.data)):=bi.setCell (p:=⟨w0.heap.size,5,none⟩) (by show w.heap.size≤w0.heap.size;omega) _;obtain⟨w5,Gt⟩:∃ w5,w3.setCell ⟨w0.heap.size,5,none⟩ (.string p.data)=w5:=⟨_,rfl⟩
   rw[Gt] at yW Vk iC;obtain⟨p0,p1,p2,p3,p4,p5⟩:=yW.c6;obtain⟨r0,r1,r2,r3,r4,r5⟩:=Vk.c6;have g0:=Vk.aq 0;have g1:=Vk.aq 1;have g2:=Vk.aq 2;have g3:=Vk.aq 3;have g4:=Vk.aq 4;have g5:=Vk.aq 5;have Cs:=U (lX _ _ _ _ _ _ _ _ (oS Vk (vB p.kind) (vU p.ah) (vU p.ag) (vU p.number) (vU p.ai) (.string p.data)));have K7:=U (je iC (Nat.le_refl _) (vB p.kind) (vU p.ah) (vU p.ag) (vU p.number) (vU p.ai) (.string p.data));clear yW Vk iC BF hz
   go_wp2_with fail
   (try simp only[Exit.inBlock,Exit.then])
   refine⟨rfl,.tuple #[lQ p,.bool true],?_,rfl,K7.o⟩;rw[results_cell_tmp rfl];have:=Cs.o;simp[asAddr,this]
theorem below_drewN{a:World}(h:Below B a w)(n:Nat):Below B a (w.drewN n):=⟨h.os,h.tape,h.output,h.size,h.block⟩
theorem yX{g:CG}(h:eH lo w g)(p:aS):
  aT 230 #[aM g.b,lQ p] w (fun e w'=>e=.returned (.bool (g.st.fO p))∧Below w.heap.size w w'):=by
 obtain⟨w0,eM,aN,aD⟩:=eK w p;obtain⟨e0,e1,e2,e3,e4,e5⟩:=aD.c6;have hL:=(h.below aN).ap;have d9:=hL.ce 9 rfl;have d11:=hL.ce 11 rfl;have HO:Hid (g.st.fO p=(decide (g.ag≠0)&&(decide (p.ah=g.ah)&&decide (p.ag=g.ag)))):=rfl;rw[HO.o];clear h hL aD HO
 by_cases hs:g.ag=0
 case' pos=>
  have b1:((g.ag:Int) != 0)=false:=by simp[hs]
  have e1:decide (g.ag≠0)=false:=by simp[hs]
  rw[e1,Bool.false_and];clear hs e1
 case' neg=>
  have b1:((g.ag:Int) != 0)=true:=by simp;omega
  have e1:decide (g.ag≠0)=true:=by simp[hs]
  rw[e1,Bool.true_and];clear hs e1
  by_cases ht:p.ah=g.ah
  case' pos=>
   have b2:((p.ah:Int)==g.ah)=true:=by simp[ht]
   have e2:decide (p.ah=g.ah)=true:=by simp[ht]
   have e3:decide (p.ag=g.ag)=((p.ag:Int)==g.ag):=by
    by_cases h:p.ag=g.ag
    ·simp[h]
    ·simp[h];omega
   rw[e2,Bool.true_and,e3];clear ht e2 e3
  case' neg=>
   have b2:((p.ah:Int)==g.ah)=false:=by simp;omega
   have e2:decide (p.ah=g.ah)=false:=by simp[ht]
   rw[e2,Bool.false_and];clear ht e2
 all_goals
  go_enter func230,ntmps230
  go_wp2_with fail
  go_quiet (fail)
  go_wp2_with fail
  go_ret
  exact⟨rfl,below_drewN aN _⟩
theorem afP{g:CG}(h:eH lo w g)(p:aS)(hs:g.ag=0):
  aT 80 #[aM g.b,lQ p] w (fun e w'=>e=.returned (.tuple #[])∧Below w.heap.size w w'):=by
 obtain⟨w0,eM,aN,aD⟩:=eK w p;obtain⟨e0,e1,e2,e3,e4,e5⟩:=aD.c6;have hL:=(h.below aN).ap;have d11:=hL.ce 11 rfl;have b1:((g.ag:Int) != 0)=false:=by simp[hs]
 clear h hL aD hs
 go_enter func80,ntmps80
 go_wp2_with fail
 go_end0
 exact⟨rfl,aN⟩
theorem Y4{g:CG}(h:eH lo w g)(p:aS)(hs:g.ag≠0):
  aT 80 #[aM g.b,lQ p] w (fun e w'=>e=.returned (.tuple #[])∧fW lo w g (g.st.post (g.st.nf p)) w' { g with L:=bo g.up g.L (g.st.nf p) } ∧ aQ (fun k=>k=g.q∨k=g.m) w w'):=by
 obtain⟨w0,eM,aN,aD⟩:=eK w p;obtain⟨e0,e1,e2,e3,e4,e5⟩:=aD.c6;have Rj:=aD.aq 0;have U3:=aD.aq 1;have U4:=aD.aq 2;have ZL:=aD.aq 3;have ZM:=aD.aq 4;have ZN:=aD.aq 5;have h0:=h.below aN;have d9:=h0.ap.ce 9 rfl;have d11:=h0.ap.ce 11 rfl;have b1:((g.ag:Int) != 0)=true:=by simp;omega
 have bC:=h.ap.lt;have bT:g.b≠w.heap.size:=by omega
 have H:=U h;have HBw:=U aD;have VE:=U aN;clear h h0 aD aN hs
 go_enter func80,ntmps80
 go_wp2_with fail
 go_region
 all_goals
  have cz:=((HBw.o.set 1 (vU g.ah)).set 2 (vU g.ag)).drew;have aW:=((VE.o.setCell (p:=(aj w.heap.size 1)) (Nat.le_refl _) (vU g.ah)).setCell (p:=(aj w.heap.size 2)) (Nat.le_refl _) (vU g.ag)).drew;obtain⟨w2,dX⟩:∃ w2,((w0.setCell (aj w.heap.size 1) (vU g.ah)).setCell (aj w.heap.size 2) (vU g.ag)).drew=w2:=⟨_,rfl⟩
  rw[dX] at cz aW ⊢;obtain⟨r0,r1,r2,r3,r4,r5⟩:=cz.c6;have H2:=U (H.o.below aW);have Dx:=U aW;clear dX cz aW e0 e1 e2 e3 e4 e5 Rj U3 U4 ZL ZM ZN d9 d11 eM
  go_wp2_with fail
  go_region_with (go_at_call 106;refine(H2.o.drew.post (g.st.nf p)).mono ?_;rintro e w3 ⟨rfl,h3,h4⟩;have H3:=U h3;have H4:=U h4;clear h3 h4)
  all_goals
   go_wp2_with fail
   go_end0
   exact⟨rfl,H3.o.bz Dx.o.drew,(aQ.aI Dx.o.drew).same H4.o⟩
def Ic(g:CG)(k:Nat):List aS:=((g.aB.take k).map g.st.nf).foldl (bo g.up) (bo g.up g.L (aw 1 g.ah g.ag 0 0))
theorem Px(g:CG){k:Nat}(hk:k<g.aB.length):Ic g (k+1)=bo g.up (Ic g k) (g.st.nf g.aB[k]):=by
 unfold Ic;rw[List.take_add_one,List.getElem?_eq_getElem hk];simp only[Option.toList_some,List.map_append,List.map_cons,List.map_nil,List.foldl_append,List.foldl_cons,List.foldl_nil]
theorem Tc(g:CG)(hs:g.ag≠0){k:Nat}(hk:g.aB.length≤k):({ g.st with L:=Ic g k }:CP)=g.st.dI:=by
 unfold CP.dI Ic;rw[if_neg (show ¬ g.st.ag=0 from hs),List.take_of_length_le hk];rfl
theorem uJ:∀ (l:List aS) (k j:Nat) (v:Value) (hk:k<l.length),(pc l[k])[j]? = some v→j<6→(dj l)[k*6+j]? = some v
 | [],k,_,_,hk,_,_=>by simp at hk
 | p::r,0,j,v,_,h,hj=>by
  show ((pc p).toList++dj r)[0*6+j]? = some v;rw[List.getElem?_append_left (by simp[pc];omega)];simpa using h
 | p::r,k+1,j,v,hk,h,hj=>by
  show ((pc p).toList++dj r)[(k+1)*6+j]? = some v;rw[List.getElem?_append_right (by simp[pc];omega)];have:=uJ r k j v (by simpa using hk) (by simpa using h) hj;rw[← this]
  congr 1
  simp[pc];omega
theorem eH.WE{g:CG}(h:eH lo w g){k:Nat}(hk:k<g.aB.length):∃ ga c,g.av=.slice (some (aj ga 0)) g.aB.length c∧ga<w.heap.size∧∀ j v,(pc g.aB[k])[j]? = some v→w.cell? ⟨ga,k*6+j,none⟩=some v:=by
 have ho:w.ownsRow lo 125 6 g.av g.aB.length (dj g.aB):=h.dR.own h.ra (fun p hp=>by unfold CG.aF CG.rest;simp only[List.mem_append];exact Or.inr (Or.inr (Or.inl hp)))
 rcases ho.2 with⟨_,e⟩ | ⟨ga,c,cur,hv,r⟩
 ·omega
 ·refine⟨ga,c,hv,(ho.lt ga (by rw[hv];rfl)).2,fun j v hj=>?_⟩
  have hj6:j<6:=by
   rcases Nat.lt_or_ge j 6 with h | h
   ·exact h
   ·rw[Array.getElem?_eq_none (by simp[pc];omega)] at hj;cases hj
  have:=ho.cells (g:=ga) (by rw[hv];rfl) (k*6+j) v (uJ _ k j v hk hj hj6);rw[dF _ _ rfl] at this;simpa using this
theorem WH{g:CG}(h:eH lo w g)(hs:g.ag=0):
  aT 82 #[aM g.b] w (fun e w'=>e=.returned (.tuple #[])∧∃ g',fW lo w g g.st.dI w' g'):=by
 have d9:=h.ap.ce 9 rfl;have d10:=h.ap.ce 10 rfl;have d11:w.cell? (aj g.b 11)=some (vU 0):=(show w.cell? (aj g.b 11)=some (vU g.ag) from h.ap.cell 11).trans (by rw[hs];rfl);have HS:=U (show g.st.dI=g.st.post (aw 0 g.ah 0 g.bI 0) by unfold CP.dI;rw[if_pos (show g.st.ag=0 from hs)];rfl);have H:=U h;clear h hs
 go_enter func82,ntmps82
 go_wp2_with fail
 go_region_with (go_at_call 106;refine(H.o.drew.post (aw 0 g.ah 0 g.bI 0)).mono ?_;rintro e w1 ⟨rfl,h1,_⟩;have H1:=U h1;clear h1)
 all_goals
  go_wp2_with fail
  (try simp only[Exit.inBlock,Exit.then]);refine bodyPost_ret (results_none rfl _ _ _) rfl ?_
  exact⟨rfl,_,by rw[HS.o];exact H1.o.bz (Below.refl _ _).drew⟩
theorem WI{g:CG}(h:eH lo w g)(hs:g.ag≠0)(ha:g.aB.length≤1000):
  aT 82 #[aM g.b] w (fun e w'=>e=.returned (.tuple #[])∧∃ g',fW lo w g g.st.dI w' g'):=by
 have d11:=h.ap.ce 11 rfl;have b1:((g.ag:Int)==0)=false:=by simp;omega
 obtain⟨aa,ac,kn⟩:=h.ra.slice;have WJ:=U kn;have H:=U h;clear kn;clear h
 go_enter func82,ntmps82
 go_wp2_with fail
 go_region_with (first | (go_at_call 118;refine(zM (w:=w.drew) H.o.drew 1 0).mono ?_;rintro e w1 ⟨rfl,aA⟩) | (go_at_call 106;refine((H.o.drew.below aA).post (aw 1 g.ah g.ag 0 0)).mono ?_;rintro e w2 ⟨rfl,h2,_⟩;have H2:=U h2;clear h2))
 have d13:w2.cell? (aj g.b 13)=some (.slice aa g.aB.length ac):=(show w2.cell? (aj g.b 13)=some g.av from H2.o.dM.ap.cell 13).trans (by rw[WJ.o])
 go_wp2_with fail
 have cj:Below w.heap.size w w1:=(Below.refl _ w).drew.trans aA;have H3:=U (H2.o.bz cj);clear d13 aA cj H2
 go_loopg [3,33] g.aB.length (fun gk x i wr=>∃ k:Nat,k+gk=g.aB.length∧i=.int .i64 k∧Hid (fW lo w g { g.st with L:=Ic g k } wr { g with L:=Ic g k }))
 case atStart=>exact⟨0,by omega,rfl,H3⟩
 case round=>
  obtain⟨k,hk,rfl,HC⟩:=hrel
  by_cases bC:k<g.aB.length
  ·obtain⟨ga,c,kn,vH,aK⟩:=HC.o.dM.WE bC
   obtain⟨rfl,rfl⟩:aa=some (aj ga 0)∧ac=c:=by simpa using WJ.o.symm.trans kn
   have c0:wr.cell? ⟨ga,k*6,none⟩=some (.int .u8 g.aB[k].kind):=aK 0 _ rfl;have c1:wr.cell? ⟨ga,k*6+1,none⟩=some (.int .u64 g.aB[k].ah):=aK 1 _ rfl;have c2:wr.cell? ⟨ga,k*6+2,none⟩=some (.int .u64 g.aB[k].ag):=aK 2 _ rfl;have c3:wr.cell? ⟨ga,k*6+3,none⟩=some (.int .u64 g.aB[k].number):=aK 3 _ rfl;have c4:wr.cell? ⟨ga,k*6+4,none⟩=some (.int .u64 g.aB[k].ai):=aK 4 _ rfl;have c5:wr.cell? ⟨ga,k*6+5,none⟩=some (.string g.aB[k].data):=aK 5 _ rfl;have ej:(k:Int)<(g.aB.length:Int):=by omega
   have HN:=U (Px g bC);have HS':=U (show ({ g with L:=Ic g k }:CG).ag≠0 from hs);generalize g.aB[k]=p at *;clear kn aK
   go_wp2_with fail
   refine(Y4 (HC.o.dM.below ((Below.refl _ wr).alloc (Nat.le_refl _) _)) p HS'.o).mono ?_;rintro e w3 ⟨rfl,h3,_⟩;have H4:=U (HC.o.trans (h3.bz ((Below.refl _ wr).alloc (Nat.le_refl _) _)));clear h3
   go_wp2_with fail
   go_roundg (gk-1)
   case rel=>exact⟨k+1,by omega,by go_num,by rw[HN.o];exact H4⟩
   case measure=>omega
  ·have ej:¬ (k:Int)<(g.aB.length:Int):=by omega
   have HE:=U (Tc g hs (show g.aB.length≤k by omega))
   go_wp2_with fail
   go_end0
   exact⟨rfl,_,by rw[← HE.o];exact HC.o⟩
theorem E3{g:CG}(h:eH lo w g)(ha:g.aB.length≤1000):
  aT 82 #[aM g.b] w (fun e w'=>e=.returned (.tuple #[])∧∃ g',fW lo w g g.st.dI w' g'):=by
 by_cases hs:g.ag=0
 ·exact WH h hs
 ·exact WI h hs ha
def CG.Ie(g:CG):List fm:=cx 126 1 g.sv g.ae.length (g.ae.map (fun m=>aJ m.ap))++(g.ae.flatMap fh.aF++(cx 213 1 g.cv g.aU.length (g.aU.map (fun m=>aJ m.ap))++g.aU.flatMap Ge.aF))
def CG.jq(g:CG):List fm:=cx 125 6 g.av g.aB.length (dj g.aB)
theorem CG.Nd(g:CG):g.rest=g.jq++g.Ie:=rfl
theorem eH.aB{g:CG}(h:eH lo w g):w.ownsRow lo 125 6 g.av g.aB.length (dj g.aB) :=
 h.dR.own h.ra (fun p hp=>by unfold CG.aF CG.rest;simp only[List.mem_append];exact Or.inr (Or.inr (Or.inl hp)))
theorem eH.Td{g g':CG}(h:eH lo w g)(hc:aQ (fun k=>k=g.b∨g.av.ownBlock=some k) w w')(hB:aZ w' g.b 99 g'.cells)(hA:w'.ownsRow lo 125 6 g'.av g'.aB.length (dj g'.aB))(iZ:∀ k,g'.av.ownBlock=some k→g.av.ownBlock=some k∨w.heap.size≤k)
  (hb:g'.b=g.b) (hq:g'.bq=g.bq) (hr:g'.Ie=g.Ie) (hi:g'.iv=g.iv) (hf:g'.W=g.W∧g'.D=g.D∧g'.R=g.R)
  (rs:du 1 g'.sv g'.ae.length (g'.ae.map (fun m=>aJ m.ap))) (rc:du 1 g'.cv g'.aU.length (g'.aU.map (fun m=>aJ m.ap))) (rv:∀ m∈g'.ae,du 1 m.vv m.s.ak.length (ck m.s.ak)):fW lo w g g'.st w' g':=by
 obtain⟨yY,mr⟩:=fQ hA (by decide)
 have hh:cE lo w' (g'.bB++g'.jq):=ay.2 ⟨by unfold CG.bB;rw[hb];exact ct h.MB hB (by decide),yY,fun a ha c fZ e=>by
  rw[List.mem_singleton.1 ha] at e;have hk:=(be (e:=125) mr).1 ⟨c,fZ,rfl⟩;have e':g.b=c.1:=by rw[← hb];exact e
  rw[← e'] at hk
  exact hB.bY hA (by decide) hk⟩
 have hg:cM w (g.bB++g.jq) w' (g'.bB++g'.jq):=⟨hc.mono (fun i _ hi=>by
  rcases hi with rfl | hi
  ·exact aL.bM.2 (Or.inl (aL.one.2 rfl))
  ·exact aL.bM.2 (Or.inr ((be h.ra).2 hi))),fun k hk=>by
  rcases aL.bM.1 hk with e | e
  ·exact Or.inl (aL.bM.2 (Or.inl (aL.one.2 ((aL.one.1 e).trans hb))))
  ·rcases iZ k ((be mr).1 e) with e | e
   ·exact Or.inl (aL.bM.2 (Or.inr ((be h.ra).2 e)))
   ·exact Or.inr e⟩
 have p1:g.aF.Perm ((g.bB++g.jq)++(g.bq++g.Ie)):=bF (fun p=>by unfold CG.aF;rw[CG.Nd];simp only[aP];omega);have p2:((g'.bB++g'.jq)++(g.bq++g.Ie)).Perm g'.aF:=bF (fun p=>by unfold CG.aF;rw[CG.Nd,hq,hr];simp only[aP];omega);exact⟨⟨((h.dR.bZ p1).dE hh hg).bZ p2,mr,rs,rc,rv⟩,rfl,hg.dE.bZ p1.symm p2,hb,hi,hf⟩
theorem Te{gb:Nat}{g:CG}{q:aS}{n:Nat}{R:Ending→World→Prop}(hb:g.b=gb)(hq:q = { p with number:=n })(h:aT 80 #[aM g.b,lQ q] w R):
  aT 80 #[aM gb,.agg #[vB p.kind,vU p.ah,vU p.ag,vU n,vU p.ai,.string p.data]] w R:=by
 subst hb hq;exact h
theorem K8(l:List aS)(p:aS):dj (l++[p])=dj l++(pc p).toList:=by unfold dj;simp
theorem Tg{g:CG}(h:eH lo w g)(di:lo≤w.heap.size)(ha:g.aB.length≤1000)(hn:g.next≤1000000000000)(p:aS):
  aT 53 #[aM g.b,lQ p] w (fun e w'=>e=.returned (vU g.next)∧∃ g',fW lo w g (g.st.aR p) w' g'):=by
 have bC:=h.ap.lt;obtain⟨w0,eM,aN,aD⟩:=eK w p;obtain⟨e0,e1,e2,e3,e4,e5⟩:=aD.c6;have Rj:=aD.aq 0;have U3:=aD.aq 1;have U4:=aD.aq 2;have ZL:=aD.aq 3;have ZM:=aD.aq 4;have ZN:=aD.aq 5;have h0:=h.below aN;have mF:w0.heap.size=w.heap.size+1:=by rw[← eM];simp
 have d14:=h0.ap.ce 14 rfl;have JC:g.b≠w.heap.size:=by omega
 -- the number
 have hP1:aZ (w0.setCell (aj w.heap.size 3) (vU g.next)) w.heap.size 125 [vB p.kind,vU p.ah,vU p.ag,vU g.next,vU p.ai,.string p.data]:=aD.set 3 _;have aA:Below w.heap.size w (w0.setCell (aj w.heap.size 3) (vU g.next)):=aN.setCell (p:=(aj w.heap.size 3)) (Nat.le_refl _) _;have ju:(w0.setCell (aj w.heap.size 3) (vU g.next)).heap.size=w.heap.size+1:=by simp[mF]
 obtain⟨w1,ee⟩:∃ w1,w0.setCell (aj w.heap.size 3) (vU g.next)=w1:=⟨_,rfl⟩
 rw[ee] at hP1 aA ju;have h1:=h.below aA;have e14:=h1.ap.ce 14 rfl;have g14:=h1.ap.aq 14;have cz:aZ (w1.setCell (aj g.b 14) (vU ((g.next:Int)+1))) g.b 99 ({ g with next:=g.next+1 }:CG).cells:=h1.ap.set 14 _;have jO:aQ (fun k=>k=g.b) w1 (w1.setCell (aj g.b 14) (vU ((g.next:Int)+1))):=(aQ.refl _ _).setCell _ _ (fun _=>rfl);have CE:=hP1.dW jO (fun e=>JC e.symm);have mr:=jO.own h1.aB (fun k hk e=>h1.ap.bY h1.aB (by decide) (e ▸ hk));have BY:(w1.setCell (aj g.b 14) (vU ((g.next:Int)+1))).heap.size=w.heap.size+1:=by simp[ju]
 obtain⟨w2,dX⟩:∃ w2,w1.setCell (aj g.b 14) (vU ((g.next:Int)+1))=w2:=⟨_,rfl⟩
 rw[dX] at cz jO CE mr BY;obtain⟨aa,ac,kn⟩:=h.ra.slice;have k13:w2.drew.cell? (aj g.b 13)=some (.slice aa g.aB.length ac):=(show w2.drew.cell? (aj g.b 13)=some g.av from cz.cell 13).trans (by rw[kn]);obtain⟨r0,r1,r2,r3,r4,r5⟩:=CE.c6;have bP:Below w2.heap.size w2 (w2.alloc (.cells #[vB p.kind,vU p.ah,vU p.ag,vU g.next,vU p.ai,.string p.data] 125)).drew:=((Below.refl _ _).alloc (Nat.le_refl _) _).drew;have R6:aZ (w2.alloc (.cells #[vB p.kind,vU p.ah,vU p.ag,vU g.next,vU p.ai,.string p.data] 125)).drew w2.heap.size 125 [vB p.kind,vU p.ah,vU p.ag,vU g.next,vU p.ai,.string p.data]:=aZ.drew (heap_alloc_new w2 _);have gz:=cz.below bP;have hA3:=aH mr (fun k hk=>bP.block k (mr.lt k hk).2);have v13:(w2.alloc (.cells #[vB p.kind,vU p.ah,vU p.ag,vU g.next,vU p.ai,.string p.data] 125)).drew.cell? (aj g.b 13)=some (.slice aa g.aB.length ac):=(show (w2.alloc (.cells #[vB p.kind,vU p.ah,vU p.ag,vU g.next,vU p.ai,.string p.data] 125)).drew.cell? (aj g.b 13)=some g.av from gz.cell 13).trans (by rw[kn]);have BD:(w2.alloc (.cells #[vB p.kind,vU p.ah,vU p.ag,vU g.next,vU p.ai,.string p.data] 125)).drew.heap.size=w.heap.size+2:=by show (w2.alloc _).heap.size=_;simp[BY]
 rw[kn] at hA3
 obtain⟨a',c',w4,hr,QX,pI⟩:=jH _ 95 95 125 _ 6 56 underlying95 Tryz.infoPay rfl (by decide) (.slice aa g.aB.length ac) g.aB.length (dj g.aB) lo hA3 (aj w2.heap.size 0) 1 1 [vB p.kind,vU p.ah,vU p.ag,vU g.next,vU p.ai,.string p.data] rfl (fun j u hu=>by
  rw[dF _ _ rfl];have:=R6.cell (0+j);rw[this]
  simpa using hu) (fun u hu=>by simp at hu;rcases hu with rfl | rfl | rfl | rfl | rfl | rfl<;>rfl) (by unfold maxLen;omega) (by omega) (by omega)
 have yw:∀ k,(Value.slice aa g.aB.length ac).ownBlock=some k→g.av.ownBlock=some k:=fun k hk=>by rw[kn];exact hk
 have jr:aQ (fun k=>g.av.ownBlock=some k) w2 w4:=(aQ.aI bP).same (aQ.mZ pI yw);have ol:=h1.ap.bY h1.aB (by decide);have jR:=cz.dW jr ol;have hP4:=CE.dW jr (fun e=>by have:=(h.aB.lt _ e).2;omega);have j13:w4.cell? (aj g.b 13)=some (.slice aa g.aB.length ac):=(show w4.cell? (aj g.b 13)=some g.av from jR.cell 13).trans (by rw[kn]);have l13:=jR.aq 13;obtain⟨N,hN⟩:∃ N,g.aB.length+1=N:=⟨_,rfl⟩
 obtain⟨q,hq⟩:∃ q:aS,q = { p with number:=g.next }:=⟨_,rfl⟩
 have yW:aZ (w4.setCell (aj g.b 13) (.slice a' (g.aB.length+1) c')) g.b 99 ({ g with next:=g.next+1,av:=.slice a' (g.aB.length+1) c',aB:=g.aB++[q] }:CG).cells:=jR.set 13 _;have vt:aQ (fun k=>k=g.b) w4 (w4.setCell (aj g.b 13) (.slice a' (g.aB.length+1) c')):=(aQ.refl _ _).setCell _ _ (fun _=>rfl)
 have iZ:∀ k,(Value.slice a' (g.aB.length+1) c').ownBlock=some k→g.av.ownBlock=some k∨w.heap.size≤k:=fun k hk=>by
  rcases pI.b k hk with e | e
  ·exact Or.inl (yw k e)
  ·exact Or.inr (by omega)
 have rP:(Value.slice a' (g.aB.length+1) c').ownBlock≠some g.b:=jR.bY QX (by decide);have WK:=vt.own QX (fun k hk e=>rP (e ▸ hk));have hP5:=hP4.dW vt (fun e=>JC e.symm);have FV:aQ (fun k=>k=g.b∨g.av.ownBlock=some k) w (w4.setCell (aj g.b 13) (.slice a' (g.aB.length+1) c')):=(aQ.aI (F:=fun k=>k=g.b∨g.av.ownBlock=some k) (aA)).same ((jO.mono (fun i _ e=>Or.inl e)).same ((jr.mono (fun i _ e=>Or.inr e)).same (vt.mono (fun i _ e=>Or.inl e))));obtain⟨w5,Gt⟩:∃ w5,w4.setCell (aj g.b 13) (.slice a' (g.aB.length+1) c')=w5:=⟨_,rfl⟩
 rw[Gt] at yW vt WK hP5 FV
 have H5:=U (h.Td (g':={ g with next:=g.next+1,av:=.slice a' (g.aB.length+1) c',aB:=g.aB++[q] }) FV yW (by
  show w5.ownsRow lo _ 6 _ (g.aB++[q]).length (dj (g.aB++[q]));rw[K8,List.length_append,List.length_singleton,hq]
  exact WK) iZ rfl rfl rfl rfl ⟨rfl,rfl,rfl⟩ h.rs h.rc h.rv)
 obtain⟨s0,s1,s2,s3,s4,s5⟩:=hP5.c6;have yQ:=U hP5;have HR:=U hr;have HQ:=U hq;have HS:=U (show g.st.aR p=(if g.ag=0 then({ g with next:=g.next+1,av:=.slice a' (g.aB.length+1) c',aB:=g.aB++[q] }:CG).st else({ g with next:=g.next+1,av:=.slice a' (g.aB.length+1) c',aB:=g.aB++[q] }:CG).st.post (g.st.nf q)) by rw[hq];rfl);generalize hgN:({ g with next:=g.next+1,av:=.slice a' (g.aB.length+1) c',aB:=g.aB++[q] }:CG)=gN at *;have HGb:=U (show gN.b=g.b by rw[← hgN]);have HGs:=U (show gN.ag=g.ag by rw[← hgN]);have HGq:=U (show gN.q<w.heap.size∧gN.m<w.heap.size by rw[← hgN];exact⟨h.bG.vi.lt,h.bG.D9.lt⟩);have HGt:=U (show gN.st.nf q=g.st.nf q by rw[← hgN];rfl);clear h h0 h1 hgN mr hA3 QX WK aD hP1 CE hP4 hP5 cz gz jR yW R6 jO jr vt hr pI iZ FV aN aA bP mF ju BY BD kn yw ol rP hN
 go_enter func53,ntmps53
 go_wp2_with fail
 go_region_law (refine lu rfl (.tmp 21) (.tmp 23) 95 rfl _ _ rfl rfl _ w4 HR.o ?_)
 all_goals
  go_wp2_with fail
  by_cases hs:g.ag=0
  ·refine(Te HGb.o HQ.o (afP H5.o.dM q (HGs.o.trans hs))).mono ?_;rintro e w6 ⟨rfl,G2⟩
   have u3:=(yQ.o.below G2).ce 3 rfl
   go_wp2_with fail
   go_ret
   exact⟨rfl,gN,by rw[HS.o,if_pos hs];exact H5.o.below G2⟩
  ·refine(Te HGb.o HQ.o (Y4 H5.o.dM q (fun e=>hs (HGs.o.symm.trans e)))).mono ?_;rintro e w6 ⟨rfl,h6,h7⟩
   have u3:w6.cell? (aj w.heap.size 3)=some (vU g.next):=(yQ.o.dW h7 (fun e=>by
    have:=HGq.o
    omega)).cell 3
   have H6:=U h6;clear h6 h7
   go_wp2_with fail
   go_ret
   exact⟨rfl,_,by rw[HS.o,if_neg hs,← HGt.o];exact H5.o.trans H6.o⟩
end Go.Proofs.YtkpfplbmmglkkaaGreatDoor
