/- The statements' own world without memory, for streams: publish, subscribe, finish, each with what the walks ask for. -/
import Derived.Test.YtkpfplbmmglkkaaGreatDoorV40
import Derived.Test.YtkpfplbmmglkkaaGreatDoorV41
import Derived.Test.YtkpfplbmmglkkaaGreatDoorV38
set_option linter.all false
set_option maxHeartbeats 1000000
namespace Go.Proofs.YtkpfplbmmglkkaaGreatDoor
variable {X XC XS:List PIV}{lo:Nat}{w:World}{g:WG}{p r:WP}
open Go.RowKit
def Qi(s:SP):Bool:=decide (s.dZ (cr 1)=some 1)&&(match s.au[1]? with
 | some t=>!t.bD&&decide (t.base=eN 1)
 | none=>false)
def acK(w:WP):Bool:=Qe w.s&&(LJ w&&(!w.vu&&(!w.d1&&(Qi w.s&&(w.s.au.all (fun t=>decide (t.dJ.length≤w.R)&&decide (t.count<1000000000000))&&(decide (1≤w.R)&&decide (w.v1.length≤80000)))))))
def XZ(w:WP)(fr:Nat):Bool:=LI w.c&&(LJ w&&(!w.vu&&(!w.c.jv w.W&&(decide (w.c.bQ=w.ae.length)&&(decide (nZ w.ae<8)&&(decide (fr≤w.v1.length)&&(decide (w.ae.length≤80000)&&decide (w.v1.length≤80000))))))))
def acL(w:WP):Bool:=Qe w.s&&(decide (w.W≤1000)&&(!w.d1&&Qi w.s))
namespace WP
def pS(w:WP)(V:ByteArray)(d:List UInt8):Option WP:=if acK w=true then some (w.pub 1 V d) else none
def wO(w:WP)(fr:Nat):Option WP:=if XZ w fr=true then some { w with c:=w.c.cA (cr 1) (eN 1) fr,ae:=w.ae++[⟨1,fr,0,0,decide ((w.cy 1).length<fr) || !w.eh 1 (fr+1)⟩] } else none
def LZ(w:WP):Option WP:=if acL w=true then some (({ w with s:=w.s.finish w.W 1 }:WP).dnP 1) else none
def ahJ(w:WP):WP:={ w with s:=w.s.qT,dN:=true }
end WP
def uT(n:Nat):List UInt8:=match (jp XK 6).1 (eN 1).toList (kE 1 n).toList with
 | some (p,_)=>p
 | none=>[]
def okV(n:Nat):Bool:=decide ((jp XK 6).1 (eN 1).toList (kE 1 n).toList=some (uT n,[]))&&(hasB XK (eN 1)&&(decide ((kX XK 6).1 (eN 1).toList (uT n)=some (kE 1 n).data.toList)&&(decide ((kE 1 n).size≤390)&&decide ((uT n).length≤64))))
theorem anD:(List.range 48).all okV=true:=by kernel_rfl
structure anE(X:List PIV)(n:Nat):Prop where
 enc:∀ E d',M3 X (eN 1) (kE 1 n) E d'→E=0∧d'=uT n
 bp:dY X (eN 1) (uT n)=some (kE 1 n)
 sz:(kE 1 n).size≤390
 le:(uT n).length≤64
theorem acM(h:(parseP cX).1=some (X.map (fun x=>x.it))){n:Nat}(hn:n<48):anE X n:=by
 have hB:=List.all_eq_true.1 anD n (List.mem_range.2 hn);unfold okV at hB;simp only[Bool.and_eq_true,decide_eq_true_eq] at hB;obtain⟨h1,h2,h3,h4,h5⟩:=hB;exact⟨XM h h2 h4 h1 h5,XN h h2 h4 h5 h3,h4,h5⟩
def ahK(k:Nat)(nm bs:ByteArray):Bool:=(yG.take k).all (fun y=>!oM 2 nm.toList y)&&match yG[k]? with
 | some it=>oM 2 nm.toList it&&decide (it.name.text=nm)&&(match it.base with | [.string b,_]=>decide (b=bs) | _=>false)
 | none=>false
theorem ahL:ahK 3 (cr 1) (eN 1)=true:=by kernel_rfl
theorem X0(h:(parseP cX).1=some (X.map (fun x=>x.it))):∃ x,lB X 2 (cr 1).toList ((3:Nat):Int)∧X[3]? = some x∧x.it.name.text=cr 1∧(∃ v,x.it.base=[.string (eN 1),v]):=by
 have hP:=rz h;have hk:=ahL;unfold ahK at hk;simp only[Bool.and_eq_true,List.all_eq_true,Bool.not_eq_true'] at hk;obtain⟨h1,h2⟩:=hk;have BI:∀ j:Nat,yG[j]? = (X[j]?).map (fun x:PIV=>x.it):=fun j=>by rw[← hP,List.getElem?_map]
 rw[BI] at h2
 rcases Option.eq_none_or_eq_some X[3]? with e | ⟨x,e⟩
 ·rw[e] at h2;simp at h2
 ·rw[e] at h2
  simp only[Option.map_some,Bool.and_eq_true,decide_eq_true_eq] at h2;obtain⟨⟨h3,h4⟩,h5⟩:=h2;refine⟨x,lB.SC 3 x e h3 (fun j y hj hy=>h1 y.it ?_),e,h4,?_⟩
  ·refine List.mem_of_getElem? (i:=j) ?_
   rw[List.getElem?_take_of_lt hj,BI,hy];rfl
  ·split at h5
   ·rename_i b v hb
    exact⟨v,by rw[hb,of_decide_eq_true h5]⟩
   ·cases h5
open Go.Conc
theorem Uv{g:SG}{s:SP}(h:g.st=s)(hB:Qi s=true):g.st.dZ (cr 1)=some 1∧∃ t:eZ,g.au[1]? = some t∧t.bD=false∧t.base=eN 1:=by
 unfold Qi at hB;simp only[Bool.and_eq_true,decide_eq_true_eq] at hB;obtain⟨h1,h2⟩:=hB;refine⟨by rw[h];exact h1,?_⟩;rw[← h] at h2;have e:g.st.au[1]? = (g.au[1]?).map (fun t:eZ=>t.t):=by unfold SG.st;rw[List.getElem?_map]
 rw[e] at h2
 rcases Option.eq_none_or_eq_some g.au[1]? with e1 | ⟨t,e1⟩
 ·rw[e1] at h2;cases h2
 ·rw[e1] at h2
  simp only[Option.map_some,Bool.and_eq_true,Bool.not_eq_true',decide_eq_true_eq] at h2;exact⟨t,e1,h2.1,h2.2⟩
theorem Zw(h:cH lo XC XS w g p)(hX:(parseP cX).1=some (XS.map (fun x=>x.it)))(n:Nat)(hn:n<48)(kd B C:Int)(hB:-9223372036854775808≤B∧B≤9223372036854775807)(hBn:cI B 100=n)(hP:p.pS (kE 1 n) (uT n)=some r):
  aT 6 #[aM g.b,.agg #[vI kd,vI 1,vI B,vI C]] w (fun e w'=>e=.returned (.bool true)∧∃ g',dL lo XC XS w g r w' g'):=by
 unfold WP.pS at hP
 split at hP
 ·rename_i hG
  obtain rfl:=Option.some.inj hP;unfold acK at hG;simp only[Bool.and_eq_true,decide_eq_true_eq,Bool.not_eq_true',List.all_eq_true] at hG;obtain⟨h1,h2,h3,h4,h5,h6,h7,h8⟩:=hG;have hS:=n8.1 h1;have hV:=iQ.1 h2;have fe:cI 1 3=1:=by decide
  have eW:g.sg.W=g.W:=h.bL.rV.1;have eR:g.sg.R=g.R:=h.bL.rV.2.2;have hRR:g.R≤1000:=by rw[h.gR];exact hV.R
  have hW8:g.sg.W≤1000:=by rw[eW,h.gW];have:=hV.W;omega
  have hvk:=acM hX hn
  have key:=Uu (d:=uT n) h.bL h.hl h.tab kd 1 B C fe ⟨by omega,by omega⟩ hB (by rw[h.Zq];exact h3) (by rw[h.dC];have:=hV.sl;omega) hRR (by rw[fe,h.dO];show p.v1.length≤_;omega) (fun x hx=>by rw[h.dC] at hx;have:=(hV.st x hx).2.1;omega) (by rw[fe,h.Fm];exact h4) (fun w2 hb=>by
   rw[fe,hBn];have il:=h.bL.cN.below hb;refine(AB il (Nat.le_trans h.hl hb.size) (h.ss.below hb) (by have:=hS.tl;rw[← h.s] at this;simpa[SG.st] using this) (by rw[h.s];exact hS.sm.toSSp) hW8 ⟨by rw[eR,h.gR];exact h7,by rw[eR];exact hRR⟩ (fun t ht=>by rw[h.s] at ht;rw[eR,h.gR];exact h6 t ht) (cr 1) (kE 1 n) (by have:=hvk.sz;unfold maxLen;omega)).mono ?_;intro e w' hp;obtain⟨ij,t,htt,htf,htb⟩:=Uv h.s h5
   rcases hp with⟨nH,_⟩ | ⟨k,t',hk,YW,hp⟩
   ·rw[ij] at nH;cases nH
   ·rw[ij] at YW
    obtain rfl:=Option.some.inj YW;rw[htt] at hk;obtain rfl:=Option.some.inj hk
    rcases hp with⟨hf,_⟩ | ⟨_,E,d,hE,rfl,_,bX⟩
    ·rw[htf] at hf;cases hf
    ·rw[htb] at hE
     obtain⟨rfl,rfl⟩:=hvk.enc E d hE;obtain⟨pV,fy⟩:=bX rfl;rw[eW,eR] at fy
     exact⟨rfl,pV,fy⟩)
  rw[fe,hBn] at key;refine key.mono ?_;rintro e w' ⟨rfl,g',hh⟩;rw[h.st] at hh;exact⟨rfl,g',h.to hh⟩
 ·cases hP
theorem ahM(h:cH lo XC XS w g p)(kd B C:Int)(hP:p.LZ=some r):
  aT 11 #[aM g.b,.agg #[vI kd,vI 1,vI B,vI C]] w (fun e w'=>e=.returned (.bool true)∧∃ g',dL lo XC XS w g r w' g'):=by
 unfold WP.LZ at hP
 split at hP
 ·rename_i hG
  obtain rfl:=Option.some.inj hP;unfold acL at hG;simp only[Bool.and_eq_true,decide_eq_true_eq,Bool.not_eq_true'] at hG;obtain⟨h1,h2,h3,h4⟩:=hG;have hS:=n8.1 h1;have fe:cI 1 3=1:=by decide
  have eW:g.sg.W=g.W:=h.bL.rV.1;have hW8:g.sg.W≤1000:=by rw[eW,h.gW];exact h2
  have key:=Xv h.bL kd 1 B C ⟨by omega,by omega⟩ (by rw[fe,h.Fm];exact h3) (fun w2 hb=>by
   rw[fe];refine(ES (h.bL.cN.below hb) (by have:=hS.tl;rw[← h.s] at this;simpa[SG.st] using this) (by rw[h.s];exact hS.sm.toSSp) hW8 (cr 1)).mono ?_;intro e w' hp;obtain⟨ij,t,htt,htf,htb⟩:=Uv h.s h4
   rcases hp with⟨nH,_⟩ | ⟨k,t',hk,YW,hp⟩
   ·rw[ij] at nH;cases nH
   ·rw[ij] at YW
    obtain rfl:=Option.some.inj YW;rw[htt] at hk;obtain rfl:=Option.some.inj hk
    rcases hp with⟨hf,_⟩ | ⟨_,rfl,pV,fy⟩
    ·rw[htf] at hf;cases hf
    ·rw[eW] at fy
     exact⟨rfl,pV,fy⟩)
  rw[fe] at key;refine key.mono ?_;rintro e w' ⟨rfl,g',hh⟩;rw[h.st,h.s,h.gW] at hh;exact⟨rfl,g',h.to hh⟩
 ·cases hP
theorem Zx(h:cH lo XC XS w g p)(hX:(parseP cX).1=some (XC.map (fun x=>x.it)))(fr:Nat)(kd B C:Int)(hB:-9223372036854775808≤B∧B≤9223372036854775807)(hC:-9223372036854775808≤C∧C≤9223372036854775807)(hBn:cI B ((p.cy 1).length+3)=fr)(hP:p.wO fr=some r):
  aT 7 #[aM g.b,.agg #[vI kd,vI 1,vI B,vI C]] w (fun e w'=>e=.returned (.bool true)∧∃ g',dL lo XC XS w g r w' g'):=by
 unfold WP.wO at hP
 split at hP
 ·rename_i hG
  obtain rfl:=Option.some.inj hP;unfold XZ at hG;simp only[Bool.and_eq_true,decide_eq_true_eq,Bool.not_eq_true'] at hG;obtain⟨h1,h2,h3,h4,h5,h6,h7,h8,h9⟩:=hG;have hCo:=n9.1 h1;have hV:=iQ.1 h2;obtain⟨x,hFo,YC,Z4,hxb⟩:=X0 hX;have Pb:g.cg.bQ=p.c.bQ:=congrArg CP.bQ h.c
  have key:=I6 (t:=1) (n:=(p.cy 1).length) (fr:=fr) (q:=p.c.cA (cr 1) (eN 1) fr) h.bL h.hl h.tab kd 1 B C ⟨by omega,by omega⟩ hB hC (by rw[h.Zq];exact h3) (by decide) (by rw[h.dO]) hBn (by rw[h.dC];have:=hV.sl;omega) (by rw[h.gR];exact hV.R) (by show p.v1.length≤_;omega) (by rw[Pb,h.dC];exact h5) (by rw[h.dC];exact h6) (fun w2 hb=>by
   have hE:=(h.sc.below hb)
   have avG:fr≤80000:=by omega
   refine(sS (h.bL.dM.below hb) (by rw[h.c];exact hCo.sm) (Nat.le_trans h.hl hb.size) hE (cr 1) x (eN 1) 3 hFo YC hxb (by rw[Pb];have:=hCo.md;omega) (uR 1 fr C) fr (fun W hW=>by
    rw[Z4];unfold uR
    by_cases hz:fr=0∧C.tmod 2=0
    ·rw[if_pos hz,hz.1]
     exact AS (cr 1) W
    ·rw[if_neg hz]
     exact Cy (cr 1) fr (by omega) W hW (by decide))).mono ?_
   rintro e w' (⟨zm,_⟩ | ⟨_,rfl,tP,hc⟩)
   ·have eW:g.cg.W=p.W:=h.bL.wH.1.trans h.gW
    rw[h.c,eW,h4] at zm;cases zm
   ·rw[h.c,Z4] at hc
    exact⟨rfl,tP,hc⟩)
  refine key.mono ?_;rintro e w' ⟨rfl,g',hh⟩;rw[h.st,h.dC] at hh;exact⟨rfl,g',h.to hh⟩
 ·cases hP
end Go.Proofs.YtkpfplbmmglkkaaGreatDoor
