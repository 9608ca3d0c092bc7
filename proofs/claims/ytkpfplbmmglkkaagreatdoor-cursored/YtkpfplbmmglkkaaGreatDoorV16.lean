/- The decoder's choice and letters. -/
import Derived.Test.YtkpfplbmmglkkaaGreatDoorV15
set_option linter.all false
set_option maxHeartbeats 4000000
set_option maxRecDepth 100000
namespace Go.Proofs.YtkpfplbmmglkkaaGreatDoor
open Go.Proofs.Tryz
variable {d L D R V S:List UInt8}{db lo f bu n K m:Nat}{w w':World}{v lv:Value}{spec G:uH}{e:Ending}{X:List PIV}
open Go.RowKit
theorem Na{names:List ByteArray}{i:Nat}(h:fC d=some i):vV (names.map ByteArray.toList) d=(names[i]?).map ByteArray.toList:=by
 unfold vV;rw[h];simp
theorem xC(w:World)(db lo FZ:Nat)(lv v dv nv:Value)(L d:List UInt8)(names:List ByteArray)(h:yu w db lo lv v L)(hd:om w dv d)(yU:d.length≤1000)(hn:w.ownsRow FZ 9 1 nv names.length (names.map ie))(Cl:names.length≤400)(hns:∀ n∈names,n.size≤400)(hl:L.length≤900000000)(di:lo≤w.heap.size):
  aT 268 #[aM db,nv,dv] w (iy (vV (names.map ByteArray.toList) d) w db lo lv L 400):=by
 unfold iy;obtain⟨da,dc,BR⟩:∃ a c,dv=.slice a d.length c:=hd.1.slice
 subst BR;obtain⟨na,nc,mB⟩:∃ a c,nv=.slice a names.length c:=ax hn
 subst mB;have H:=U h;have HD:=U hd;have HN:=U hn;have EO:=U hns;clear h hd hn hns
 go_enter func268,ntmps268
 go_wp2_with fail
 refine(pA w _ d HD.o yU).mono ?_;rintro e w1 ⟨m,ok,rfl,hm,aA,hw⟩;have HW:=U hw;have H1:=U (H.o.below aA);have R4:=U (aH HN.o (fun g hg=>aA.block g (HN.o.lt g hg).2));have ju:=aA.size;clear hw
 cases ok with
 | false=>
  have HX:=U (show vV (names.map ByteArray.toList) d=none by unfold vV;rw[show fC d=none from HW.o];rfl)
  go_wp2_with fail
  go_ret
  exact⟨false,v,[],rfl,by simpa using H1.o,DF.ofBelow _ aA,by simp,HX.o⟩
 | true=>
  have BG:IntKind.u64.wrap (names.length:Int)=(names.length:Int):=by rw[IntKind.wrap_u64];omega
  by_cases bC:m<names.length
  ·obtain⟨s,hs⟩:∃ s,names[m]? = some s:=⟨names[m],List.getElem?_eq_getElem bC⟩
   have HX:=U (show vV (names.map ByteArray.toList) d=some s.toList by rw[Na (show fC d=some m from HW.o),hs];rfl);have afC:s.size≤400:=EO.o s (List.mem_of_getElem? hs);obtain⟨g,c,hv,hg,aK⟩:=VU R4.o (by omega);obtain⟨rfl,rfl⟩:na=some (aj g 0)∧nc=c:=by simpa using hv
   have hx:w1.cell? (aj g m)=some (.string s):=aK m s hs;have ej:¬ (names.length:Int)≤(m:Int):=by omega
   have as6:decide ((names.length:Int)≤(m:Int))=false:=by simpa using ej
   clear hv aK hs;have JN:w1.drew.cell? (aj g m)=some (.string s):=hx
   go_wp2_with fail
   go_region_with (go_at_call 277;refine(iU _ db lo lv v L s (H1.o.below (Below.refl _ _).drew) (by omega) (by omega) (by show lo≤w1.heap.size;omega)).mono ?_;rintro e w4 ⟨rfl,v4,Ds,vO⟩;have EQ:=U Ds;have Sv:=U vO;clear Ds vO)
   all_goals
    go_wp2_with fail
    go_ret
    exact⟨true,v4,s.toList,rfl,EQ.o,((DF.ofBelow _ aA).trans (DF.ofBelow _ (Below.refl _ _).drew)).trans Sv.o,by rw[aO];exact afC,HX.o⟩
  ·have HX:=U (show vV (names.map ByteArray.toList) d=none by rw[Na (show fC d=some m from HW.o),List.getElem?_eq_none (by omega)];rfl)
   have ej:(names.length:Int)≤(m:Int):=by omega
   go_wp2_with fail
   go_ret
   exact⟨false,v,[],rfl,by simpa using H1.o,DF.ofBelow _ aA,by simp,HX.o⟩
theorem DF.below(h:DF db lo w w')(hd:lo≤db)(hl:lo≤w.heap.size):Below lo w w' :=
 ⟨h.os,h.tape,h.output,h.size,fun k hk=>h.block k (by omega) (by omega) (Or.inl hk)⟩
theorem afD(x:Nat)(h:x≤255):bits BinOp.and IntKind.u8 (x:Int) 15=((x % 16:Nat):Int):=by
 have all:∀ a:Fin 256,bits BinOp.and IntKind.u8 ((a.val:Nat):Int) 15=((a.val % 16:Nat):Int):=by decide +kernel
 exact all ⟨x,by omega⟩
theorem Pt(w:World)(c1 c2 c3:UInt8):fG ((w.alloc (.cells #[vB (c1.toNat:Int),vB (c2.toNat:Int),vB (c3.toNat:Int)] 5)).drew) w.heap.size (.slice (some (aj w.heap.size 0)) 3 3) [c1,c2,c3]:=by
 have:=World.ownsRow_lit (base:=w.heap.size) (e:=5) (size:=1) w #[vB (c1.toNat:Int),vB (c2.toNat:Int),vB (c3.toNat:Int)] 3 (by simp) (by unfold maxLen;omega) rfl;exact aH this (fun _ _=>rfl)
theorem SQ(n:Nat)(h:n<16)(i:Int)(hi:i.toNat=n)(hb:i.toNat<(ByteArray.mk #[48,49,50,51,52,53,54,55,56,57,97,98,99,100,101,102]).size):(ByteArray.mk #[48,49,50,51,52,53,54,55,56,57,97,98,99,100,101,102])[i.toNat]=Po n:=by
 subst hi;have all:∀ a:Fin 16,(ByteArray.mk #[48,49,50,51,52,53,54,55,56,57,97,98,99,100,101,102])[a.val]'a.isLt=Po a.val:=by decide
 exact all ⟨i.toNat,h⟩
theorem Hp(c:UInt8):(vT c).length≤3:=by unfold vT;split<;>simp
theorem SR(l:List UInt8):(l.flatMap vT).length≤3*l.length:=by
 induction l with
 | nil=>simp
 | cons c r ih=>rw[List.flatMap_cons,List.length_append,List.length_cons];have:=Hp c;omega
theorem EX(w:World)(db lo:Nat)(lv v dv:Value)(L d:List UInt8)(h:yu w db lo lv v L)(hd:om w dv d)(yU:d.length≤1000)(vr:∀ k,dv.ownBlock=some k→0<d.length→k<lo)(ak8:lo≤db)(hl:L.length≤900000000)(di:lo≤w.heap.size):
  aT 269 #[aM db,dv] w fun e w'=>e=.returned (.tuple #[])∧xB w db lo lv (L++AF d) w':=by
 unfold xB;obtain⟨da,dc,BR⟩:∃ a c,dv=.slice a d.length c:=hd.1.slice
 subst BR;have H:=U h;have HD:=U hd.1;have HDB:=U vr;clear h hd vr
 go_enter func269,ntmps269
 go_wp2_with fail
 refine(eg _ db lo lv v L 34 34 rfl H.o (by omega) di).mono ?_;rintro e w1 ⟨rfl,v1,vW,yh⟩;have ir:=U vW;have Y0:=U yh;clear vW yh
 go_wp2_with fail
 go_loopg [5,12] d.length (fun gk x5 i12 wr=>∃ (k:Nat) (v':Value) (T:List UInt8),k+gk=d.length∧i12=.int .i64 k∧Hid (yu wr db lo lv v' T)∧Hid (T=L++34::(d.take k).flatMap vT)∧T.length≤L.length+1+3*k∧DF db lo w wr)
 case atStart=>exact⟨0,v1,L++[34],by omega,rfl,U ir.o,U (by simp),by simp,Y0.o⟩
 case round=>
  obtain⟨k,v',T,hk,rfl,HDT,HTE,hTl,JO⟩:=hrel;have Pf:=JO.size
  by_cases bC:k<d.length
  ·obtain⟨b,o,c',hv,hb,aK⟩:=(HD.o.same (JO.below ak8 di) (fun q hq h0=>HDB.o q hq h0)).at (by omega)
   obtain⟨rfl,rfl⟩:da=some (aj b o)∧dc=c':=by simpa using hv
   have hx:wr.cell? ⟨b,o+k,none⟩=some (vB (d[k].toNat:Int)):=aK k bC;clear hv aK;obtain⟨c,HC⟩:∃ c,Hid (d[k]=c):=⟨_,U rfl⟩
   rw[HC.o] at hx;have jo:=U (show L++34::(d.take (k+1)).flatMap vT=T++vT c by rw[HTE.o,List.take_succ_eq_append_getElem bC,HC.o];simp);have HPC:=U (Al c).symm
   cases En:gG c with
   | true=>
    have HL:=U (show vT c=[c] by unfold vT;rw[En];rfl);rw[En] at HPC;clear En
    go_wp2_with fail
    refine(mS _ _).mono ?_;rintro e w2 ⟨rfl,rfl⟩;rw[HPC.o]
    go_wp2_with fail
    refine(eg _ db lo lv v' T c _ rfl HDT.o (by omega) (by omega)).mono ?_;rintro e w3 ⟨rfl,v3,JL,SS⟩;have HD3:=U JL;have vY:=JO.trans SS;clear JL SS
    go_wp2_with fail
    go_roundg (gk-1)
    case rel=>exact⟨k+1,v3,T++[c],by omega,by go_num,U HD3.o,U (by rw[jo.o,HL.o]),by rw[List.length_append,List.length_singleton];omega,vY⟩
    case measure=>omega
   | false=>
    rw[En] at HPC;have afE:c.toNat≤255:=by have:=c.toNat_lt;omega
    have GO:=U En;clear En
    go_wp2_with fail
    refine(mS _ _).mono ?_;rintro e w2 ⟨rfl,rfl⟩;rw[HPC.o];have as7:=afD c.toNat afE;have vW:(0:Int)≤(c.toNat:Int) / 16:=by omega
    have Vh:(c.toNat:Int) / 16<16:=by omega
    have JL:(c.toNat % 16:Nat)<16:=by omega
    go_wp2_with fail
    go_region_with (go_at_call 279;refine(K0 _ db lo w2.heap.size lv v' _ T 92 _ _ (HDT.o.below ((Below.refl _ _).alloc (Nat.le_refl _) _).drew) (Pt w2 _ _ _) (fun e=>by have:=HDT.o.lt;simp[Value.ownBlock] at e;omega) (by omega) (by simp;omega)).mono ?_;rintro e w4 ⟨rfl,v4,Ds,vO⟩;have EQ:=U Ds;have Sv:=U vO;clear Ds vO)
    all_goals
     rw[SQ (c.toNat / 16) (by omega) ((c.toNat:Int) / 16) (by omega),SQ (c.toNat % 16) (by omega) ((c.toNat:Int) % 16) (by omega)] at EQ;have HL:=U (show vT c=[92,Po (c.toNat / 16),Po (c.toNat % 16)] by unfold vT;rw[GO.o];rfl);have Cq:=(JO.trans (DF.ofBelow _ ((Below.refl _ _).alloc (Nat.le_refl _) _).drew)).trans Sv.o
     go_wp2_with fail
     go_roundg (gk-1)
     case rel=>exact⟨k+1,v4,T++vT c,by omega,by go_num,U (by rw[HL.o];have:=EQ.o;simpa using this),U (by rw[jo.o]),by rw[List.length_append];have:=Hp c;omega,Cq⟩
     case measure=>omega
  ·have HTe:=U (show T=L++34::d.flatMap vT by rw[HTE.o,List.take_of_length_le (by omega)])
   go_wp2_with fail
   refine(eg _ db lo lv v' T 34 34 rfl HDT.o (by omega) (by omega)).mono ?_;rintro e w3 ⟨rfl,v3,JL,SS⟩;have HD3:=U JL;have vY:=JO.trans SS;clear JL SS
   go_wp2_with fail
   go_end0
   exact⟨rfl,v3,by have:=HD3.o;rw[HTe.o] at this;unfold AF;simpa using this,vY⟩
def en(x:Nat × Value):List Value:=[.int .u64 x.1,x.2]
def SU(w:World)(lo Dt:Nat)(pv:Value)(ps:List (Nat × List UInt8)):Prop:=∃ us:List (Nat × Value),us.length=ps.length∧w.ownsRow lo 373 2 pv us.length (us.flatMap en) ∧
 ∀ (i:Nat) (x:Nat × Value) (p:Nat × List UInt8),us[i]? = some x→ps[i]? = some p→x.1=p.1∧om w x.2 p.2∧(∀ k,x.2.ownBlock=some k→k<Dt)
theorem om.same{B:Nat}(h:om w v L)(hb:Below B w w')(hB:∀ k,v.ownBlock=some k→k<B):om w' v L:=⟨h.1.same hb (fun k hk _=>hB k hk),h.2⟩
theorem SU.below{Dt:Nat}{pv:Value}{ps:List (Nat × List UInt8)}(h:SU w lo Dt pv ps)(hb:Below w.heap.size w w')(hd:Dt≤w.heap.size):SU w' lo Dt pv ps:=by
 obtain⟨us,hl,ho,hr⟩:=h;refine⟨us,hl,aH ho (fun g hg=>hb.block g (ho.lt g hg).2),fun i x p hx hp=>?_⟩;obtain⟨h1,h2,h3⟩:=hr i x p hx hp;exact⟨h1,h2.same hb (fun k hk=>by have:=h3 k hk;omega),h3⟩
def AM(d:List UInt8)(f bu:Nat)(D:List UInt8)(ps:List (Nat × List UInt8)):Prop:=D.length≤f∧iE d=(jI f bu D).map fun o=>ps++o
theorem AM.Hg(d:List UInt8):AM d d.length 0 d []:=⟨Nat.le_refl _,by unfold iE;cases jI d.length 0 d<;>simp⟩
theorem AM.done{ps:List (Nat × List UInt8)}(h:AM d f bu [] ps):iE d=some ps:=by
 rw[h.2,sZ,if_pos rfl];simp
theorem AM.step{ps:List (Nat × List UInt8)}(h:AM d f bu D ps)(h0:D≠[]):
  iE d=((dB D).bind fun x=>(ix x.2).bind fun y=>if bu<x.1∧x.1≤99 then(jI (f-1) x.1 y.2).map fun o=>(x.1,y.1)::o else none).map fun o=>ps++o:=by
 obtain⟨h1,h2⟩:=h;have hl:0<D.length:=List.length_pos_iff.2 h0;obtain⟨f',rfl⟩:∃ f',f=f'+1:=⟨f-1,by omega⟩
 rw[h2,sZ,if_neg h0];rfl
theorem AM.next{R2:List UInt8}{ps:List (Nat × List UInt8)}(h:AM d f bu D ps)(h0:D≠[])(h1:dB D=some (n,R))(h2:ix R=some (V,R2))(h3:bu<n∧n≤99):AM d (f-1) n R2 (ps++[(n,V)]):=by
 refine⟨?_,?_⟩
 ·have:=kK h1
  have:=ri h2;have:=h.1;omega
 ·rw[h.step h0,h1]
  simp only[Option.bind_some,h2,if_pos h3,Option.map_map]
  congr 1
  funext o
  simp
theorem Tryz.infoPart:(Tryz.prog.info? 373).map (fun i=>(i.zero,i.size,i.bytes))=some (some (.agg #[vU 0,.slice none 0 0]),2,32):=by kernel_rfl
def Du(w:World)(Dt:Nat)(d:List UInt8)(e:Ending)(w':World):Prop:=∃ (a:Option Addr) (l c:Nat) (ok:Bool),e=.returned (.tuple #[.slice a l c,.bool ok])∧Below w.heap.size w w'∧(match ok with | true=>∃ ps,iE d=some ps∧l=ps.length∧SU w' w.heap.size Dt (.slice a l c) ps | false=>iE d=none)
theorem xD(w:World)(Dt:Nat)(dv:Value)(d:List UInt8)(hd:om w dv d)(yU:d.length≤1000)(vr:∀ k,dv.ownBlock=some k→0<d.length→k<Dt)(di:Dt≤w.heap.size):
  aT 280 #[dv] w (Du w Dt d):=by
 unfold Du;obtain⟨da,dc,BR⟩:∃ a c,dv=.slice a d.length c:=hd.1.slice
 subst BR;have HD:=U hd;have HDB:=U vr;clear hd vr
 go_enter func280,ntmps280
 go_wp2_with fail
 go_loopg [0,4,5,6,7,8,9,10,11] d.length (fun gk d0 p4 l5 x6 x7 x8 x9 x10 x11 wr=>∃ (D:List UInt8) (a:Option Addr) (c:Nat) (ps:List (Nat × List UInt8)) (pa:Option Addr) (pc bu f:Nat),d0=.slice a D.length c∧D.length≤gk∧gk≤d.length∧Hid (om wr (.slice a D.length c) D)∧Hid (∀ k,(Value.slice a D.length c).ownBlock=some k→0<d.length→k<Dt)∧p4=.slice pa ps.length pc∧Hid (SU wr w.heap.size Dt (.slice pa ps.length pc) ps)∧l5=.int .u64 bu∧bu≤99∧ps.length+D.length≤d.length∧Hid (AM d f bu D ps)∧Below w.heap.size w wr)
 case atStart=>exact⟨d,da,dc,[],none,0,0,d.length,rfl,Nat.le_refl _,Nat.le_refl _,U HD.o,U HDB.o,rfl,U ⟨[],rfl,World.ownsRow_nil _ _ _ _,fun i x p hx=>by simp at hx⟩,rfl,by omega,by simp,U (AM.Hg d),Below.refl _ _⟩
 case round=>
  obtain⟨D,a,c,ps,pa,pc,bu,f,rfl,hDg,JA,HR,HB,rfl,HP,rfl,as9,En,HT,bi⟩:=hrel;have Pf:=bi.size
  by_cases Hq:D.length=0
  ·have hDn:D=[]:=List.eq_nil_of_length_eq_zero Hq
   have HF:=U (show iE d=some ps by have:=HT.o;rw[hDn] at this;exact this.done);clear hDn
   go_wp2_with fail
   go_ret2
   exact⟨pa,ps.length,pc,true,rfl,bi,ps,HF.o,rfl,HP.o⟩
  ·have ala:(0:Int)<(D.length:Int):=by omega
   have HDn:=U (show D≠[] from fun e=>Hq (by rw[e];rfl))
   go_wp2_with fail
   refine(mT wr _ D HR.o (by omega)).mono ?_;rintro e w1 ⟨n,a1,c1,R,ok1,rfl,hn,YU,hRl,Y1,aA,jt⟩;have QQ:=U YU;have kJ:=U (fun k hk=>HB.o k (Y1 k hk) (by omega));have ph:=U jt;have ju:=aA.size;have ML:=bi.trans (aA.mono Pf);have jP:=U (HP.o.below aA (by omega));clear YU Y1 jt
   go_wp2_with fail
   refine(pz w1 _ R QQ.o (by omega)).mono ?_;rintro e w2 ⟨a2,a3,c2,c3,V,R2,ok2,rfl,hV,mC,hVR,Hu,Hv,aW,Nb⟩;have HV:=U hV;have FQ:=U mC;have gX:=U (fun k hk=>kJ.o k (Hu k hk));have lE:=U (fun k hk=>kJ.o k (Hv k hk));have Wz:=U Nb;have BY:=aW.size;have qf:=ML.trans (aW.mono ML.size);have jn:=U (jP.o.below aW (by omega));have BK:=U (HT.o.step HDn.o);clear hV mC Hu Hv Nb
   cases ok1 with
   | false=>
    have HF:=U (show iE d=none by rw[BK.o,show dB D=none from ph.o];rfl)
    go_wp2_with fail
    go_ret2
    exact⟨none,0,0,false,rfl,qf,HF.o⟩
   | true=>
    cases ok2 with
    | false=>
     have HF:=U (show iE d=none by rw[BK.o,show dB D=some (n,R) from ph.o];simp only[Option.bind_some];rw[show ix R=none from Wz.o];rfl)
     go_wp2_with fail
     go_ret2
     exact⟨none,0,0,false,rfl,qf,HF.o⟩
    | true=>
     have GD:=kK (show dB D=some (n,R) from ph.o);have tZ:=ri (show ix R=some (V,R2) from Wz.o)
     by_cases afG:bu<n
     ·have hlI:¬ (n:Int)≤(bu:Int):=by omega
      have hlD:decide ((n:Int)≤(bu:Int))=false:=by simpa using hlI
      by_cases h99:n≤99
      ·have afH:¬ (99:Int)<(n:Int):=by omega
       have atc:decide ((99:Int)<(n:Int))=false:=by simpa using afH
       have HN:=U (HT.o.next HDn.o ph.o Wz.o ⟨afG,h99⟩);obtain⟨us,Y2,huo,hur⟩:=jn.o;have HUO:=U huo;have HUR:=U hur;have SV:=U Y2;clear huo hur Y2;rw[SV.o] at HUO
       go_wp2_with (at_builtin;refine cJ _ rfl _ _ 368 373 _ 2 32 rfl underlying368 Tryz.infoPart rfl (by decide) _ ps.length _ w.heap.size rfl (World.ownsRow.alloc HUO.o _) (aj _ 0) 1 1 (en (n,.slice a2 V.length c2)) rfl rfl (dK _ _ (by simp) #[vU n,.slice a2 V.length c2] _) (by simp[en,Value.oneCell']) (ps.length+1) rfl _ rfl (by unfold maxLen;omega) (by omega) (by simp;omega) ?_)
       intro a5 c5 w5 ho5 rM;have EY:Below w.heap.size (w2.alloc (.cells #[vU n,.slice a2 V.length c2] 373)) w5:=rM.below (fun q hq=>(HUO.o.lt q hq).1) (by simp;omega);have WA:Below w.heap.size w2 w5:=((Below.refl _ _).alloc (by omega) _).trans EY;have RL:Below w.heap.size w w5:=qf.trans WA
       have yQ:=U (show SU w5 w.heap.size Dt (.slice a5 (ps.length+1) c5) (ps++[(n,V)]) from by
        refine⟨us++[(n,.slice a2 V.length c2)],by simp[SV.o],?_,fun i x p hx hp=>?_⟩
        ·have:=ho5
         rw[List.length_append,List.length_singleton,SV.o,List.flatMap_append];simpa using this
        ·rcases Nat.lt_or_ge i us.length with hi | hi
         ·rw[List.getElem?_append_left hi] at hx
          rw[List.getElem?_append_left (by have:=SV.o;omega)] at hp;obtain⟨h1,h2,h3⟩:=HUR.o i x p hx hp;exact⟨h1,h2.same WA (fun k hk=>by have:=h3 k hk;omega),h3⟩
         ·rw[List.getElem?_append_right hi] at hx
          rw[List.getElem?_append_right (by have:=SV.o;omega)] at hp
          have Ri:i-us.length=0:=by
           rcases Nat.eq_zero_or_pos (i-us.length) with e | e
           ·exact e
           ·rw[List.getElem?_eq_none (by simp;omega)] at hx;cases hx
          rw[Ri] at hx;rw[show i-ps.length=0 by have:=SV.o;omega] at hp;simp at hx hp;subst hx hp
          exact⟨rfl,HV.o.same WA (fun k hk=>by have:=gX.o k hk;omega),gX.o⟩)
       have HR5:=U (FQ.o.same WA (fun k hk=>by have:=lE.o k hk;omega));have GO:=U (show (ps++[(n,V)]).length=ps.length+1 by simp);clear ho5 rM EY
       go_wp2_with fail
       go_roundg R2.length
       case rel=>exact⟨R2,a3,c3,ps++[(n,V)],a5,c5,n,f-1,rfl,Nat.le_refl _,by omega,U HR5.o,U (fun k hk _=>lE.o k hk),by rw[GO.o],U (by rw[GO.o];exact yQ.o),rfl,h99,by rw[GO.o];omega,U HN.o,RL⟩
       case measure=>omega
      ·have afH:(99:Int)<(n:Int):=by omega
       have HF:=U (show iE d=none by rw[BK.o,show dB D=some (n,R) from ph.o];simp only[Option.bind_some];rw[show ix R=some (V,R2) from Wz.o];simp only[Option.bind_some];rw[if_neg (by omega)];rfl)
       go_wp2_with fail
       go_ret2
       exact⟨none,0,0,false,rfl,qf,HF.o⟩
     ·have hlI:(n:Int)≤(bu:Int):=by omega
      have HF:=U (show iE d=none by rw[BK.o,show dB D=some (n,R) from ph.o];simp only[Option.bind_some];rw[show ix R=some (V,R2) from Wz.o];simp only[Option.bind_some];rw[if_neg (by omega)];rfl)
      go_wp2_with fail
      go_ret2
      exact⟨none,0,0,false,rfl,qf,HF.o⟩
structure WB(l d:Nat):Prop where
 o:l+1000*(d+1)≤800000000
structure afK(s D m d:Nat):Prop where
 o:s+1000*D≤1+1000*d+m
abbrev kX(X:List PIV)(n:Nat):=SE (nJ X) n
def SW(X:List PIV)(n:Nat):Prop:=∀ (w0 w:World) (db lo:Nat) (la:Option Addr) (ll lc:Nat) (v dv:Value) (L d:List UInt8) (base:ByteArray),PIts w0 lo (.slice la ll lc) X→om w0 dv d→mR w0→Below w0.heap.size w0 w→w0.heap.size≤db→yu w db w0.heap.size (.slice la ll lc) v L→d.length≤64→WB L.length d.length →
 Calls Tryz.prog 256 #[.pointer (some ⟨db,0,none⟩),.string base,dv,.int .i64 ((7:Int)-n)] w (iy ((kX X n).1 base.toList d) w db w0.heap.size (.slice la ll lc) L (1000*(d.length+1)))
def SX(X:List PIV)(n:Nat):Prop:=∀ (w0 w:World) (db lo:Nat) (la:Option Addr) (ll lc:Nat) (v dv:Value) (L d:List UInt8) (base:ByteArray),PIts w0 lo (.slice la ll lc) X→om w0 dv d→mR w0→Below w0.heap.size w0 w→w0.heap.size≤db→yu w db w0.heap.size (.slice la ll lc) v L→d.length≤64→WB L.length d.length →
 Calls Tryz.prog 287 #[.pointer (some ⟨db,0,none⟩),.string base,dv,.int .i64 ((7:Int)-n)] w (iy ((kX X n).2 base.toList d) w db w0.heap.size (.slice la ll lc) L (1000*(d.length+1)))
theorem om.gr(h:om w v L)(hb:Below w.heap.size w w'):om w' v L:=⟨h.1.gr hb,h.2⟩
theorem om.nM{u:Value}(h:om w' v L)(hb:Below w.heap.size w w')(hd:om w u D)(hk:∀ k,v.ownBlock=some k→u.ownBlock=some k)(hl:0<L.length→0<D.length):om w v L:=by
 refine⟨?_,h.2⟩
 rcases h.1 with h1 | ⟨a,c,rfl,hc⟩
 ·exact Or.inl h1
 ·refine Or.inr ⟨a,c,rfl,fun j x hx=>?_⟩
  have hL:0<L.length:=by
   rcases Nat.eq_zero_or_pos L.length with e | e
   ·have:=List.eq_nil_of_length_eq_zero e;subst this;simp at hx
   ·exact e
  have h1:=hc j x hx;have h2:(a.add j).block=a.block:=by unfold Addr.add;split<;>rfl
  have h3:=hd.1.lt a.block (hk a.block rfl) (hl hL);rw[hb.cell (p:=a.add j) (by rw[h2];exact h3)] at h1;exact h1
theorem iy.sF{GX:uH}{K':Nat}(h:iy spec w db lo lv L K e w')(hs:GX=spec)(hk:K≤K'):iy GX w db lo lv L K' e w':=by
 subst hs;obtain⟨ok,v',S,h1,h2,h3,h4,h5⟩:=h;exact⟨ok,v',S,h1,h2,h3,by omega,h5⟩
theorem iy.nM{wf:World}(h:iy spec wf db lo lv L K e w')(hb:Below w.heap.size w wf):iy spec w db lo lv L K e w':=by
 obtain⟨ok,v',S,h1,h2,h3,h4,h5⟩:=h;exact⟨ok,v',S,h1,h2,(DF.ofBelow _ hb).trans h3,h4,h5⟩
theorem EZ(X:List PIV):SX X 0:=by
 intro w0 w db lo la ll lc v dv L d base hI hd hE hb vr h yU hL;unfold iy;obtain⟨da,dc,BR⟩:∃ a c,dv=.slice a d.length c:=hd.1.slice
 subst BR;have H:=U h;clear h hI hE hd;rw[show (7:Int)-(0:Nat)=7 by omega]
 go_enter func287,ntmps287
 go_wp2_with fail
 go_ret
 exact⟨false,v,[],rfl,by simpa using H.o,DF.refl _ _ _,by simp,rfl⟩
def SY(G:uH)(val:List UInt8→uH)(D:List UInt8)(m:Nat)(S:List UInt8):Prop:=m≤16∧G=(xA val (16-m) (decide (m=0)) D).map fun o=>S++o
theorem SY.Hg{val:List UInt8→uH}(h:G=(xA val 16 true d).map fun o=>91::o):SY G val d 0 [91]:=by
 refine⟨by omega,?_⟩;rw[h];simp
theorem SY.KP{val:List UInt8→uH}(h:SY G val [] m S):G=some (S++[93]):=by
 rw[h.2,AK,if_pos rfl];rfl
theorem SY.bad{val:List UInt8→uH}(h:SY G val D m S)(h0:D≠[])(hb:ix D=none∨m=16):G=none:=by
 rw[h.2,AK,if_neg h0]
 rcases hb with hb | hb
 ·cases 16-m with
  | zero=>rfl
  | succ q=>simp[hb]
 ·rw[hb];rfl
theorem SY.next{val:List UInt8→uH}(h:SY G val D m S)(h0:D≠[])(hm:m<16)(ht:ix D=some (V,R)):
  (val V=none→G=none)∧∀ s,val V=some s→SY G val R (m+1) (S++(He (decide (m=0))++s)):=by
 have h':=h.2;rw[AK,if_neg h0] at h';obtain⟨q,hq⟩:∃ q,16-m=q+1:=⟨15-m,by omega⟩
 rw[hq] at h';simp only[ht,Option.bind_some] at h';refine⟨fun hv=>by rw[h',hv];rfl,fun s hv=>⟨by omega,?_⟩⟩;rw[h',hv,show 16-(m+1)=q by omega,show decide (m+1=0)=false by simp];simp only[Option.bind_some,Option.map_map]
 congr 1
 funext o
 simp
theorem Pu(hn6:n≤6)(hV:SW X n):SX X (n+1):=by
 intro w0 w db lo la ll lc v dv L d base hI hd hE hb vr h yU hL;unfold iy;obtain⟨da,dc,BR⟩:∃ a c,dv=.slice a d.length c:=hd.1.slice
 subst BR;obtain⟨dd,SZ⟩:∃ dd:Int,dd=(7:Int)-((n+1:Nat):Int):=⟨_,rfl⟩
 rw[← SZ];have HDD:=U (show dd+1=(7:Int)-n by omega);have hd6:¬ (6:Int)<dd:=by omega
 have ald:(0:Int)≤dd:=by omega
 clear SZ;have H:=U h;have HI:=U hI;have HE:=U hE;have HV:=U hV;have HD:=U hd;clear h hI hE hV hd;obtain⟨G,hG⟩:∃ G,(kX X (n+1)).2 base.toList d=G:=⟨_,rfl⟩
 rw[hG];have HG:=U (show G=(xA ((kX X n).1 base.toList) 16 true d).map fun o=>91::o by rw[← hG];rfl);clear hG;have mF:=hb.size;have HL:=hL;have sY:=U yU;clear hL yU
 go_enter func287,ntmps287
 go_wp2_with fail
 refine(eg _ db w0.heap.size _ v L 91 91 rfl H.o (by have h1:=HL.o;omega) mF).mono ?_;rintro e w1 ⟨rfl,v1,vW,yh⟩;have ir:=U vW;have Y0:=U yh;clear vW yh
 go_wp2_with fail
 go_loopg [2,9,10,11,12] 17 (fun gk d2 c9 x10 x11 x12 wr=>∃ (m:Nat) (D:List UInt8) (a:Option Addr) (c:Nat) (v':Value) (S:List UInt8),m+gk=17∧c9=.int .i64 m∧d2=.slice a D.length c∧Hid (om w0 (.slice a D.length c) D)∧Hid (D.length≤d.length)∧Hid (yu wr db w0.heap.size (.slice la ll lc) v' (L++S))∧afK S.length D.length m d.length∧DF db w0.heap.size w wr∧Hid (SY G ((kX X n).1 base.toList) D m S))
 case atStart=>exact⟨0,d,da,dc,v1,[91],by omega,rfl,rfl,U HD.o,U (Nat.le_refl _),U ir.o,⟨by simp⟩,Y0.o,U (SY.Hg HG.o)⟩
 case round=>
  obtain⟨m,D,a,c,v',S,hm,rfl,rfl,HR,HDd,HT,S0,JO,HS⟩:=hrel;have akD:m≤16:=HS.o.1;have hbr:Below w0.heap.size w0 wr:=hb.trans (JO.below vr mF);have Pf:=hbr.size
  by_cases Hq:D.length=0
  ·have hDn:D=[]:=List.eq_nil_of_length_eq_zero Hq
   have HF:=U (show G=some (S++[93]) by have:=HS.o;rw[hDn] at this;exact this.KP);clear hDn
   go_wp2_with fail
   refine(eg _ db w0.heap.size _ v' (L++S) 93 93 rfl HT.o (by rw[List.length_append];have h1:=HL.o;have h2:=S0.o;omega) Pf).mono ?_;rintro e w2 ⟨rfl,v2,Vh,Pv⟩;have HD2:=U Vh;have Hw:=JO.trans Pv;clear Vh Pv
   go_wp2_with fail
   go_ret
   exact⟨true,v2,S++[93],rfl,by rw[← List.append_assoc];exact HD2.o,Hw,by rw[List.length_append,List.length_singleton];have h2:=S0.o;omega,HF.o⟩
  ·have ala:(0:Int)<(D.length:Int):=by omega
   have HDn:=U (show D≠[] from fun e=>Hq (by rw[e];rfl));have HRr:=U (HR.o.gr hbr)
   go_wp2_with fail
   refine(pz wr _ D HRr.o (by have h3:=HDd.o;have h4:=sY.o;omega)).mono ?_;rintro e w2 ⟨a2,a3,c2,c3,V,R,ok2,rfl,hV,mC,hVR,Hu,Hv,aW,Nb⟩;have yn:Below w0.heap.size w0 w2:=hbr.trans (aW.mono Pf);have Vg:=U (hV.nM yn HR.o Hu (fun _=>by omega));have HR0:=U (mC.nM yn HR.o Hv (fun _=>by omega));have Wz:=U Nb;have jo:=U (HT.o.below aW);have Hw:=JO.trans (DF.ofBelow _ aW);have BY:=yn.size;clear hV mC Hu Hv Nb
   cases ok2 with
   | false=>
    have HF:=U (HS.o.bad HDn.o (Or.inl Wz.o))
    go_wp2_with fail
    go_ret
    exact⟨false,v',S,rfl,jo.o,Hw,by have h2:=S0.o;have h3:=HDd.o;omega,HF.o⟩
   | true=>
    have tZ:=ri (show ix D=some (V,R) from Wz.o)
    by_cases h16:m=16
    ·have HF:=U (HS.o.bad HDn.o (Or.inr h16))
     subst h16
     go_wp2_with fail
     go_ret
     exact⟨false,v',S,rfl,jo.o,Hw,by have h2:=S0.o;have h3:=HDd.o;omega,HF.o⟩
    ·have akE:¬ (m:Int)=16:=by omega
     have akF:((m:Int)==16)=false:=by simp;omega
     have HNX:=U (HS.o.next HDn.o (by omega) Wz.o)
     by_cases Vj:m=0
     ·subst Vj
      have HBW:=U yn;have YP:=jo;have aaT:=U Hw;have qA:=U (HV.o w0 w2 db lo la ll lc v' (.slice a2 V.length c2) (L++S) V base HI.o Vg.o HE.o HBW.o vr YP.o (by have h3:=HDd.o;have h4:=sY.o;omega) ⟨by rw[List.length_append];have h1:=HL.o;have h2:=S0.o;omega⟩);rw[← HDD.o] at qA
      go_wp2_with fail
      refine qA.o.mono ?_;rintro e w4 ⟨Wd,v4,S4,rfl,Ds,vO,KE,uC⟩;have EQ:=U Ds;have rN:=U uC;have Cq:=aaT.o.trans vO;have S8:=U KE;clear Ds vO uC qA KE
      cases Wd with
      | false=>
       have HF:=U (HNX.o.1 rN.o)
       go_wp2_with fail
       go_ret
       exact⟨false,v4,S++S4,rfl,by rw[← List.append_assoc];exact EQ.o,Cq,by rw[List.length_append];have h2:=S0.o;have h5:=S8.o;omega,HF.o⟩
      | true=>
       have HN:=U (HNX.o.2 S4 rN.o)
       go_wp2_with fail
       go_roundg (gk-1)
       case rel=>exact⟨0+1,R,a3,c3,v4,S++S4,by omega,by go_num,rfl,U HR0.o,U (by have h3:=HDd.o;omega),U (by rw[← List.append_assoc];exact EQ.o),⟨by rw[List.length_append];have h2:=S0.o;have h5:=S8.o;omega⟩,Cq,U (by have:=HN.o;simpa[He] using this)⟩
       case measure=>omega
     ·have atd:(0:Int)<(m:Int):=by omega
      go_wp2_with fail
      refine(eg _ db w0.heap.size _ v' (L++S) 44 44 rfl jo.o (by rw[List.length_append];have h1:=HL.o;have h2:=S0.o;omega) BY).mono ?_;rintro e w3 ⟨rfl,v3,JL,SS⟩;have vY:=Hw.trans SS;have HBW:=U (show Below w0.heap.size w0 w3 from hb.trans (vY.below vr mF));have YP:=U (show yu w3 db w0.heap.size (.slice la ll lc) v3 (L++(S++[44])) by rw[← List.append_assoc];exact JL);have aaT:=U vY;obtain⟨S3,yo⟩:∃ S3,Hid (S++[44]=S3):=⟨_,U rfl⟩
      have afL:S3.length=S.length+1:=by rw[← yo.o];simp
      have ate:=U afL;have apv:S3.length≤S.length+1:=by omega
      rw[yo.o] at YP;clear JL SS vY afL;have qA:=U (HV.o w0 w3 db lo la ll lc v3 (.slice a2 V.length c2) (L++S3) V base HI.o Vg.o HE.o HBW.o vr YP.o (by have h3:=HDd.o;have h4:=sY.o;omega) ⟨by rw[List.length_append];have h1:=HL.o;have h2:=S0.o;omega⟩);rw[← HDD.o] at qA
      go_wp2_with fail
      refine qA.o.mono ?_;rintro e w4 ⟨Wd,v4,S4,rfl,Ds,vO,KE,uC⟩;have EQ:=U Ds;have rN:=U uC;have Cq:=aaT.o.trans vO;have S8:=U KE;clear Ds vO uC qA KE
      cases Wd with
      | false=>
       have HF:=U (HNX.o.1 rN.o)
       go_wp2_with fail
       go_ret
       exact⟨false,v4,S3++S4,rfl,by rw[← List.append_assoc];exact EQ.o,Cq,by rw[List.length_append];have h2:=S0.o;have h5:=S8.o;omega,HF.o⟩
      | true=>
       have HN:=U (HNX.o.2 S4 rN.o)
       go_wp2_with fail
       go_roundg (gk-1)
       case rel=>exact⟨m+1,R,a3,c3,v4,S3++S4,by omega,by go_num,rfl,U HR0.o,U (by have h3:=HDd.o;omega),U (by rw[← List.append_assoc];exact EQ.o),⟨by rw[List.length_append];have h2:=S0.o;have h5:=S8.o;omega⟩,Cq,U (by have:=HN.o;rw[show decide (m=0)=false by simp[Vj]] at this;rw[← yo.o];simpa[He] using this)⟩
       case measure=>omega
theorem K2(hV:SW X n)(hL:SX X n)(w0 w:World)(db lo:Nat)(la:Option Addr)(ll lc:Nat)(v dv:Value)(L d:List UInt8)(f:PField)(dd:Int)(SZ:dd=(7:Int)-n)(hI:PIts w0 lo (.slice la ll lc) X)(hd:om w0 dv d)(hE:mR w0)(hb:Below w0.heap.size w0 w)(vr:w0.heap.size≤db)(h:yu w db w0.heap.size (.slice la ll lc) v L)(yU:d.length≤64)(hF:WB L.length d.length):
  aT 283 #[aM db,.agg #[vI f.number,vI f.numberAt,.string f.name,vI f.nameAt,vI f.shape,.string f.base,vI f.baseAt],dv,vI dd] w (iy (if f.shape=2 then(kX X n).2 f.base.toList d else(kX X n).1 f.base.toList d) w db w0.heap.size (.slice la ll lc) L (1000*(d.length+1))):=by
 subst SZ;obtain⟨da,dc,BR⟩:∃ a c,dv=.slice a d.length c:=hd.1.slice
 subst BR
 by_cases h2:f.shape=2
 ·have h2B:((f.shape:Int)==2)=true:=by simp;omega
  rw[if_pos h2];have HC:=U (fun w' (JG:Below w.heap.size w w')=>hL w0 w' db lo la ll lc v _ L d f.base hI hd hE (hb.trans (JG.mono hb.size)) vr (h.below JG) yU hF);clear hI h hE hV hL hd hF
  go_enter func283,ntmps283
  go_wp2_with fail
  refine(HC.o _ ((Below.refl _ _).alloc (Nat.le_refl _) _)).mono ?_;intro e w1 h1;have HP:=U (h1.nM ((Below.refl _ _).alloc (Nat.le_refl _) _));obtain⟨ok,v',S,rfl,_⟩:=h1
  go_wp2_with fail
  go_ret
  exact HP.o
 ·have h2B:((f.shape:Int)==2)=false:=by simp;omega
  rw[if_neg h2];have HC:=U (fun w' (JG:Below w.heap.size w w')=>hV w0 w' db lo la ll lc v _ L d f.base hI hd hE (hb.trans (JG.mono hb.size)) vr (h.below JG) yU hF);clear hI h hE hV hL hd hF
  go_enter func283,ntmps283
  go_wp2_with fail
  refine(HC.o _ ((Below.refl _ _).alloc (Nat.le_refl _) _)).mono ?_;intro e w1 h1;have HP:=U (h1.nM ((Below.refl _ _).alloc (Nat.le_refl _) _));obtain⟨ok,v',S,rfl,_⟩:=h1
  go_wp2_with fail
  go_ret
  exact HP.o
def ky(X:List PIV):Nat→List FD→List UInt8→uH
 | 0=>fun _ _=>none
 | n+1=>Wu (kX X n).1 (kX X n).2
theorem Hy(X:List PIV)(n:Nat):(kX X n).1=rO (nJ X) (ky X n):=by cases n<;>rfl
structure aaU(fs:List PField):Prop where
 len:fs.length≤400
 num:∀ f∈fs,0≤f.number∧f.number≤99
 nm:∀ f∈fs,1≤f.name.size∧f.name.size≤400
 ne:fs.Pairwise fun f g=>f.number≠g.number
def aaV(X:List PIV)(n:Nat):Prop:=∀ (w0 w:World) (db lo:Nat) (la:Option Addr) (ll lc:Nat) (v dv:Value) (L d:List UInt8) (fv:Value) (fs:List PField),PIts w0 lo (.slice la ll lc) X→om w0 dv d→mR w0→Below w0.heap.size w0 w→w0.heap.size≤db→yu w db w0.heap.size (.slice la ll lc) v L→d.length≤64→WB L.length d.length →
 w0.ownsRow lo 246 7 fv fs.length (fs.flatMap pfCells)→aaU fs →
 Calls Tryz.prog 270 #[.pointer (some ⟨db,0,none⟩),fv,dv,.int .i64 ((7:Int)-n)] w (iy (ky X n (fs.map yT) d) w db w0.heap.size (.slice la ll lc) L (1000*(d.length+1)))
theorem AN(hM:aaV X n)(hX:M0 X)(hN:∀ x∈X,x.it.fields.Pairwise fun f g=>f.number≠g.number):SW X n:=by
 intro w0 w db lo la ll lc v dv L d base hI hd hE hb vr h yU hF;obtain⟨dd,SZ⟩:∃ dd:Int,dd=(7:Int)-(n:Int):=⟨_,rfl⟩
 rw[← SZ];rw[Hy];obtain⟨da,dc,BR⟩:∃ a c,dv=.slice a d.length c:=hd.1.slice
 subst BR;have hz:=hb.size;have HIw:=U (hI.below hb);have HEw:=U (hE.below hb);have Dv:=U (hd.gr hb)
 have e0:w.cell? (aj db 0)=some (.slice la ll lc):=by
  obtain⟨p,_,hd⟩:=h.d;exact hd.seg.cell (j:=0) rfl
 have HLn:=U (show L.length≤800000000 by have:=hF.o;omega);have WC:d.length≤1000:=by omega
 have H:=U h;have HE:=U hE;have HI:=U hI;have HM:=U hM;have HDD:=U SZ;have HX:=U hX;have HD:=U hd;have HN:=U hN;clear h hE hI hM SZ hX hd hN
 cases aA:(base.toList==[105,110,116]) with
 | true=>
  have HS:=U (show rO (nJ X) (ky X n) base.toList d=(fC d).map (fun m=>Lib.itoa (qE m)) by unfold rO;rw[if_pos (by simpa[Cf] using aA)])
  go_enter func256,ntmps256
  go_wp2_with fail
  refine(EW w db w0.heap.size _ v _ L d H.o Dv.o WC HEw.o (by have:=HLn.o;omega) hz).mono ?_;intro e w1 h1;have HP:=U (h1.sF HS.o (K':=1000*(d.length+1)) (by omega));obtain⟨ok,v',S,rfl,_⟩:=h1
  go_wp2_with fail
  go_ret
  exact HP.o
 | false=>
  cases aW:(base.toList==[98,111,111,108]) with
  | true=>
   have HS:=U (show rO (nJ X) (ky X n) base.toList d=vV ([ByteArray.mk #[102,97,108,115,101],ByteArray.mk #[116,114,117,101]].map ByteArray.toList) d by
    unfold rO;rw[if_neg (by simpa[Cf] using aA),if_pos (by simpa[xw] using aW)]
    simp[ByteArray.toList_eq,nU])
   go_enter func256,ntmps256
   go_wp2_with fail
   have nF:Below w.heap.size w (w.alloc (.cells #[.string (ByteArray.mk #[102,97,108,115,101]),.string (ByteArray.mk #[116,114,117,101])] 9)):=(Below.refl _ _).alloc (Nat.le_refl _) _;refine(xC _ db w0.heap.size w.heap.size _ v _ _ L d [ByteArray.mk #[102,97,108,115,101],ByteArray.mk #[116,114,117,101]] (H.o.below nF) (Dv.o.gr nF) WC (by have:=World.ownsRow_lit (base:=w.heap.size) (e:=9) (size:=1) w #[.string (ByteArray.mk #[102,97,108,115,101]),.string (ByteArray.mk #[116,114,117,101])] 2 (by simp) (by unfold maxLen;omega) rfl;simpa[ie] using this) (by simp) (by decide) (by have:=HLn.o;omega) (by simp;omega)).mono ?_;intro e w1 h1;have HP:=U ((h1.nM nF).sF HS.o (K':=1000*(d.length+1)) (by omega));obtain⟨ok,v',S,rfl,_⟩:=h1
   go_wp2_with fail
   go_ret
   exact HP.o
  | false=>
   cases bP:(base.toList==[116,101,120,116]) with
   | true=>
    have HS:=U (show rO (nJ X) (ky X n) base.toList d=some (AF d) by unfold rO;rw[if_neg (by simpa[Cf] using aA),if_neg (by simpa[xw] using aW),if_pos (by simpa[C9] using bP)]);have QP:=U (show (AF d).length≤1000*(d.length+1) by unfold AF;rw[List.length_cons,List.length_append,List.length_singleton];have:=SR d;omega);unfold iy
    go_enter func256,ntmps256
    go_wp2_with fail
    refine(EX w db w0.heap.size _ v _ L d H.o Dv.o WC HD.o.1.lt vr (by have:=HLn.o;omega) hz).mono ?_;rintro e w1 ⟨rfl,v1,vW,yh⟩;have Dq:=U vW;have Y0:=U yh;clear vW yh
    go_wp2_with fail
    go_ret
    exact⟨true,v1,AF d,rfl,Dq.o,Y0.o,QP.o,HS.o⟩
   | false=>
    have HS:=U (show rO (nJ X) (ky X n) base.toList d=(match nJ X base.toList with | none=>none | some (.inl ns)=>vV ns d | some (.inr fs)=>ky X n fs d) by unfold rO;rw[if_neg (by simpa[Cf] using aA),if_neg (by simpa[xw] using aW),if_neg (by simpa[C9] using bP)];cases nJ X base.toList with | none=>rfl | some t=>cases t<;>rfl)
    go_enter func256,ntmps256
    go_wp2_with fail
    refine(qz _ lo _ X base HIw.o HX.o.YS HX.o.len).mono ?_;rintro e w1 ⟨yp,hT⟩
    rcases hT with⟨rJ,rfl⟩ | ⟨k,x,nn,hk,hx,iD,MM,RJ,rfl⟩
    ·have YR:=U (show rO (nJ X) (ky X n) base.toList d=none by
      rw[HS.o];have:nJ X base.toList=none:=by unfold nJ;split<;>simp[rJ]
      rw[this])
     clear rJ
     go_wp2_with fail
     go_ret
     have qZ:Below w.heap.size w (w1.alloc (.cells #[vI 0,.string ⟨#[]⟩,vI 0,.slice none 0 0,.slice none 0 0,.string ⟨#[]⟩,vI 0,.string ⟨#[]⟩,vI 0] 117)):=yp.alloc yp.size _;exact⟨false,v,[],rfl,by have:=H.o.below qZ;simpa using this,DF.ofBelow _ qZ,by simp,YR.o⟩
    ·have BN:=List.mem_of_getElem? hx
     have tM:=HX.o.fl x BN;have Cl:=HX.o.nl x BN;have YT:=U (HI.o.nest x BN).f;have Sk:=U ((HIw.o.below yp).nest x BN).n;rw[MM] at YT;rw[RJ] at Sk;have CS:=U (show aaU x.it.fields from⟨tM,HX.o.n x BN,HX.o.s x BN,HN.o x BN⟩);have Pc:=U (HX.o.nn x BN);have HTY:=U (show nJ X base.toList=if x.it.kind=0 then some (.inr (x.it.fields.map yT)) else some (.inl (x.it.names.map fun t=>t.text.toList)) by unfold nJ;rw[hk];simp only[Int.toNat_natCast,hx];rw[if_neg (by omega)]);obtain⟨it,vf,vn⟩:=x;obtain⟨kind,nm,fields,names,bs,an⟩:=it;obtain⟨YE,YF,Z6,inc,Z7,Z8,Z9,iaa⟩:=nn;simp only at iD tM Cl YT Sk CS Pc HTY ⊢;clear hk hx BN MM RJ;have qZ:Below w.heap.size w (w1.alloc (.cells #[vI kind,.string nm.text,vI nm.at_,.slice YE fields.length YF,.slice Z6 names.length inc,.string Z7,vI Z8,.string Z9,vI iaa] 117)):=yp.alloc yp.size _;have Wg:Below w1.heap.size w1 (w1.alloc (.cells #[vI kind,.string nm.text,vI nm.at_,.slice YE fields.length YF,.slice Z6 names.length inc,.string Z7,vI Z8,.string Z9,vI iaa] 117)):=(Below.refl _ _).alloc (Nat.le_refl _) _
     rcases iD with rfl | rfl
     ·have V2:=U (show rO (nJ X) (ky X n) base.toList d=ky X n (fields.map yT) d by rw[HS.o,HTY.o];rfl)
      go_wp2_with fail
      refine(HM.o w0 _ db lo la ll lc v _ L d _ fields HI.o HD.o HE.o (hb.trans (qZ.mono hz)) vr (H.o.below qZ) yU hF YT.o CS.o |> fun z=>by rw[HDD.o];exact z:Calls _ _ _ _ _).mono ?_;intro e w2 h2;have HP:=U ((h2.nM qZ).sF V2.o (Nat.le_refl _));obtain⟨ok,v',S,rfl,_⟩:=h2
      go_wp2_with fail
      go_ret
      exact HP.o
     ·have V2:=U (show rO (nJ X) (ky X n) base.toList d=vV ((names.map fun t=>t.text).map ByteArray.toList) d by rw[HS.o,HTY.o];simp[List.map_map,Function.comp_def])
      go_wp2_with fail
      refine(xz _ lo _ _ _ _ _ _ _ _ _ _ _ _ names (aH Sk.o (fun g hg=>Wg.block g (Sk.o.lt g hg).2)) Cl).mono ?_;rintro e w2 ⟨ca,cc,rfl,uD,aW⟩;have KR:Below w.heap.size w w2:=qZ.trans (aW.mono qZ.size);have Yt:=U uD;clear uD
      go_wp2_with fail
      refine(xC w2 db w0.heap.size _ _ v _ _ L d (names.map fun t=>t.text) (H.o.below KR) (Dv.o.gr KR) WC (by have:=Yt.o;rw[List.length_map,List.map_map];exact this) (by rw[List.length_map];exact Cl) (fun q hq=>by obtain⟨y,hy,rfl⟩:=List.mem_map.1 hq;exact(Pc.o y hy).2) (by have:=HLn.o;omega) (by have:=KR.size;omega)).mono ?_;intro e w3 h3;have HP:=U ((h3.nM KR).sF V2.o (K':=1000*(d.length+1)) (by omega));obtain⟨ok,v',S,rfl,_⟩:=h3
      go_wp2_with fail
      go_ret
      exact HP.o
theorem S9(l:List (Nat × Value))(k:Nat)(x:Nat × Value)(h:l[k]? = some x):((l.flatMap en).drop (k*2)).take 2=en x:=by
 induction l generalizing k with
 | nil=>simp at h
 | cons a r ih=>
  rw[List.flatMap_cons]
  cases k with
  | zero=>simp at h;subst h;simp[en]
  | succ k=>
   simp at h;rw[List.drop_append,List.drop_eq_nil_of_le (by simp[en];omega),List.nil_append,show (k+1)*2-(en a).length=k*2 from by simp[en];omega];exact ih k h
theorem Hz{us:List (Nat × Value)}(h:w.ownsRow lo 373 2 v us.length (us.flatMap en)){j:Nat}{x:Nat × Value}(hj:us[j]? = some x):∃ g c,v=.slice (some (aj g 0)) us.length c∧lo≤g∧g<w.heap.size∧dU w g 373 (j*2) (en x):=by
 have bC:=at_lt hj;obtain⟨g,c,hv,hg,hs⟩:=h.form (by omega);rw[hv] at h;have:=(yP h).part (j*2) 2 (en x) (S9 _ j x hj) rfl (by omega);exact⟨g,c,hv,hg,hs,by simpa using this⟩
def qG(us:List (Nat × Value))(m:Nat):Int:=match us.findIdx? (fun x=>x.1==m) with | some i=>i | none=>-1
theorem K3{us:List (Nat × Value)}{k:Nat}{x:Nat × Value}(hk:us[k]? = some x)(hm:(x.1==m)=true)(mG:∀ j y,j<k→us[j]? = some y→(y.1==m)=false):qG us m=k:=by
 have bC:=at_lt hk;have e:us[k]=x:=by rw[List.getElem?_eq_getElem bC] at hk;simpa using hk
 unfold qG
 have:us.findIdx? (fun x=>x.1==m)=some k:=by
  rw[List.findIdx?_eq_some_iff_getElem];refine⟨bC,by rw[e];exact hm,fun j hj=>?_⟩;have:=mG j us[j] hj (List.getElem?_eq_getElem (by omega));simp at this ⊢;exact this
 rw[this]
theorem HJ{us:List (Nat × Value)}(mG:∀ j y,j<us.length→us[j]? = some y→(y.1==m)=false):qG us m = -1:=by
 unfold qG
 have:us.findIdx? (fun x=>x.1==m)=none:=by
  rw[List.findIdx?_eq_none_iff];intro x hx;obtain⟨j,hj,rfl⟩:=List.getElem_of_mem hx;exact mG j _ hj (List.getElem?_eq_getElem hj)
 rw[this]
theorem Cr(w:World)(n m:Nat)(pa:Option Addr)(pl pc fb:Nat)(hm:m≤99)(hc:w.cell? (aj fb 0)=some (vI m))(QW:fb<w.heap.size):
  aT 282 #[.agg #[vU n,.slice pa pl pc],aM fb] w fun e w'=>e=.returned (.bool (n==m))∧Below w.heap.size w w':=by
 have BG:IntKind.u64.wrap (m:Int)=(m:Int):=by rw[IntKind.wrap_u64];omega
 have HB:=U (show ((n:Int)==(m:Int))=(n==m) by rw[Bool.eq_iff_iff];simp;omega)
 go_enter func282,ntmps282
 go_wp2_with fail
 all_goals
  go_ret
  exact⟨bR (by first | exact HB.o | simp),(Below.refl _ _).alloc (Nat.le_refl _) _⟩
theorem Ia(w:World)(lo:Nat)(pv:Value)(us:List (Nat × Value))(m fb:Nat)(h:w.ownsRow lo 373 2 pv us.length (us.flatMap en))(vQ:∀ x∈us,∃ a l c,x.2=.slice a l c)(hl:us.length≤1000)(hm:m≤99)(hc:w.cell? (aj fb 0)=some (vI m))(QW:fb<w.heap.size):
  aT 281 #[pv,.func (Fn.func 282) #[] #[aM fb]] w fun e w'=>e=.returned (vI (qG us m))∧Below w.heap.size w w':=by
 obtain⟨la,lc,nk⟩:∃ a c,pv=.slice a us.length c:=ax h
 subst nk;have H:=U h;have Y3:=U vQ;clear h vQ
 go_enter func281,ntmps281
 go_wp2_with fail
 go_loopg [5,8] us.length (fun gk t i wr=>∃ k:Nat,k+gk=us.length∧i=.int .i64 k∧Hid (∀ j y,j<k→us[j]? = some y→(y.1==m)=false)∧Below w.heap.size w wr)
 case atStart=>exact⟨0,by omega,rfl,U (fun j y hj=>by omega),Below.refl _ _⟩
 case round=>
  obtain⟨k,hk,rfl,HA,bi⟩:=hrel
  by_cases bC:k<us.length
  ·obtain⟨x,hx⟩:∃ x,us[k]? = some x:=⟨us[k],List.getElem?_eq_getElem bC⟩
   obtain⟨xa,xl,xc,RI⟩:=Y3.o x (List.mem_of_getElem? hx);obtain⟨g,cap,hv,vH,xT,hs⟩:=Hz (aH H.o (fun g hg=>bi.block g (H.o.lt g hg).2)) hx;obtain⟨rfl,rfl⟩:la=some (aj g 0)∧lc=cap:=by simpa using hv
   obtain⟨xn,xv⟩:=x;simp only at RI;subst RI;have c0:wr.cell? ⟨g,k*2,none⟩=some (vU xn):=hs.cell (j:=0) rfl;have c1:wr.cell? ⟨g,k*2+1,none⟩=some (.slice xa xl xc):=hs.cell (j:=1) rfl;have HX:=U hx;have fZ:wr.cell? (aj fb 0)=some (vI m):=by rw[bi.cell QW];exact hc
   have ale:fb<wr.heap.size:=Nat.lt_of_lt_of_le QW bi.size;clear hs hv hx
   go_wp2_with fail
   refine(Cr _ xn m xa xl xc fb hm fZ ale).mono ?_;rintro e w1 ⟨rfl,aA⟩;have aW:=bi.trans (aA.mono bi.size);clear c0 c1 aA fZ
   cases wY:(xn==m) with
   | false=>
    go_wp2_with fail
    go_roundg (gk-1)
    case rel=>exact⟨k+1,by omega,by go_num,U (fun j y hj hy=>by
     rcases Nat.lt_or_ge j k with h | h
     ·exact HA.o j y h hy
     ·rw[show j=k from by omega,HX.o] at hy;simp at hy;subst hy;exact wY),aW⟩
    case measure=>omega
   | true=>
    have HF:=U (K3 HX.o wY HA.o)
    go_wp2_with fail
    go_ret
    exact⟨mH HF.o.symm,aW⟩
  ·go_wp2_with fail
   go_ret
   exact⟨mH (HJ (fun j y hj=>HA.o j y (by omega))).symm,bi⟩
end Go.Proofs.YtkpfplbmmglkkaaGreatDoor
