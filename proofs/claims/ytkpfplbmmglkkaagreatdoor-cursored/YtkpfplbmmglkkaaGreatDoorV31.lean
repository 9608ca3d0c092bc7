/- Package ends: the server: Out, Down, Receive; take of Hello, Here, Call. -/
import Derived.Test.YtkpfplbmmglkkaaGreatDoorV27
import Derived.Test.YtkpfplbmmglkkaaGreatDoorV30
set_option linter.all false
set_option maxHeartbeats 8000000
set_option maxRecDepth 100000
namespace Go.Proofs.YtkpfplbmmglkkaaGreatDoor
open Go.Proofs.Tryz
variable {lo n i:Nat}{w w':World}{g:SG}{v tA:Value}{l:List Nat}{s:cZ}{m:iq}
open Go.RowKit Go.Conc
theorem aaC(h:cB lo w g)(hL:∀ p∈g.L,lH p∧(bO p).length≤120)(h60:g.L.length≤60):
  aT 85 #[aM g.b] w (fun e w'=>∃ v vs,e=.returned v∧B6 w' w.heap.size v vs (g.L.map (fun p=>cd eQ (bO p)))∧dw lo w g { g.st with L:=[] } w' { g with L:=[] }):=by
 refine(M5 w g.b _ _ _ _ _ g.bu g.fN g.up g.tl g.L g.q g.m h.bG hL h60).mono ?_;rintro e w' ⟨v,vs,rfl,h1,h2,h3⟩;exact⟨v,vs,rfl,h2,h.Gf h3 h1.vi h1.D9⟩
theorem AA{q:SP}(h:cB lo w g)(p:aS)(hp:lH p)(hd9:p.data.size≤900)(bA:Int)(Vu:g.st.gl bA=true)(a:Option Addr)(c:Nat)(F:List UInt8)(hr:Rd w (.slice a F.length c) F)(hl:F.length≤2000000)(zz:F.length≤c)(hn:kH eQ F=some (bO p))
  (hT:∀ w2,Below w.heap.size w w2→aT 175 #[aM g.b,lQ p] w2 (fun e w'=>e=.returned (.tuple #[])∧∃ g',dw lo w2 g q w' g')) :
  aT 124 #[aM g.b,vI bA,.slice a F.length c] w (fun e w'=>e=.returned (vI 0)∧∃ g',dw lo w g q w' g'):=by
 have H:=U h;have HR:=U hr;have HN:=U hn;have HP:=U hp;have ph:=U hT;have HU:=U (show (g.up&&decide (bA=g.bu))=true from Vu);clear h hr hn hp Vu hT
 go_enter func124,ntmps124
 go_wp2_with fail
 refine(F4 _ g.b _ _ _ _ _ g.bu g.fN g.up g.q g.m g.tl H.o.ap bA).mono ?_;rintro e w1 ⟨rfl,rfl⟩;rw[HU.o]
 go_wp2_with fail
 refine(ID w1 p HP.o hd9 a c F HR.o hl zz HN.o).mono ?_;rintro e w2 ⟨rfl,aW⟩;obtain⟨w3,iK,bP,gz⟩:=eK w2 p;obtain⟨r0,r1,r2,r3,r4,r5⟩:=gz.c6;have ja:=aW.trans (bP.mono aW.size);have Iv:=U ja;clear aW bP gz ja
 go_wp2_with fail
 refine(ph.o w3 Iv.o).mono ?_;rintro e w4 ⟨rfl,g4,h4⟩;have HT:=U (h4.bz Iv.o);clear h4
 go_wp2_with fail
 go_ret
 exact⟨rfl,g4,HT.o⟩
theorem SG.IF(g:SG):g.fj.st=(match g.st.aY with | some o=>{ g.st with aY:=some { o with silence:=0 } } | none=>g.st):=by
 rcases Option.eq_none_or_eq_some g.aY with hs | ⟨s,hs⟩
 ·rw[SG.tu hs,show g.st.aY=none by unfold SG.st;rw[hs];rfl]
 ·rw[SG.tw hs,SG.tO hs]
  rfl
theorem SG.PT(h:SSp g.st):SSp g.fj.st:=by
 rw[SG.IF]
 cases ho:g.st.aY with
 | none=>exact h
 | some o=>exact h.mono rfl (fun o' mz=>⟨o,ho,by cases mz;exact⟨rfl,rfl⟩⟩)
theorem SG.uP(g:SG)(ask:SP.jX)(W:Nat){p:aS}(h:p.kind≤5):g.st.take ask W p=g.fj.st.Yl W p:=by
 rw[SG.IF];exact if_pos h
def gM(w:World)(lo:Nat)(v:Value)(l:List Nat):Prop:=w.ownsRow lo 158 1 v l.length (l.map aJ)
theorem gM.at(h:gM w lo v l){k:Nat}(hk:k<l.length):∃ ga c,v=.slice (some (aj ga 0)) l.length c∧lo≤ga∧ga<w.heap.size∧w.cell? (aj ga k)=some (.pointer (some ⟨l[k],0,none⟩)):=by
 rcases h.2 with⟨_,e⟩ | ⟨ga,c,cur,hv,r⟩
 ·omega
 ·refine⟨ga,c,hv,(h.lt ga (by rw[hv];rfl)).1,(h.lt ga (by rw[hv];rfl)).2,?_⟩
  have:=h.cells (g:=ga) (by rw[hv];rfl) k (aJ l[k]) (by simp[List.getElem?_eq_getElem hk]);rw[dF _ _ rfl] at this;exact(by simpa using this:w.cell? (aj ga k)=some (aJ l[k]))
theorem gM.below(h:gM w lo v l)(hb:Below w.heap.size w w'):gM w' lo v l:=aH h (fun g hg=>hb.block g (h.lt g hg).2)
def yC(l:List Nat)(f:Nat→Bool)(i:Nat):Bool:=match l[i]? with | some p=>f p | none=>false
theorem agL(C:Nat)(hC:C=261∨C=245)(w:World)(lo:Nat)(v:Value)(l:List Nat)(cb:Nat)(f:Nat→Bool)(h:gM w lo v l)(hl:l.length≤1000000)
  (tZ:∀ wr,aQ (fun k=>v.ownBlock=some k) w wr→∀ p∈l,aT C #[aM p,aM cb] wr (fun e w'=>e=.returned (.bool (f p))∧Below wr.heap.size wr w')) :
  aT 260 #[v,.func (Fn.func C) #[] #[aM cb]] w (fun e w'=>∃ z:Int,e=.returned (vI z)∧yM l.length (yC l f) z∧Below w.heap.size w w') :=
 VC 260 C 158 (by rcases hC with rfl | rfl<;>simp) w lo v l cb (yC l f) h hl (fun wr hb i hi=>by
  have:=tZ wr (aQ.aI hb) _ (List.getElem_mem hi);rw[show yC l f i=f l[i] by unfold yC;rw[List.getElem?_eq_getElem hi]]
  exact this)
theorem PU{g c:Nat}{xs:List Value}(h:w.ownsRow lo 158 1 (.slice (some (aj g 0)) n c) n xs)(hi:i<n):∃ w',(∀ ty c',(Builtin.clear_ #[155] ty #[.slice (some (aj g i)) (n-i) c']).run Tryz.prog w=.ok (.tuple #[]) w')∧w'.ownsRow lo 158 1 (.slice (some (aj g 0)) i c) i (xs.take i)∧aQ (fun k=>k=g) w w':=by
 obtain⟨h1,h2⟩:=h
 rcases h2 with⟨hv,_⟩ | ⟨g',cap,cur,hv,hl,hh,h3,h4,h5,h6⟩
 ·simp at hv
 ·obtain⟨rfl,rfl⟩:g=g'∧c=cap:=by simpa using hv
  obtain⟨m,hm⟩:∃ m,n-i=m+1:=⟨n-i-1,by omega⟩
  obtain⟨Z,hZ⟩:∃ Z,Z=(Builtin.zeroCells #[.pointer none] (m+1)).toList:=⟨_,rfl⟩
  have hZl:Z.length=m+1:=by rw[hZ];simp[Builtin.zeroCells]
  have hlen:i+Z.length≤cur.size:=by rw[hZl,h5];omega
  have jD:=run_storeCells_cells (P:=Tryz.prog) g i Z 0 w (fun j hj=>by
   have:i+(0+j)<cur.size:=by omega
   simp[World.cell?,hh]
   omega) (fun j hj=>by simp[World.frozen?,hh]) (fun v hv=>by
   rw[hZ] at hv;simp only[Builtin.zeroCells,Array.toList_map,List.mem_map] at hv;obtain⟨q,_,rfl⟩:=hv;have h6:q % 1<1:=Nat.mod_lt _ (by omega);show Value.oneCell' ((#[Value.pointer none]:Array Value)[q % 1]!)=true;generalize q % 1=r at h6
   match r,h6 with
   | 0,_=>rfl)
  simp only[Nat.add_zero] at jD;obtain⟨sG,jk,jO⟩:=oA (b:=g) (T:=158) Z i w cur hh hlen;obtain⟨r1,r2,r3,r4⟩:=nh (b:=g) Z i w;refine⟨w.setCells g i Z,fun ty c'=>?_,⟨by rw[List.length_take,h1];omega,Or.inr ⟨g,c,sG,rfl,hl,jk,by omega,h4,?_,?_⟩⟩,⟨r1,r2,r3,by rw[r4];exact Nat.le_refl _,fun k _ hk=>lZ Z i w k hk⟩⟩
  ·rw[hm]
   have hz:(Builtin.zeroCells (Value.pointer none).cells (m+1)).toList=Z:=hZ.symm;simp[Builtin.clear_,run_underlying underlying155,hz,jD,Result.andThen]
  ·have:sG.toList.length=cur.toList.length:=by rw[jO];simp;omega
   simpa[h5] using this
  ·rw[jO,← h6,List.take_take,List.append_assoc,List.take_append_of_le_length (by simp;omega),List.take_take]
   congr 1
   omega
structure TY(l:List Nat)(f:Nat→Bool)(w:World)(lo:Nat)(v:Value)(i j:Nat)(wr:World):Prop where
 row:∃ M:List Nat,M.length=l.length∧M.take i=(l.take j).filter (fun p=>!f p)∧M.drop j=l.drop j∧w.heap.size≤wr.heap.size∧wr.ownsRow lo 158 1 v l.length (M.map aJ)
 dW:aQ (fun k=>v.ownBlock=some k) w wr
theorem oX{f:Nat→Bool}:∀ {k:Nat},(∀ j,j<k→yC l f j=false)→k≤l.length→(l.take k).filter (fun p=>!f p)=l.take k
 | 0,_,_=>by simp
 | k+1,h,hk=>by
  have bC:k<l.length:=by omega
  rw[List.take_add_one,List.getElem?_eq_getElem bC,List.filter_append,oX (fun j hj=>h j (by omega)) (by omega)];have:=h k (by omega);unfold yC at this;rw[List.getElem?_eq_getElem bC] at this;simp at this;simp[this]
theorem Fl{f:Nat→Bool}(h:∀ j,j<l.length→yC l f j=false):l.filter (fun p=>!f p)=l:=by
 have:=oX h (Nat.le_refl _);rwa [List.take_length] at this
theorem TY.start{f:Nat→Bool}{w1:World}{k:Nat}(h:gM w lo v l)(hb:Below w.heap.size w w1)(hk:k<l.length)(hf:yC l f k=true)(hn:∀ j,j<k→yC l f j=false):TY l f w lo v k (k+1) w1 :=
 ⟨⟨l,rfl,by
  rw[List.take_add_one,List.getElem?_eq_getElem hk,List.filter_append,oX hn (by omega)];unfold yC at hf;rw[List.getElem?_eq_getElem hk] at hf;simp at hf
  simp[hf],rfl,hb.size,h.below hb⟩,aQ.aI hb⟩
theorem agM(w:World)(lo:Nat)(v:Value)(l:List Nat)(cb:Nat)(f:Nat→Bool)(h:gM w lo v l)(hl:l.length≤1000000)
  (tZ:∀ wr,aQ (fun k=>v.ownBlock=some k) w wr→∀ p∈l,aT 245 #[aM p,aM cb] wr (fun e w'=>e=.returned (.bool (f p))∧Below wr.heap.size wr w')) :
  aT 244 #[v,.func (Fn.func 245) #[] #[aM cb]] w (fun e w'=>∃ v',e=.returned v'∧gM w' lo v' (l.filter (fun p=>!f p))∧aQ (fun k=>v.ownBlock=some k) w w'∧v'.ownBlock=v.ownBlock):=by
 obtain⟨la,lc,rfl⟩:=ax h;have HH:=U h;have HC:=U tZ;clear h tZ
 go_enter func244,ntmps244
 go_wp2_with fail
 refine(agL 245 (.inr rfl) w lo _ l cb f HH.o hl HC.o).mono ?_;rintro e w1 ⟨z,rfl,hz,aA⟩
 rcases hz with⟨k,hk,hf,Tj,rfl⟩ | ⟨nH,rfl⟩
 ·have hkm:((k:Int) == -1)=false:=by simp
  have jD:TY l f w lo (.slice la l.length lc) k (k+1) w1:=TY.start HH.o aA hk hf Tj;have BK:=U jD;clear jD hf Tj
  obtain⟨g,hla,alk,hgw⟩:∃ g,la=some (aj g 0)∧lo≤g∧g<w.heap.size:=by
   obtain⟨g,c,hv,h1,h2,_⟩:=HH.o.at hk;exact⟨g,(by simpa using hv:la=some (aj g 0)∧lc=c).1,h1,h2⟩
  subst hla
  go_wp2_with fail
  go_loopg [5,6,7] l.length (fun gk x y z wr=>∃ i j:Nat,j+gk=l.length+(k+1)∧j≤l.length∧x=.int .i64 i∧y=.int .i64 j∧i<j∧Hid (TY l f w lo (.slice (some (aj g 0)) l.length lc) i j wr))
  case atStart=>exact⟨k,k+1,by omega,by omega,rfl,by first | rfl | go_num,by omega,BK⟩
  case round=>
   obtain⟨i,j,hj,N7,rfl,rfl,U0,HI⟩:=hrel
   by_cases bC:j<l.length
   ·have ej:(j:Int)<(l.length:Int):=by omega
    obtain⟨M,hM1,Pz,QY,mI,dP⟩:=HI.o.row
    have Y5:M[j]? = l[j]?:=by
     have h1:(M.drop j)[0]? = (l.drop j)[0]?:=by rw[QY]
     simpa using h1
    have hPr:gM wr lo (.slice (some (aj g 0)) l.length lc) M:=by unfold gM;rw[hM1];exact dP
    have hjM:j<M.length:=by omega
    have hiM:i<M.length:=by omega
    obtain⟨p,hp⟩:∃ p,l[j]? = some p:=⟨l[j],List.getElem?_eq_getElem bC⟩
    have hpj:M[j]=p:=by
     rw[List.getElem?_eq_getElem hjM,hp] at Y5;simpa using Y5
    have La:=hPr.at hjM;have WM:=hPr.at hiM;rw[hpj] at La;obtain⟨ga,_,Ko,_,_,La⟩:=La;obtain⟨gb,_,sB,_,_,WM⟩:=WM;have ea:g=ga:=by simp at Ko;exact Ko.1
    have eb:g=gb:=by simp at sB;exact sB.1
    subst ea;subst eb;have HP:=U hp;have HPM:=U (List.mem_of_getElem? hp);have GC:=U dP;have HM:=U (And.intro hM1 (And.intro Pz QY));have HCI:=U WM;clear WM Ko sB hpj Y5 hPr dP Pz QY hp
    go_wp2_with fail
    refine(HC.o _ HI.o.dW p HPM.o).mono ?_;rintro e w2 ⟨rfl,sI⟩;have yx:=U (HI.o.dW.oq sI);have FQ:=U (aH GC.o (fun q hq=>sI.block q (GC.o.lt q hq).2));have HZ2:=U (Nat.le_trans mI sI.size);have VE:=U sI;clear La sI
    cases hm:f p with
    | true=>
     go_wp2_with fail
     go_roundg (gk-1)
     case rel=>exact⟨i,j+1,by omega,by omega,rfl,by go_num,by omega,U ⟨⟨M,HM.o.1,by rw[List.take_add_one,HP.o,List.filter_append,HM.o.2.1];simp[hm],by rw[← List.drop_drop,← List.drop_drop,HM.o.2.2],HZ2.o,FQ.o⟩,yx.o⟩⟩
     case measure=>omega
    | false=>
     have FN:g<wr.heap.size:=by omega
     have d0:w2.cell? (aj g i)=some _:=(VE.o.cell (p:=(aj g i)) FN).trans HCI.o;have f0:=gJ FQ.o i;have rE:(i:Int)<(l.length:Int):=by omega
     have Lb:=U (kL (o:=i) FQ.o (aM p));rw[show (M.map aJ).set i (aM p)=(M.set i p).map aJ from(List.map_set ..).symm] at Lb;have QZ:=U (yx.o.setCell (aj g i) (aM p) (fun _=>rfl))
     go_wp2_with fail
     go_roundg (gk-1)
     case rel=>exact⟨i+1,j+1,by omega,by omega,by go_num,by go_num,by omega,U ⟨⟨M.set i p,by rw[List.length_set];exact HM.o.1,by
      have e1:(l.take (j+1)).filter (fun p=>!f p)=(l.take j).filter (fun p=>!f p)++[p]:=by
       rw[List.take_add_one,HP.o,List.filter_append];simp[hm]
      rw[e1,← HM.o.2.1,List.take_add_one,List.getElem?_set_self (by rw[HM.o.1];omega),List.take_set_of_le (Nat.le_refl _)]
      rfl,by
      rw[List.drop_set_of_lt (by omega),← List.drop_drop,← List.drop_drop,HM.o.2.2],QZ.o.size,Lb.o⟩,QZ.o⟩⟩
     case measure=>omega
   ·have ej:¬ (j:Int)<(l.length:Int):=by omega
    obtain⟨M,hM1,Pz,QY,mI,dP⟩:=HI.o.row;obtain⟨w3,tZ,Ig,js⟩:=PU dP (show i<l.length by omega);have Vl:=U (HI.o.dW);have alp:(i:Int)≤(l.length:Int):=by omega
    have alq:(i:Int)<(lc:Int):=by have:=Nf dP;omega
    have alr:¬ lc=i:=by omega
    have als:¬ i=lc:=by omega
    have HM:=U (show (M.map aJ).take i=(l.filter (fun p=>!f p)).map aJ∧i=(l.filter (fun p=>!f p)).length by
     have e:l.take j=l:=List.take_of_length_le (by omega);rw[e] at Pz;rw[← Pz,List.map_take]
     exact⟨rfl,by simp;omega⟩)
    have Lb:=U Ig;clear dP Ig Pz QY HI
    go_wp2_with fail
    go_ret
    refine⟨_,rfl,?_,Vl.o.same (js.mono (fun q _ e=>by rw[e];rfl)),rfl⟩;unfold gM;rw[← HM.o.1,← HM.o.2];exact Lb.o
 ·go_wp2_with fail
  go_ret
  exact⟨_,rfl,by rw[Fl nH];exact HH.o.below aA,aQ.aI aA,rfl⟩
theorem abK(w:World)(fb cb a n:Nat)(ha:w.cell? (aj fb 1)=some (vU a))(hn:w.cell? (aj cb 3)=some (vU n)):
  aT 245 #[aM fb,aM cb] w (fun e w'=>e=.returned (.bool (decide (a=n)))∧Below w.heap.size w w'):=by
 by_cases h:a=n
 ·have b1:((a:Int)==(n:Int))=true:=by simp[h]
  rw[decide_eq_true h];clear h
  go_enter func245,ntmps245
  go_wp2_with fail
  go_quiet (fail)
  go_wp2_with fail
  go_ret
  exact⟨rfl,below_drewN (Below.refl _ _) _⟩
 ·have b1:((a:Int)==(n:Int))=false:=by simp;omega
  rw[decide_eq_false h];clear h
  go_enter func245,ntmps245
  go_wp2_with fail
  go_quiet (fail)
  go_wp2_with fail
  go_ret
  exact⟨rfl,below_drewN (Below.refl _ _) _⟩
theorem abL(w:World)(p:aS)(cb n:Nat)(yR:cb<w.heap.size)(hn:w.cell? (aj cb 3)=some (vU n)):
  aT 247 #[lQ p,aM cb] w (fun e w'=>e=.returned (.bool (decide (p.number=n)))∧Below w.heap.size w w'):=by
 obtain⟨w0,eM,aN,aD⟩:=eK w p;obtain⟨e0,e1,e2,e3,e4,e5⟩:=aD.c6;have U5:w0.cell? (aj cb 3)=some (vU n):=(aN.cell (p:=(aj cb 3)) yR).trans hn;clear aD hn
 by_cases h:p.number=n
 ·have b1:((p.number:Int)==(n:Int))=true:=by simp[h]
  rw[decide_eq_true h];clear h
  go_enter func247,ntmps247
  go_wp2_with fail
  go_ret
  exact⟨rfl,aN⟩
 ·have b1:((p.number:Int)==(n:Int))=false:=by simp;omega
  rw[decide_eq_false h];clear h
  go_enter func247,ntmps247
  go_wp2_with fail
  go_ret
  exact⟨rfl,aN⟩
def PV(l:List iq)(n b:Nat):Bool:=l.any (fun m=>decide (m.ap=b)&&decide (m.f.number=n))
theorem DL{α β:Type}{f:α → β}:∀ {l:List α},(l.map f).Nodup→∀ {x y:α},x∈l→y∈l→f x=f y→x=y
 | [],_,_,_,hx,_,_=>by cases hx
 | a::l,hn,x,y,hx,hy,e=>by
  have hn':f a∉l.map f∧(l.map f).Nodup:=List.nodup_cons.1 hn
  rcases List.mem_cons.1 hx with rfl | hx
  ·rcases List.mem_cons.1 hy with rfl | hy
   ·rfl
   ·exact absurd (List.mem_map.2 ⟨y,hy,e.symm⟩) hn'.1
  ·rcases List.mem_cons.1 hy with hy | hy
   ·exact absurd (List.mem_map.2 ⟨x,hx,e.trans (by rw[hy])⟩) hn'.1
   ·exact DL hn'.2 hx hy e
theorem y7:∀ {l:List iq} {n:Nat} {m:iq},(l.map (fun m=>m.ap)).Nodup→m∈l→PV l n m.ap=decide (m.f.number=n):=fun {l n m} hn hm=>by
 unfold PV
 by_cases h:m.f.number=n
 ·rw[decide_eq_true h,List.any_eq_true]
  exact⟨m,hm,by simp[h]⟩
 ·rw[decide_eq_false h,List.any_eq_false]
  intro x hx
  by_cases hb:x.ap=m.ap
  ·have:x=m:=DL hn hx hm hb
   subst this;simp[h]
  ·simp[hb]
theorem IG{l:List iq}(hn:(l.map (fun m=>m.ap)).Nodup):(l.map (fun m=>m.ap)).filter (fun b=>!PV l n b)=(l.filter (fun m=>!decide (m.f.number=n))).map (fun m=>m.ap):=by
 rw[List.filter_map]
 congr 1
 apply List.filter_congr;intro m hm;simp only[Function.comp,y7 hn hm]
theorem Nw:∀ (l:List iq) (sb:Nat) (dz:List Nat),(l.flatMap (iq.aF sb dz)).map Prod.fst=l.map (fun m=>m.ap)
 | [],_,_=>rfl
 | m::l,sb,dz=>by
  simp only[List.flatMap_cons,List.map_append,List.map_cons,Nw l sb dz];rfl
theorem cB.Nx(h:cB lo w g)(hs:g.aY=some s):(s.af.map (fun m=>m.ap)).Nodup:=by
 have p1:(s.aF g.dz).Perm (s.af.flatMap (iq.aF s.ap g.dz)++(s.cT++(s.jm++s.kR))):=bF (fun p=>by unfold cZ.aF;simp only[aP];omega);have:=((h.gK hs).left p1).qc;rw[Nw] at this;exact this
theorem cB.abM{pr:iq→Bool}(h:cB lo w g)(hs:g.aY=some s)(hc:aQ (fun k=>k=s.ap∨s.fv.ownBlock=some k) w w')(hB:aZ w' s.ap 157 (ec { s with fv:=tA,af:=s.af.filter pr }))(hA:w'.ownsRow lo 158 1 tA (s.af.filter pr).length ((s.af.filter pr).map (fun f=>aJ f.ap)))(iZ:∀ k,tA.ownBlock=some k→s.fv.ownBlock=some k∨w.heap.size≤k):
  dw lo w g { g.st with aY:=some { s.o with af:=(s.af.filter pr).map (fun f=>f.f) } } w' { g with aY:=some { s with fv:=tA,af:=s.af.filter pr } }:=by
 have hS:=h.gK hs;have bX:=h.nw hs;have di:lo≤s.ap:=(hS.lt (aL.bM.2 (Or.inl (aL.one.2 rfl)))).1;obtain⟨yY,mr⟩:=fQ hA (by decide)
 have hh:cE lo w' (({ s with fv:=tA,af:=s.af.filter pr }:cZ).cT++({ s with fv:=tA,af:=s.af.filter pr }:cZ).jm):=ay.2 ⟨ct di hB (by decide),yY,fun a ha c fZ e=>by
  rw[List.mem_singleton.1 ha] at e;have hk:=(be (e:=158) mr).1 ⟨c,fZ,rfl⟩;have e':s.ap=c.1:=e;rw[← e'] at hk
  exact hB.bY hA (by decide) hk⟩
 have hg:cM w (s.cT++s.jm) w' (({ s with fv:=tA,af:=s.af.filter pr }:cZ).cT++({ s with fv:=tA,af:=s.af.filter pr }:cZ).jm):=⟨hc.mono (fun i _ hi=>by
  rcases hi with rfl | hi
  ·exact aL.bM.2 (Or.inl (aL.one.2 rfl))
  ·exact aL.bM.2 (Or.inr ((be bX.rf).2 hi))),fun k hk=>by
  rcases aL.bM.1 hk with e | e
  ·exact Or.inl (aL.bM.2 (Or.inl (aL.one.2 (show k=s.ap from aL.one.1 e))))
  ·rcases iZ k ((be mr).1 e) with e | e
   ·exact Or.inl (aL.bM.2 (Or.inr ((be bX.rf).2 e)))
   ·exact Or.inr e⟩
 have p1:(s.aF g.dz).Perm ((s.cT++s.jm)++(s.af.flatMap (iq.aF s.ap g.dz)++s.kR)):=bF (fun p=>by unfold cZ.aF;simp only[aP];omega)
 have pf:(s.af.flatMap (iq.aF s.ap g.dz)).Perm ((s.af.filter pr).flatMap (iq.aF s.ap g.dz)++(s.af.filter (fun m=>!pr m)).flatMap (iq.aF s.ap g.dz)):=by
  rw[← List.flatMap_append];exact(List.Perm.flatMap_right _ (List.filter_append_perm pr s.af)).symm
 have hX:=(hS.bZ p1).dE hh hg;have hG:=hg.dE (R:=s.af.flatMap (iq.aF s.ap g.dz)++s.kR);generalize hX':({ s with fv:=tA,af:=s.af.filter pr }:cZ).cT++({ s with fv:=tA,af:=s.af.filter pr }:cZ).jm=X' at hX hG
 have p3:(X'++(s.af.flatMap (iq.aF s.ap g.dz)++s.kR)).Perm ((X'++((s.af.filter pr).flatMap (iq.aF s.ap g.dz)++s.kR))++(s.af.filter (fun m=>!pr m)).flatMap (iq.aF s.ap g.dz)):=by
  refine(List.Perm.append_left X' (List.Perm.append_right s.kR pf)).trans ?_;exact bF (fun p=>by simp only[aP];omega)
 have p2:(X'++((s.af.filter pr).flatMap (iq.aF s.ap g.dz)++s.kR)).Perm (({ s with fv:=tA,af:=s.af.filter pr }:cZ).aF g.dz):=by
  rw[← hX']
  exact bF (fun p=>by
   show _=cnt p (({ s with fv:=tA,af:=s.af.filter pr }:cZ).cT++(({ s with fv:=tA,af:=s.af.filter pr }:cZ).jm++((s.af.filter pr).flatMap (iq.aF s.ap g.dz)++s.kR)))
   simp only[aP];omega)
 have hG2:=hG.bZ p1.symm p3;exact h.ko (s':={ s with fv:=tA,af:=s.af.filter pr }) hs ((hX.left p3).bZ p2) ⟨hG2.c,fun k hk=>hG2.k k (aL.bM.2 (Or.inl ((aL.bZ p2).2 hk)))⟩ rfl rfl ⟨mr,bX.rn⟩
theorem agN(h:cB lo w g)(p:aS)(hs:g.aY=some s)(ht:s.ah=p.ah)(hn:s.number=p.ag)(fF:g.cur=true)(tM:s.af.length≤1000000)(MQ:s.aC.length≤1000):
  aT 211 #[aM g.b,lQ p] w (fun e w'=>e=.returned (.tuple #[])∧∃ g',dw lo w g (g.st.done g.W p) w' g'):=by
 obtain⟨w0,eM,aN,aD⟩:=eK w p;obtain⟨e0,e1,e2,e3,e4,e5⟩:=aD.c6;have H:=U h;have H0:=U (h.below aN);have gZ:=U aN;have ii:=U aD;have Hs:=U hs;have HC:=U (And.intro ht (And.intro hn fF));clear h hs ht hn fF aN aD
 go_enter func211,ntmps211
 go_wp2_with fail
 refine(uO (s:=s) H0.o p Hs.o HC.o.1 HC.o.2.1 HC.o.2.2).mono ?_;rintro e w1 ⟨rfl,aA⟩;have kJ:=U (ii.o.below aA);have ja:=gZ.o.trans (aA.mono gZ.o.size);have abN:=U H.o.kf;have H1:=U (dw.refl H.o ja);have Q3:=H.o.below ja;have Vn:=U (Q3.fL Hs.o);clear aA ja
 have HE:=U (show g.st.done g.W p = { g.st with aY:=some { s.o with af:=s.o.af.filter (fun f=>!decide (f.number=p.number)),aC:=s.aC.filter (fun a=>!decide (a.number=p.number)) } } by
  unfold SP.done;simp only[SP.nz (SG.tO Hs.o) HC.o.2.1 HC.o.2.2,if_true,SG.tO Hs.o]
  rfl)
 have hnd:=Q3.Nx Hs.o;obtain⟨fa,fc,qo⟩:=(Q3.nw Hs.o).rf.slice;have x5:w1.cell? (aj s.ap 5)=some (.slice fa s.af.length fc):=(show w1.cell? (aj s.ap 5)=some s.fv from Vn.o.cell 5).trans (by rw[qo]);have iY:w1.ownsRow lo 158 1 s.fv s.af.length (s.af.map (fun f=>aJ f.ap)):=(Q3.gK Hs.o).own (Q3.nw Hs.o).rf (fun p hp=>by unfold cZ.aF;simp only[List.mem_append];exact Or.inr (Or.inl hp));have Pn:(s.af.map (fun m=>m.ap)).length=s.af.length:=by simp
 have HP:=U (show gM w1 lo (.slice fa s.af.length fc) (s.af.map (fun m=>m.ap)) by
  unfold gM;rw[← qo,Pn,List.map_map]
  exact iY)
 have Zi:∀ k,(Value.slice fa s.af.length fc).ownBlock=some k→s.fv.ownBlock=some k:=fun k hk=>by rw[qo];exact hk
 have Xe:∀ k,s.fv.ownBlock=some k→k≠w.heap.size∧k≠s.ap∧∀ m∈s.af,k≠m.ap:=fun k hk=>by
  have hkK:aL s.jm k:=(be (Q3.nw Hs.o).rf).2 hk;refine⟨fun e=>abN.o ?_,fun e=>?_,fun m hm e=>?_⟩
  ·rw[← e]
   exact(aL.bZ (SG.uK Hs.o)).2 (aL.bM.2 (Or.inl (aL.bM.2 (Or.inr (aL.bM.2 (Or.inl hkK))))))
  ·have hd:=(ay.1 (show cE lo w1 (s.cT++(s.jm++(s.af.flatMap (iq.aF s.ap g.dz)++s.kR))) from Q3.gK Hs.o)).2.2
   obtain⟨q,hq,e2⟩:=hkK;exact hd _ (List.mem_singleton.2 rfl) q (List.mem_append_left _ hq) (show s.ap=q.1 by rw[e2];exact e.symm)
  ·have hd:=(ay.1 (ay.1 (show cE lo w1 (s.cT++(s.jm++(s.af.flatMap (iq.aF s.ap g.dz)++s.kR))) from Q3.gK Hs.o)).2.1).2.2
   obtain⟨q,hq,e2⟩:=hkK;exact hd q hq _ (List.mem_append_left _ (List.mem_flatMap.2 ⟨m,hm,List.mem_singleton.2 rfl⟩)) (show q.1=m.ap by rw[e2];exact e)
 have Vl:=U (show ∀ wr,aQ (fun k=>(Value.slice fa s.af.length fc).ownBlock=some k) w1 wr→∀ b∈s.af.map (fun m=>m.ap),aT 245 #[aM b,aM w.heap.size] wr (fun e w'=>e=.returned (.bool (PV s.af p.number b))∧Below wr.heap.size wr w') from fun wr BG b hb=>by
  obtain⟨m,hm,rfl⟩:=List.mem_map.1 hb;rw[y7 hnd hm];obtain⟨i,hi⟩:=List.getElem?_of_mem hm;have hF:=(Q3.uL Hs.o hi).dW BG (fun e=>(Xe _ (Zi _ e)).2.2 m hm rfl);have hPp:=kJ.o.dW BG (fun e=>(Xe _ (Zi _ e)).1 rfl)
  exact abK wr m.ap w.heap.size m.f.number p.number (hF.cell 1) (hPp.cell 3))
 have HND:=U hnd;have Ks:=U qo;have HKB:=U Zi;have HNF:=U Xe;have OV:=U Q3;obtain⟨aa,ac,kn⟩:=(Q3.nw Hs.o).rn.slice;have WJ:=U kn;clear hnd qo iY Zi Xe Q3 kn
 go_wp2_with fail
 refine(agM w1 lo _ (s.af.map (fun m=>m.ap)) w.heap.size _ HP.o (by rw[Pn];exact tM) Vl.o).mono ?_;rintro e w2 ⟨v',rfl,dP,jO,Cv⟩;unfold gM at dP;rw[IG HND.o,List.length_map,List.map_map] at dP;obtain⟨a',c',rfl⟩:=ax dP;have Xf:aQ (fun k=>s.fv.ownBlock=some k) w1 w2:=jO.mono (fun k _ hk=>HKB.o k hk);have rQ:=Vn.o.dW Xf (fun e=>(HNF.o _ e).2.1 rfl);have CE:=kJ.o.dW Xf (fun e=>(HNF.o _ e).1 rfl);have y5:w2.cell? (aj s.ap 5)=some (.slice fa s.af.length fc):=(show w2.cell? (aj s.ap 5)=some s.fv from rQ.cell 5).trans (by rw[Ks.o]);have z5:=rQ.aq 5;have gz:aZ (w2.setCell (aj s.ap 5) (.slice a' (s.af.filter (fun m=>!decide (m.f.number=p.number))).length c')) s.ap 157 (ec { s with fv:=.slice a' (s.af.filter (fun m=>!decide (m.f.number=p.number))).length c',af:=(s.af.filter (fun m=>!decide (m.f.number=p.number))) }):=rQ.set 5 _;have js:aQ (fun k=>k=s.ap) w2 (w2.setCell (aj s.ap 5) (.slice a' (s.af.filter (fun m=>!decide (m.f.number=p.number))).length c')):=(aQ.refl (fun k=>k=s.ap) w2).setCell (aj s.ap 5) _ (fun _=>rfl);have agP:=rQ.bY dP (by decide);have FW:=OV.o.abM (tA:=.slice a' (s.af.filter (fun m=>!decide (m.f.number=p.number))).length c') (pr:=fun m=>!decide (m.f.number=p.number)) Hs.o ((Xf.mono (G:=fun k=>k=s.ap∨s.fv.ownBlock=some k) (fun k _ hk=>Or.inr hk)).same (js.mono (fun k _ hk=>Or.inl hk))) gz (js.own dP (fun k hk e=>agP (e ▸ hk))) (fun k hk=>Or.inl (HKB.o k (Cv ▸ hk)));obtain⟨Zh,abP⟩:=FW.ap kJ.o abN.o;obtain⟨w3,iK⟩:∃ w3,w2.setCell (aj s.ap 5) (.slice a' (s.af.filter (fun m=>!decide (m.f.number=p.number))).length c')=w3:=⟨_,rfl⟩
 rw[iK] at FW Zh gz;generalize TZ:({ s with fv:=.slice a' (s.af.filter (fun m=>!decide (m.f.number=p.number))).length c',af:=(s.af.filter (fun m=>!decide (m.f.number=p.number))) }:cZ)=s3 at FW gz abP;have agQ:s3.ap=s.ap:=by rw[← TZ]
 have PW:s3.aC=s.aC:=by rw[← TZ]
 have T3:s3.av=.slice aa s3.aC.length ac:=by rw[PW,← TZ];exact WJ.o
 have x6:w3.cell? (aj s.ap 6)=some (.slice aa s.aC.length ac):=(show w3.cell? (aj s.ap 6)=some s3.av from gz.cell 6).trans (by rw[T3,PW]);have pC:=FW.cN.abH (s:=s3) rfl
 have nI:=U (show gI w3 lo (.slice aa s.aC.length ac) s.aC by
  unfold gI;rw[T3,PW] at pC
  exact pC)
 have abQ:∀ k,(Value.slice aa s.aC.length ac).ownBlock=some k→s3.av.ownBlock=some k:=fun k hk=>by rw[T3,PW];exact hk
 have agR:s3.av.ownBlock≠some w.heap.size:=fun e=>abP ((aL.bZ (SG.uK (g:={ g with aY:=some s3 }) (s:=s3) rfl)).2 (aL.bM.2 (Or.inl (aL.bM.2 (Or.inr (aL.bM.2 (Or.inr (aL.bM.2 (Or.inr ((be (FW.cN.nw (s:=s3) rfl).rn).2 e))))))))))
 have amf:=Zh.lt
 have amg:=U (show ∀ wr,aQ (fun k=>(Value.slice aa s.aC.length ac).ownBlock=some k) w3 wr→∀ q∈s.aC,aT 247 #[lQ q,aM w.heap.size] wr (fun e w'=>e=.returned (.bool (decide (q.number=p.number)))∧Below wr.heap.size wr w') from fun wr BG q _=>by
  have hPp:=Zh.dW BG (fun e=>agR (abQ _ e))
  exact abL wr q w.heap.size p.number hPp.lt (hPp.cell 3))
 have pU:=U FW;have yo:=U (show aZ w3 s3.ap 157 (ec s3) from FW.cN.fL (s:=s3) rfl);have agS:=U abQ;have amh:=U T3;have HA3:=U PW;have lE:=U agQ;have ami:=U TZ;have amj:=U pC;clear dP jO Cv Xf rQ CE gz js agP FW Zh abP TZ agQ PW T3 pC abQ agR amf
 go_wp2_with fail
 refine(Ti 247 (.inr rfl) w3 lo _ s.aC w.heap.size _ nI.o MQ amg.o).mono ?_;rintro e w4 ⟨v4,rfl,II,jr,agT⟩;unfold gI at II;obtain⟨a4,c4,rfl⟩:=ax II;have abR:aQ (fun k=>s3.av.ownBlock=some k) w3 w4:=jr.mono (fun k _ hk=>agS.o k hk);have agU:s3.av.ownBlock≠some s3.ap:=yo.o.bY amj.o (by decide);have K6:=yo.o.dW abR agU
 have y6:w4.cell? (aj s.ap 6)=some (.slice aa s.aC.length ac):=by
  have:=K6.cell 6;rw[lE.o] at this;exact this.trans (by show some s3.av=_;rw[amh.o,HA3.o])
 have z6:w4.frozen? (aj s.ap 6)=false:=by
  have:=K6.aq 6;rw[lE.o] at this;exact this
 have yW:aZ (w4.setCell (aj s3.ap 6) (.slice a4 (s.aC.filter (fun a=>!decide (a.number=p.number))).length c4)) s3.ap 157 (ec { s3 with av:=.slice a4 (s.aC.filter (fun a=>!decide (a.number=p.number))).length c4,aC:=(s.aC.filter (fun a=>!decide (a.number=p.number))) }):=K6.set 6 _;have vt:aQ (fun k=>k=s3.ap) w4 (w4.setCell (aj s3.ap 6) (.slice a4 (s.aC.filter (fun a=>!decide (a.number=p.number))).length c4)):=(aQ.refl (fun k=>k=s3.ap) w4).setCell (aj s3.ap 6) _ (fun _=>rfl);have agV:=K6.bY II (by decide);have hT5:=pU.o.cN.agB (s:=s3) (Lu:=.slice a4 (s.aC.filter (fun a=>!decide (a.number=p.number))).length c4) (l':=(s.aC.filter (fun a=>!decide (a.number=p.number)))) rfl ((abR.mono (G:=fun k=>k=s3.ap∨s3.av.ownBlock=some k) (fun k _ hk=>Or.inr hk)).same (vt.mono (fun k _ hk=>Or.inl hk))) yW (vt.own II (fun k hk e=>agV (e ▸ hk))) (fun k hk=>Or.inl (agS.o k (agT ▸ hk)));rw[lE.o] at hT5;have HT5:=U hT5;clear II jr agT abR agU K6 yW vt agV hT5
 go_wp2_with fail
 go_end0
 have hEq:({ ({ g with aY:=some s3 }:SG).st with aY:=some { s3.o with aC:=(s.aC.filter (fun a=>!decide (a.number=p.number))) } }:SP) = { g.st with aY:=some { s.o with af:=s.o.af.filter (fun f=>!decide (f.number=p.number)),aC:=(s.aC.filter (fun a=>!decide (a.number=p.number))) } }:=by
  rw[← ami.o];simp only[SG.st,cZ.o,List.filter_map,Function.comp_def]
 exact⟨rfl,_,by rw[HE.o,← hEq];exact(H1.o.trans pU.o.same).trans HT5.o⟩
theorem dw.PX{w5 w6:World}{g':SG}{p:SP}{b:Nat}(h:dw lo w g p w5 g')(hc:aQ (fun k=>k=b) w5 w6)(hb:w.heap.size≤b)(hn:¬ aL g'.aF b):dw lo w g p w6 g' :=
 ⟨⟨h.cN.dR.nO hc (fun k hk e=>hn (e ▸ hk)),h.cN.rt,h.cN.tp,h.cN.ss,h.cN.rw⟩,h.st,⟨h.grow.c.trans hc (fun i hi e=>by have e:i=b:=e;omega),h.grow.k⟩,h.b,h.iv,h.qU⟩
theorem Xg(h:cB lo w g)(hn:g.waits=[]):
  aT 90 #[aM g.b] w (fun e w'=>e=.returned (.tuple #[.agg #[vI 0,.string ⟨#[]⟩,.string ⟨#[]⟩],.bool false])∧Below w.heap.size w w'):=by
 obtain⟨w0,eM,aN,aD⟩:=cS w [vI 0,.string ⟨#[]⟩,.string ⟨#[]⟩] 139;have e0:=aD.ce 0 rfl;have Rj:=aD.aq 0;have e1:=aD.ce 1 rfl;have U3:=aD.aq 1;have e2:=aD.ce 2 rfl;have U4:=aD.aq 2;obtain⟨aa,ac,kn⟩:=h.rw.slice;have d13:w0.cell? (aj g.b 13)=some (.slice aa 0 ac):=(show w0.cell? (aj g.b 13)=some g.wv from(h.below aN).ap.cell 13).trans (by rw[kn,hn];rfl);have HL:=U (rZ _ _ _ _ _ (show aZ (((w0.setCell (aj w.heap.size 0) (vI 0)).setCell (aj w.heap.size 1) (.string ⟨#[]⟩)).setCell (aj w.heap.size 2) (.string ⟨#[]⟩)) w.heap.size 139 [vI 0,.string ⟨#[]⟩,.string ⟨#[]⟩] from((aD.set 0 _).set 1 _).set 2 _));have HB:=U (((aN.setCell (p:=(aj w.heap.size 0)) (Nat.le_refl _) (vI 0)).setCell (p:=(aj w.heap.size 1)) (Nat.le_refl _) (.string ⟨#[]⟩)).setCell (p:=(aj w.heap.size 2)) (Nat.le_refl _) (.string ⟨#[]⟩));clear h kn hn aN aD
 go_enter func90,ntmps90
 go_wp2_with fail
 (try simp only[Exit.inBlock,Exit.then])
 refine⟨rfl,.tuple #[.agg #[vI 0,.string ⟨#[]⟩,.string ⟨#[]⟩],.bool false],?_,rfl,HB.o⟩;rw[results_cell_tmp rfl];have:=HL.o;simp[asAddr,this]
theorem abT(w:World)(fb cb a n:Nat)(ha:w.cell? (aj fb 1)=some (vU a))(hn:w.cell? (aj cb 0)=some (vU n)):
  aT 261 #[aM fb,aM cb] w (fun e w'=>e=.returned (.bool (decide (a=n)))∧Below w.heap.size w w'):=by
 by_cases h:a=n
 ·have b1:((a:Int)==(n:Int))=true:=by simp[h]
  rw[decide_eq_true h];clear h
  go_enter func261,ntmps261
  go_wp2_with fail
  go_quiet (fail)
  go_wp2_with fail
  go_ret
  exact⟨rfl,below_drewN (Below.refl _ _) _⟩
 ·have b1:((a:Int)==(n:Int))=false:=by simp;omega
  rw[decide_eq_false h];clear h
  go_enter func261,ntmps261
  go_wp2_with fail
  go_quiet (fail)
  go_wp2_with fail
  go_ret
  exact⟨rfl,below_drewN (Below.refl _ _) _⟩
def abU(s:cZ)(n:Nat)(w:World)(e:Ending)(w':World):Prop:=Below w.heap.size w w'∧((∃ (i:Nat) (m:iq),s.af[i]? = some m∧s.o.af.findIdx? (fun f=>decide (f.number=n))=some i∧e=.returned (.pointer (some ⟨m.ap,0,none⟩)))∨(s.o.af.findIdx? (fun f=>decide (f.number=n))=none∧e=.returned (.pointer none)))
theorem Xh(h:cB lo w g)(hs:g.aY=some s)(n:Nat)(hl:s.af.length≤1000000):
  aT 242 #[aM s.ap,vU n] w (abU s n w):=by
 obtain⟨w0,eM,aN,aD⟩:=cS w [vU n] 52;have h0:=h.below aN;have hnd:=h0.Nx hs;obtain⟨fa,fc,qo⟩:=(h0.nw hs).rf.slice;have x5:w0.cell? (aj s.ap 5)=some (.slice fa s.af.length fc):=(show w0.cell? (aj s.ap 5)=some s.fv from(h0.fL hs).cell 5).trans (by rw[qo]);have iY:w0.ownsRow lo 158 1 s.fv s.af.length (s.af.map (fun f=>aJ f.ap)):=(h0.gK hs).own (h0.nw hs).rf (fun p hp=>by unfold cZ.aF;simp only[List.mem_append];exact Or.inr (Or.inl hp));have Pn:(s.af.map (fun m=>m.ap)).length=s.af.length:=by simp
 have HP:=U (show gM w0 lo (.slice fa s.af.length fc) (s.af.map (fun m=>m.ap)) by
  unfold gM;rw[← qo,Pn,List.map_map]
  exact iY)
 have hnr:∀ k,(Value.slice fa s.af.length fc).ownBlock=some k→k≠w.heap.size∧∀ m∈s.af,k≠m.ap:=fun k hk=>by
  have hk':s.fv.ownBlock=some k:=by rw[qo];exact hk
  have hkK:aL s.jm k:=(be (h0.nw hs).rf).2 hk';refine⟨fun e=>?_,fun m hm e=>?_⟩
  ·have:=(h.dR.lt ((aL.bZ (SG.uK hs)).2 (aL.bM.2 (Or.inl (aL.bM.2 (Or.inr (aL.bM.2 (Or.inl hkK)))))))).2
   omega
  ·have hd:=(ay.1 (ay.1 (show cE lo w0 (s.cT++(s.jm++(s.af.flatMap (iq.aF s.ap g.dz)++s.kR))) from h0.gK hs)).2.1).2.2
   obtain⟨q,hq,e2⟩:=hkK;exact hd q hq _ (List.mem_append_left _ (List.mem_flatMap.2 ⟨m,hm,List.mem_singleton.2 rfl⟩)) (show q.1=m.ap by rw[e2];exact e)
 have Vl:=U (show ∀ wr,aQ (fun k=>(Value.slice fa s.af.length fc).ownBlock=some k) w0 wr→∀ b∈s.af.map (fun m=>m.ap),aT 261 #[aM b,aM w.heap.size] wr (fun e w'=>e=.returned (.bool (PV s.af n b))∧Below wr.heap.size wr w') from fun wr BG b hb=>by
  obtain⟨m,hm,rfl⟩:=List.mem_map.1 hb;rw[y7 hnd hm];obtain⟨i,hi⟩:=List.getElem?_of_mem hm;have hF:=(h0.uL hs hi).dW BG (fun e=>(hnr _ e).2 m hm rfl);have hPp:=aD.dW BG (fun e=>(hnr _ e).1 rfl)
  exact abT wr m.ap w.heap.size m.f.number n (hF.cell 1) (hPp.cell 0))
 have HAt:=U (show ∀ j (hj:j<s.af.length),yC (s.af.map (fun m=>m.ap)) (PV s.af n) j=decide (s.af[j].f.number=n) from fun j hj=>by
  unfold yC;rw[List.getElem?_map,List.getElem?_eq_getElem hj]
  exact y7 hnd (List.getElem_mem hj))
 have H0:=U h0;have gZ:=U aN;have Hs:=U hs;have Ks:=U qo;have HLM:=U Pn;clear h h0 hs hnd qo iY hnr aN aD
 go_enter func242,ntmps242
 go_wp2_with fail
 refine(agL 261 (.inl rfl) w0 lo _ (s.af.map (fun m=>m.ap)) w.heap.size _ HP.o (by rw[Pn];exact hl) Vl.o).mono ?_;rintro e w1 ⟨z,rfl,hz,aA⟩;have HB:=U (gZ.o.trans (aA.mono gZ.o.size));rw[HLM.o] at hz
 rcases hz with⟨k,hk,hf,hn,rfl⟩ | ⟨nH,rfl⟩
 ·obtain⟨m,hm⟩:∃ m,s.af[k]? = some m:=⟨_,List.getElem?_eq_getElem hk⟩
  have yB:=U (show s.o.af.findIdx? (fun f=>decide (f.number=n))=some k by
   rw[List.findIdx?_eq_some_iff_getElem];have hk':k<s.o.af.length:=by unfold cZ.o;simpa using hk
   refine⟨hk',?_,fun j hj=>?_⟩
   ·have:=HAt.o k hk
    rw[hf] at this;simpa[cZ.o] using this.symm
   ·have Vf:j<s.af.length:=by omega
    have h1:=HAt.o j Vf;rw[hn j hj] at h1
    simpa[cZ.o] using h1.symm)
  obtain⟨ga,c,hv,_,hc⟩:=(H0.o.below aA).TK Hs.o hm
  obtain⟨rfl,rfl⟩:fa=some (aj ga 0)∧fc=c:=by
   have:=Ks.o.symm.trans hv;simp at this;exact⟨this.1,this.2⟩
  have y5:w1.cell? (aj s.ap 5)=some (.slice (some (aj ga 0)) s.af.length fc):=(show w1.cell? (aj s.ap 5)=some s.fv from((H0.o.below aA).fL Hs.o).cell 5).trans (by rw[Ks.o]);have aK:w1.cell? (aj ga k)=some (aM m.ap):=hc;have hkI:(k:Int)<(s.af.length:Int):=by omega
  have HM:=U hm;clear hf hn hm hv hc aA
  go_wp2_with fail
  go_ret
  exact⟨HB.o,Or.inl ⟨k,m,HM.o,yB.o,rfl⟩⟩
 ·have yB:=U (show s.o.af.findIdx? (fun f=>decide (f.number=n))=none by
   rw[List.findIdx?_eq_none_iff];intro f hf;unfold cZ.o at hf;obtain⟨m,hm,rfl⟩:=List.mem_map.1 hf;obtain⟨j,hj,rfl⟩:=List.getElem_of_mem hm;have h1:=HAt.o j hj;rw[nH j hj] at h1
   exact h1.symm)
  clear nH aA
  go_wp2_with fail
  go_ret
  exact⟨HB.o,Or.inr ⟨yB.o,rfl⟩⟩
theorem T4(h:cB lo w g)(hs:g.aY=some s)(hi:s.af[i]? = some m)(p:Nat)(hp:¬ p≤m.f.aX)(fI:p<18446744073709551616):
  aT 243 #[aM m.ap,vU p] w (fun e w'=>e=.returned (.bool true)∧dw lo w g { g.st with aY:=some { s.o with af:=s.o.af.set i (SP.cY.bK p m.f) } } w' { g with aY:=some { s with af:=s.af.set i { m with f:=SP.cY.bK p m.f } } }):=by
 have hB:=h.uL hs hi;have c3:=hB.ce 3 rfl;have f3:=hB.aq 3;have hpI:¬ (p:Int)≤(m.f.aX:Int):=by omega
 have dD:aZ (w.setCell (aj m.ap 3) (vU p)) m.ap 160 (eU s.ap g.dz { m with f:={ m.f with aX:=p } }):=hB.set 3 _;have jk:aQ (fun k=>k=m.ap) w (w.setCell (aj m.ap 3) (vU p)):=(aQ.refl (fun k=>k=m.ap) w).setCell (aj m.ap 3) _ (fun _=>rfl);obtain⟨w1,ee⟩:∃ w1,w.setCell (aj m.ap 3) (vU p)=w1:=⟨_,rfl⟩
 rw[ee] at dD jk;have d3:=dD.ce 3 rfl;have d4:=dD.ce 4 rfl;have f4:=dD.aq 4
 have cz:∀ (u:Nat) (wz:World),wz.heap=w1.heap→aZ (wz.setCell (aj m.ap 4) (vU u)) m.ap 160 (eU s.ap g.dz { m with f:={ m.f with aX:=p,az:=u } }):=fun u wz hz=>by
  have:aZ wz m.ap 160 (eU s.ap g.dz { m with f:={ m.f with aX:=p } }):=by unfold aZ at dD ⊢;rw[hz];exact dD
  exact this.set 4 _
 have HAd:=U (show SP.cY.bK p m.f = { m.f with aX:=p,az:=max m.f.az p } by unfold SP.cY.bK;rw[if_neg hp]);have gX:=U cz;have xq:=U jk;have Hs:=U hs;have Hi:=U hi;have H:=U h;clear h hs hi hB dD jk hp cz
 go_enter func243,ntmps243
 go_wp2_with fail
 go_region
 all_goals
  go_wp2_with fail
  go_ret
  refine⟨rfl,?_⟩;have e:max (m.f.az:Int) (p:Int)=((max m.f.az p:Nat):Int):=by omega
  rw[HAd.o,e];exact H.o.TE (m':={ m with f:={ m.f with aX:=p,az:=max m.f.az p } }) Hs.o Hi.o rfl ((xq.o.setCell (aj m.ap 4) (vU ((max m.f.az p:Nat):Int)) (fun _=>rfl)).drew) (aZ.drew (gX.o (max m.f.az p) w1 rfl))
theorem SP.Xi{W:Nat}{s:SP}{p:aS}{o:pH}{f:cY}(hs:s.aY=some o)(hn:o.number=p.ag)(hc:s.cur=true)(hi:o.af.findIdx? (fun f=>decide (f.number=p.number))=some i)(hf:o.af[i]? = some f)(hp:¬ p.ai≤f.aX):s.aX W p = { s with aY:=some { o with af:=o.af.set i (SP.cY.bK p.ai f) } }.fP W i:=by
 unfold SP.aX;simp only[SP.nz hs hn hc,if_true,hs,hi,hf];rw[if_neg hp]
theorem amn(h:cB lo w g)(p:aS)(hS:SSp g.st)(hW:g.W≤1000)(hs:g.aY=some s)(ht:s.ah=p.ah)(hn:s.number=p.ag)(fF:g.cur=true)(hF:∃ i f,s.o.af.findIdx? (fun f=>decide (f.number=p.number))=some i∧s.o.af[i]? = some f∧f.aX<p.ai)(hpp:p.ai≤1000000000000):
  aT 210 #[aM g.b,lQ p] w (fun e w'=>e=.returned (.tuple #[])∧∃ g',dw lo w g (g.st.aX g.W p) w' g'):=by
 obtain⟨w0,eM,aN,aD⟩:=eK w p;obtain⟨e0,e1,e2,e3,e4,e5⟩:=aD.c6;have H:=U h;have H0:=U (h.below aN);have gZ:=U aN;have ii:=U aD;have Hs:=U hs;have HS:=U hS;have HF:=U hF;have HC:=U (And.intro ht (And.intro hn fF))
 have tM:s.af.length≤1000000:=by
  have h1:=(hS.ln s.o (SG.tO hs)).1;have h2:s.o.af.length=s.af.length:=by unfold cZ.o;simp
  omega
 clear h hS hs ht hn fF hF aN aD
 go_enter func210,ntmps210
 go_wp2_with fail
 refine(uO (s:=s) H0.o p Hs.o HC.o.1 HC.o.2.1 HC.o.2.2).mono ?_;rintro e w1 ⟨rfl,aA⟩;have kJ:=U (ii.o.below aA);have iV:=U (gZ.o.trans (aA.mono gZ.o.size));have y3:=kJ.o.ce 3 rfl;have HFo:=U (Xh (H0.o.below aA) Hs.o p.number tM);clear aA
 go_wp2_with fail
 refine HFo.o.mono ?_;rintro e w2 ⟨aW,hx⟩;obtain⟨i,f,a1,a2,a3⟩:=HF.o
 obtain⟨m,hi,rfl⟩:∃ m,s.af[i]? = some m∧e=.returned (aM m.ap):=by
  rcases hx with⟨j,m,hi,JK,e⟩ | ⟨JK,_⟩
  ·obtain rfl:j=i:=by rw[a1] at JK;exact(Option.some.inj JK).symm
   exact⟨m,hi,e⟩
  ·rw[a1] at JK;cases JK
 obtain rfl:f=m.f:=by rw[cZ.fAt hi] at a2;exact(Option.some.inj a2).symm
 have hpg:¬ p.ai≤m.f.aX:=by omega
 have z4:=(kJ.o.below aW).ce 4 rfl;have ja:=iV.o.trans (aW.mono iV.o.size);have R5:=U (H.o.below ja);have H2:=U (dw.refl H.o ja);have HIm:=U hi;have yB:=U a1;have HOf:=U (show s.o.af[i]? = some m.f from cZ.fAt hi);clear aW hi hx a1 a2 a3 ja;have HAd:=U (T4 R5.o Hs.o HIm.o p.ai hpg (by omega))
 have HE:=U (show g.st.aX g.W p = { g.st with aY:=some { s.o with af:=s.o.af.set i (SP.cY.bK p.ai m.f) } }.fP g.W i by
  exact SP.Xi (SG.tO Hs.o) HC.o.2.1 HC.o.2.2 yB.o HOf.o hpg)
 have HAv:=U (show SP.cY.bK p.ai m.f = { m.f with aX:=p.ai,az:=max m.f.az p.ai } by unfold SP.cY.bK;rw[if_neg hpg]);clear hpg
 go_wp2_with fail
 refine HAd.o.mono ?_;rintro e w3 ⟨rfl,h3⟩;have H3:=U h3;clear h3;obtain⟨t,ij,np,FU⟩:=SSp.top HS.o Hs.o HIm.o;obtain⟨q1,q2,q3⟩:=HS.o.fd s.o (SG.tO Hs.o) m.f (List.mem_of_getElem? HOf.o);have jQ:i<s.af.length:=(List.getElem?_eq_some_iff.1 HIm.o).1;have Cb:(s.af.set i { m with f:=SP.cY.bK p.ai m.f })[i]? = some { m with f:=SP.cY.bK p.ai m.f }:=by simp[jQ]
 have bP:({ g with aY:=some { s with af:=s.af.set i { m with f:=SP.cY.bK p.ai m.f } } }:SG).b=g.b:=rfl;have V4:=U (H2.o.trans H3.o.same);have rT:({ g with aY:=some { s with af:=s.af.set i { m with f:=SP.cY.bK p.ai m.f } } }:SG).st = { g.st with aY:=some { s.o with af:=s.o.af.set i (SP.cY.bK p.ai m.f) } }:=H3.o.st;have Dk:({ g with aY:=some { s with af:=s.af.set i { m with f:=SP.cY.bK p.ai m.f } } }:SG).W=g.W:=rfl;have abV:({ g with aY:=some { s with af:=s.af.set i { m with f:=SP.cY.bK p.ai m.f } } }:SG).au[m.f.aG]? = some t:=ij;have Lw:({ g with aY:=some { s with af:=s.af.set i { m with f:=SP.cY.bK p.ai m.f } } }:SG).aY=some { s with af:=s.af.set i { m with f:=SP.cY.bK p.ai m.f } }:=rfl;generalize ({ g with aY:=some { s with af:=s.af.set i { m with f:=SP.cY.bK p.ai m.f } } }:SG)=G3 at V4 bP rT Dk abV Lw;have HPu:=U (TJ (g:=G3) (i:=i) (m:={ m with f:=SP.cY.bK p.ai m.f }) (t:=t) V4.o.cN Lw Cb (by rw[HAv.o];exact abV) np FU (by rw[HAv.o];show p.ai≤max m.f.az p.ai;omega) (by rw[HAv.o];show max m.f.az p.ai≤1000000000000;omega) (by rw[Dk];exact hW));rw[bP,rT,Dk] at HPu;clear ij np FU q1 q2 q3 jQ Cb bP rT Dk abV Lw H3
 go_wp2_with fail
 refine HPu.o.mono ?_;rintro e w4 ⟨rfl,az,L,h4⟩;have H4:=U h4;clear h4
 go_wp2_with fail
 go_end0
 exact⟨rfl,_,by
  rw[HE.o]
  exact V4.o.trans H4.o⟩
def Xj(g:SG)(name:ByteArray)(w:World)(e:Ending)(w':World):Prop:=Below w.heap.size w w'∧((∃ (k:Nat) (t:eZ),g.au[k]? = some t∧g.st.dZ name=some k∧e=.returned (.pointer (some ⟨t.ap,0,none⟩)))∨(g.st.dZ name=none∧e=.returned (.pointer none)))
def Lx(g:SG)(name:ByteArray)(i:Nat):Bool:=match g.au[i]? with
 | some t=>t.name.toList==name.toList
 | none=>false
theorem Ly(h:cB lo w g)(hl:g.au.length≤400)(name:ByteArray):
  aT 69 #[aM g.b,.string name] w (Xj g name w):=by
 have cj:Below w.heap.size w (w.alloc (.cells #[.string name] 9)):=(Below.refl _ _).alloc (Nat.le_refl _) _;have rh:aZ (w.alloc (.cells #[.string name] 9)) w.heap.size 9 [.string name]:=heap_alloc_new w _;have h0:=h.below cj;obtain⟨w0,nF⟩:∃ w0,w.alloc (.cells #[.string name] 9)=w0:=⟨_,rfl⟩
 rw[nF] at cj rh h0;obtain⟨la,lc,RN⟩:=h0.rt.slice;have d9:w0.cell? (aj g.b 9)=some (.slice la g.au.length lc):=(show w0.cell? (aj g.b 9)=some g.tv from h0.ap.cell 9).trans (by rw[RN]);have hlen:(g.au.map (fun t=>t.ap)).length=g.au.length:=by simp
 have dP:rH w0 lo 100 (.slice la g.au.length lc) (g.au.map (fun t=>t.ap)):=by
  unfold rH;have:=h0.dR.own h0.rt (e:=100) (fun p hp=>by unfold SG.aF SG.rest;simp only[List.mem_append];exact Or.inr (Or.inr (Or.inl hp)));rw[RN] at this;rw[hlen,List.map_map];exact this
 have HC:Hid (∀ wr,Below w0.heap.size w0 wr→∀ i (hi:i<(g.au.map (fun t=>t.ap)).length),aT 97 #[aJ (g.au.map (fun t=>t.ap))[i],aM w.heap.size] wr (fun e w'=>e=.returned (.bool (Lx g name i))∧Below wr.heap.size wr w')):=fun wr BG i hi=>by
  have Gj:i<g.au.length:=by simpa using hi
  have e2:Lx g name i=(g.au[i].name.toList==name.toList):=by unfold Lx;rw[List.getElem?_eq_getElem Gj]
  have e3:(g.au.map (fun t=>t.ap))[i]=g.au[i].ap:=by simp
  rw[e2,e3];have hB:aZ w0 g.au[i].ap 108 (dl g.au[i]):=(h0.ny (List.getElem?_eq_getElem Gj)).ap (List.mem_append_left _ (List.mem_singleton.2 rfl));exact zN ⟨g.au[i].ap,g.au[i].name,g.au[i].base,g.au[i].count,g.au[i].kv,[],g.au[i].bD⟩ name w.heap.size wr (hB.below BG) ((rh.below BG).cell 0)
 have HP:=U dP;have H0:=U h0;have gZ:=U cj;have HTV:=U RN;have HLE:=U hlen;clear h h0 cj rh dP RN
 go_enter func69,ntmps69
 go_wp2_with fail
 refine(VC 96 97 100 (by simp) w0 lo _ (g.au.map (fun t=>t.ap)) w.heap.size (Lx g name) HP.o (by rw[hlen];omega) HC.o).mono ?_;rintro e w1 ⟨z,rfl,hz,aA⟩;have HB:=U (gZ.o.trans (aA.mono gZ.o.size));rw[HLE.o] at hz
 rcases hz with⟨k,hk,hf,hn,rfl⟩ | ⟨nH,rfl⟩
 ·obtain⟨t,ht⟩:∃ t,g.au[k]? = some t:=⟨_,List.getElem?_eq_getElem hk⟩
  have yB:=U (show g.st.dZ name=some k by
   unfold SP.dZ SG.st;rw[List.findIdx?_map,List.findIdx?_eq_some_iff_getElem];refine⟨hk,?_,fun j hj=>?_⟩
   ·unfold Lx at hf
    rw[List.getElem?_eq_getElem hk] at hf;exact hf
   ·have h1:=hn j hj
    unfold Lx at h1;rw[List.getElem?_eq_getElem (by omega)] at h1
    simpa[eZ.t] using h1)
  obtain⟨ga,cap,hv,_,_,aK⟩:=(HP.o.below aA).cell (by rw[HLE.o];omega);rw[HLE.o] at hv;obtain⟨rfl,rfl⟩:la=some (aj ga 0)∧lc=cap:=by simpa using hv
  have JE:w1.cell? (aj ga k)=some (aM t.ap):=by
   have:=aK k (by rw[HLE.o];exact hk);rw[this]
   have e3:(g.au.map (fun t=>t.ap))[k]'(by rw[HLE.o];exact hk)=t.ap:=by
    have:=(List.getElem?_eq_some_iff.1 ht).2;simp[this]
   rw[e3];rfl
  have e9:w1.cell? (aj g.b 9)=some (.slice (some (aj ga 0)) g.au.length lc):=(show w1.cell? (aj g.b 9)=some g.tv from(H0.o.below aA).ap.cell 9).trans (by rw[HTV.o]);have hkI:(k:Int)<(g.au.length:Int):=by omega
  have HT:=U ht;clear aK hv hf hn ht aA
  go_wp2_with fail
  go_ret
  exact⟨HB.o,Or.inl ⟨k,t,HT.o,yB.o,rfl⟩⟩
 ·have yB:=U (show g.st.dZ name=none by
   unfold SP.dZ SG.st;rw[List.findIdx?_map,List.findIdx?_eq_none_iff];intro t ht;obtain⟨j,hj,rfl⟩:=List.getElem_of_mem ht;have h1:=nH j hj;unfold Lx at h1;rw[List.getElem?_eq_getElem hj] at h1
   exact h1)
  clear nH aA
  go_wp2_with fail
  go_ret
  exact⟨HB.o,Or.inr ⟨yB.o,rfl⟩⟩
theorem Tryz.infoFdp:(Tryz.prog.info? 158).map (fun i=>(i.zero,i.size,i.bytes))=some (some (.pointer none),1,8):=by kernel_rfl
theorem cB.abX(h:cB lo w g)(hs:g.aY=some s)(hl:lo≤w.heap.size)(hc:aQ (fun k=>k=s.ap∨s.fv.ownBlock=some k) w w')(hB:aZ w' s.ap 157 (ec { s with fv:=tA,af:=s.af++[m] }))(hA:w'.ownsRow lo 158 1 tA (s.af++[m]).length ((s.af++[m]).map (fun f=>aJ f.ap)))(iZ:∀ k,tA.ownBlock=some k→s.fv.ownBlock=some k∨w.heap.size≤k)(hm:aZ w' m.ap 160 (eU s.ap g.dz m))(JB:w.heap.size≤m.ap):
  dw lo w g { g.st with aY:=some { s.o with af:=s.o.af++[m.f] } } w' { g with aY:=some { s with fv:=tA,af:=s.af++[m] } }:=by
 have hS:=h.gK hs;have bX:=h.nw hs;have di:lo≤s.ap:=(hS.lt (aL.bM.2 (Or.inl (aL.one.2 rfl)))).1;obtain⟨yY,mr⟩:=fQ hA (by decide);have hmh:cE lo w' (m.aF s.ap g.dz):=ct (Nat.le_trans hl JB) hm (by decide)
 have hrm:cE lo w' (({ s with fv:=tA,af:=s.af++[m] }:cZ).jm++m.aF s.ap g.dz):=ay.2 ⟨yY,hmh,fun a ha c fZ e=>by
  have hk:=(be (e:=158) mr).1 ⟨a,ha,rfl⟩;have e2:c.1=m.ap:=by rw[List.mem_singleton.1 fZ];rfl
  rw[e,e2] at hk
  exact hm.bY hA (by decide) hk⟩
 have hh:cE lo w' (({ s with fv:=tA,af:=s.af++[m] }:cZ).cT++(({ s with fv:=tA,af:=s.af++[m] }:cZ).jm++m.aF s.ap g.dz)):=ay.2 ⟨ct di hB (by decide),hrm,fun a ha c fZ e=>by
  rw[List.mem_singleton.1 ha] at e;have e':s.ap=c.1:=e
  rcases List.mem_append.1 fZ with fZ | fZ
  ·have hk:=(be (e:=158) mr).1 ⟨c,fZ,rfl⟩
   rw[← e'] at hk;exact hB.bY hA (by decide) hk
  ·have e2:c.1=m.ap:=by rw[List.mem_singleton.1 fZ];rfl
   have:=(h.fL hs).lt
   omega⟩
 have hg:cM w (s.cT++s.jm) w' (({ s with fv:=tA,af:=s.af++[m] }:cZ).cT++(({ s with fv:=tA,af:=s.af++[m] }:cZ).jm++m.aF s.ap g.dz)):=⟨hc.mono (fun i _ hi=>by
  rcases hi with rfl | hi
  ·exact aL.bM.2 (Or.inl (aL.one.2 rfl))
  ·exact aL.bM.2 (Or.inr ((be bX.rf).2 hi))),fun k hk=>by
  rcases aL.bM.1 hk with e | e
  ·exact Or.inl (aL.bM.2 (Or.inl (aL.one.2 (show k=s.ap from aL.one.1 e))))
  ·rcases aL.bM.1 e with e | e
   ·rcases iZ k ((be mr).1 e) with e | e
    ·exact Or.inl (aL.bM.2 (Or.inr ((be bX.rf).2 e)))
    ·exact Or.inr e
   ·have e:k=m.ap:=aL.one.1 e
    exact Or.inr (by omega)⟩
 have p1:(s.aF g.dz).Perm ((s.cT++s.jm)++(s.af.flatMap (iq.aF s.ap g.dz)++s.kR)):=bF (fun p=>by unfold cZ.aF;simp only[aP];omega);have ef:(s.af++[m]).flatMap (iq.aF s.ap g.dz)=s.af.flatMap (iq.aF s.ap g.dz)++m.aF s.ap g.dz:=by rw[List.flatMap_append];simp
 have p2:((({ s with fv:=tA,af:=s.af++[m] }:cZ).cT++(({ s with fv:=tA,af:=s.af++[m] }:cZ).jm++m.aF s.ap g.dz))++(s.af.flatMap (iq.aF s.ap g.dz)++s.kR)).Perm (({ s with fv:=tA,af:=s.af++[m] }:cZ).aF g.dz):=bF (fun p=>by
  show _=cnt p (({ s with fv:=tA,af:=s.af++[m] }:cZ).cT++(({ s with fv:=tA,af:=s.af++[m] }:cZ).jm++((s.af++[m]).flatMap (iq.aF s.ap g.dz)++s.kR)));rw[ef]
  simp only[aP];omega)
 have hX:=(hS.bZ p1).dE hh hg;have hT:=h.ko (s':={ s with fv:=tA,af:=s.af++[m] }) hs (hX.bZ p2) (hg.dE.bZ p1.symm p2) rfl rfl ⟨mr,bX.rn⟩
 have es:({ s with fv:=tA,af:=s.af++[m] }:cZ).o = { s.o with af:=s.o.af++[m.f] }:=by
  unfold cZ.o;simp
 rw[es] at hT;exact hT
theorem cB.ams{w0:World}(h:cB lo w0 g)(hs:g.aY=some s)(Vc:lo≤w0.heap.size)(hb:Below w0.heap.size w0 w)(hn:s.af.length≤1000000){nb:Nat}{T:TypeId}{m:iq}(hN:aZ w nb T [aJ m.ap])(hm:aZ w m.ap 160 (eU s.ap g.dz m))(JB:w0.heap.size≤m.ap){fa:Option Addr}{fc:Nat}(hv:s.fv=.slice fa s.af.length fc):
  ∃ a' c' w',(Builtin.append_ #[155,155] 155 #[.slice fa s.af.length fc,.slice (some (aj nb 0)) 1 1]).run Tryz.prog w=.ok (.slice a' (s.af.length+1) c') w'∧w'.cell? (aj s.ap 5)=some (.slice fa s.af.length fc)∧w'.frozen? (aj s.ap 5)=false ∧
   dw lo w0 g { g.st with aY:=some { s.o with af:=s.o.af++[m.f] } } (w'.setCell (aj s.ap 5) (.slice a' (s.af.length+1) c')) { g with aY:=some { s with fv:=.slice a' (s.af.length+1) c',af:=s.af++[m] } }:=by
 have hw:=h.below hb;have hA:w.ownsRow lo 158 1 s.fv s.af.length (s.af.map (fun f=>aJ f.ap)):=(hw.gK hs).own (hw.nw hs).rf (fun p hp=>by unfold cZ.aF;simp only[List.mem_append];exact Or.inr (Or.inl hp));have Zj:=hA;rw[hv] at Zj
 obtain⟨a',c',w4,hr,QX,pI⟩:=jH w 155 155 158 _ 1 8 underlying155 Tryz.infoFdp rfl (by decide) (.slice fa s.af.length fc) s.af.length (s.af.map (fun f=>aJ f.ap)) lo Zj (aj nb 0) 1 1 [aJ m.ap] rfl (fun j u hu=>by
  rw[dF _ _ rfl];have:=hN.cell (0+j);rw[this]
  simpa using hu) (fun u hu=>by simp at hu;subst hu;rfl) (by unfold maxLen;omega) (by omega) (Nat.le_trans Vc hb.size)
 have yw:∀ k,(Value.slice fa s.af.length fc).ownBlock=some k→s.fv.ownBlock=some k:=fun k hk=>by rw[hv];exact hk
 have jr:aQ (fun k=>s.fv.ownBlock=some k) w w4:=aQ.mZ pI yw;have TW:=hw.fL hs;have ol:=TW.bY hA (by decide);have jR:=TW.dW jr ol;have hm4:=hm.dW jr (hm.bY hA (by decide));have rP:(Value.slice a' (s.af.length+1) c').ownBlock≠some s.ap:=jR.bY QX (by decide);have vt:aQ (fun k=>k=s.ap) w4 (w4.setCell (aj s.ap 5) (.slice a' (s.af.length+1) c')):=(aQ.refl _ _).setCell _ _ (fun _=>rfl);have WK:=vt.own QX (fun k hk e=>rP (e ▸ hk));have hms:m.ap≠s.ap:=fun e=>by have:=(h.fL hs).lt;omega
 have hm5:=hm4.dW vt hms;have yW:aZ (w4.setCell (aj s.ap 5) (.slice a' (s.af.length+1) c')) s.ap 157 (ec { s with fv:=.slice a' (s.af.length+1) c',af:=s.af++[m] }):=jR.set 5 _;refine⟨a',c',w4,hr,(show w4.cell? (aj s.ap 5)=some s.fv from jR.cell 5).trans (by rw[hv]),jR.aq 5,?_⟩
 refine h.abX hs Vc ?_ yW (by
  rw[List.length_append,List.length_singleton,List.map_append]
  exact WK) (fun k hk=>by
  rcases pI.b k hk with e | e
  ·exact Or.inl (yw k e)
  ·exact Or.inr (Nat.le_trans hb.size e)) hm5 JB
 have yR:aQ (fun k=>k=s.ap∨s.fv.ownBlock=some k) w0 w:=aQ.aI hb;exact yR.same ((jr.mono (G:=fun k=>k=s.ap∨s.fv.ownBlock=some k) (fun i _ e=>Or.inr e)).same (vt.mono (fun i _ e=>Or.inl e)))
theorem IJ(w:World)(sb tb count:Nat)(p:aS)(ht:w.cell? (aj tb 2)=some (vU count))(htb:tb<w.heap.size):
  aT 240 #[aM sb,lQ p,aM tb] w (fun e w'=>∃ fb:Nat,e=.returned (aM fb)∧Below w.heap.size w w'∧w.heap.size≤fb∧aZ w' fb 160 [aJ sb,vU p.number,aJ tb,vU p.ai,vU p.ai,.bool (decide (count<p.ai))]):=by
 obtain⟨w0,eM,aN,aD⟩:=eK w p;have e3:=aD.ce 3 rfl;have e4:=aD.ce 4 rfl;have t2:w0.cell? (aj tb 2)=some (vU count):=(aN.cell (p:=(aj tb 2)) htb).trans ht;have gZ:=U aN;clear ht aN aD
 go_enter func240,ntmps240
 go_wp2_with fail
 go_region
 all_goals
  go_wp2_with fail
  go_ret
  exact⟨_,rfl,by repeat (first | with_reducible exact gZ.o | with_reducible apply Below.drew | with_reducible refine Below.alloc ?_ gZ.o.size _),gZ.o.size,aZ.drew (heap_alloc_new _ _)⟩
end Go.Proofs.YtkpfplbmmglkkaaGreatDoor
