/- slices.IndexFunc and slices.DeleteFunc over payloads. -/
import Derived.Test.YtkpfplbmmglkkaaGreatDoorV17
set_option linter.all false
set_option maxHeartbeats 4000000
set_option maxRecDepth 100000
namespace Go.Proofs.YtkpfplbmmglkkaaGreatDoor
open Go.Proofs.Tryz
variable {w w':World}{lo n c size i:Nat}{v:Value}{l:List aS}{g:CG}{e:TypeId}{xs:List Value}{A:List fm}{l1 l2:List fh}{m m':fh}{α:Type}
open Go.RowKit Go.Conc
def gI(w:World)(lo:Nat)(v:Value)(l:List aS):Prop:=w.ownsRow lo 125 6 v l.length (dj l)
theorem gI.at(h:gI w lo v l){k:Nat}(hk:k<l.length):∃ ga c,v=.slice (some (aj ga 0)) l.length c∧lo≤ga∧ga<w.heap.size∧∀ j v,(pc l[k])[j]? = some v→w.cell? ⟨ga,k*6+j,none⟩=some v:=by
 rcases h.2 with⟨_,e⟩ | ⟨ga,c,cur,hv,r⟩
 ·omega
 ·refine⟨ga,c,hv,(h.lt ga (by rw[hv];rfl)).1,(h.lt ga (by rw[hv];rfl)).2,fun j v hj=>?_⟩
  have hj6:j<6:=by
   rcases Nat.lt_or_ge j 6 with h | h
   ·exact h
   ·rw[Array.getElem?_eq_none (by simp[pc];omega)] at hj;cases hj
  have:=h.cells (g:=ga) (by rw[hv];rfl) (k*6+j) v (uJ _ k j v hk hj hj6);rw[dF _ _ rfl] at this;simpa using this
theorem gI.below(h:gI w lo v l)(hb:Below w.heap.size w w'):gI w' lo v l:=aH h (fun g hg=>hb.block g (h.lt g hg).2)
def Ct(l:List aS)(f:aS→Bool)(i:Nat):Bool:=match l[i]? with | some p=>f p | none=>false
theorem aa0(F:Nat)(hF:F=253∨F=247)(w:World)(lo:Nat)(v:Value)(l:List aS)(cb:Nat)(f:aS→Bool)(h:gI w lo v l)(hl:l.length≤1000)
  (tZ:∀ wr,aQ (fun k=>v.ownBlock=some k) w wr→∀ p∈l,aT F #[lQ p,aM cb] wr (fun e w'=>e=.returned (.bool (f p))∧Below wr.heap.size wr w')) :
  aT 262 #[v,.func (Fn.func F) #[] #[aM cb]] w (fun e w'=>∃ z:Int,e=.returned (vI z)∧yM l.length (Ct l f) z∧Below w.heap.size w w'):=by
 rcases hF with rfl | rfl
 all_goals
  obtain⟨la,lc,rfl⟩:=ax h;have HH:=U h;have HC:=U tZ;clear h tZ
  go_enter func262,ntmps262
  go_wp2_with fail
  go_loopg [5,8] l.length (fun gk t i wr=>∃ k:Nat,k+gk=l.length∧i=.int .i64 k∧Hid (∀ j,j<k→Ct l f j=false)∧Below w.heap.size w wr)
  case atStart=>exact⟨0,by omega,rfl,U (fun j hj=>by omega),Below.refl _ _⟩
  case round=>
   obtain⟨k,hk,rfl,HA,bi⟩:=hrel
   by_cases bC:k<l.length
   ·obtain⟨g,cap,hv,di,xT,aK⟩:=(HH.o.below bi).at bC
    obtain⟨rfl,rfl⟩:la=some (aj g 0)∧lc=cap:=by simpa using hv
    have c0:wr.cell? ⟨g,k*6,none⟩=some (.int .u8 l[k].kind):=aK 0 _ rfl;have c1:wr.cell? ⟨g,k*6+1,none⟩=some (.int .u64 l[k].ah):=aK 1 _ rfl;have c2:wr.cell? ⟨g,k*6+2,none⟩=some (.int .u64 l[k].ag):=aK 2 _ rfl;have c3:wr.cell? ⟨g,k*6+3,none⟩=some (.int .u64 l[k].number):=aK 3 _ rfl;have c4:wr.cell? ⟨g,k*6+4,none⟩=some (.int .u64 l[k].ai):=aK 4 _ rfl;have c5:wr.cell? ⟨g,k*6+5,none⟩=some (.string l[k].data):=aK 5 _ rfl;have ej:(k:Int)<(l.length:Int):=by omega
    have HF:=U (show Ct l f k=f l[k] by unfold Ct;rw[List.getElem?_eq_getElem bC]);have HM:=U (List.getElem_mem bC);generalize l[k]=p at *;clear hv aK
    go_wp2_with fail
    refine(HC.o _ (aQ.aI bi) p HM.o).mono ?_;rintro e w1 ⟨rfl,aA⟩;have aW:=bi.trans (aA.mono bi.size);clear aA c0 c1 c2 c3 c4 c5
    cases hm:f p with
    | false=>
     go_wp2_with fail
     go_roundg (gk-1)
     case rel=>exact⟨k+1,by omega,by go_num,U (fun j hj=>by
      rcases Nat.lt_or_ge j k with h | h
      ·exact HA.o j h
      ·rw[show j=k from by omega];exact HF.o.trans hm),aW⟩
     case measure=>omega
    | true=>
     go_wp2_with fail
     go_ret
     exact⟨k,rfl,Or.inl ⟨k,bC,HF.o.trans hm,HA.o,rfl⟩,aW⟩
   ·have ej:¬ (k:Int)<(l.length:Int):=by omega
    go_wp2_with fail
    go_ret
    exact⟨-1,rfl,Or.inr ⟨fun j hj=>HA.o j (by omega),rfl⟩,bi⟩
theorem Dy:∀ (l:List aS) (i:Nat) (p:aS),i<l.length→dj (l.set i p)=((((((dj l).set (i*6) (vB p.kind)).set (i*6+1) (vU p.ah)).set (i*6+2) (vU p.ag)).set (i*6+3) (vU p.number)).set (i*6+4) (vU p.ai)).set (i*6+5) (.string p.data)
 | [],i,p,h=>by simp at h
 | a::r,0,p,_=>by simp[dj,pc]
 | a::r,i+1,p,h=>by
  have ih:=Dy r i p (by simpa using h);show (pc a).toList++dj (r.set i p)=_;rw[ih];show _=(((((((pc a).toList++dj r).set ((i+1)*6) _).set _ _).set _ _).set _ _).set _ _).set _ _;have e:(pc a).toList.length=6:=by simp[pc]
  rw[List.set_append_right _ _ (by omega),List.set_append_right _ _ (by omega),List.set_append_right _ _ (by omega),List.set_append_right _ _ (by omega),List.set_append_right _ _ (by omega),List.set_append_right _ _ (by omega),e];simp only[show (i+1)*6-6=i*6 by omega,show (i+1)*6+1-6=i*6+1 by omega,show (i+1)*6+2-6=i*6+2 by omega,show (i+1)*6+3-6=i*6+3 by omega,show (i+1)*6+4-6=i*6+4 by omega,show (i+1)*6+5-6=i*6+5 by omega]
theorem Nf{g:Nat}(h:w.ownsRow lo e size (.slice (some (aj g 0)) n c) n xs):n≤c:=by
 rcases h.2 with⟨hv,_⟩ | ⟨g',cap,cur,hv,_,_,h3,_⟩
 ·simp at hv
 ·obtain⟨rfl,rfl⟩:g=g'∧c=cap:=by simpa using hv
  exact h3
theorem gJ{g:Nat}(h:w.ownsRow lo e size (.slice (some (aj g 0)) n c) n xs)(i:Nat):w.frozen? (aj g i)=false:=by
 rcases h.2 with⟨hv,_⟩ | ⟨g',cap,cur,hv,_,hh,_⟩
 ·simp at hv
 ·obtain⟨rfl,rfl⟩:g=g'∧c=cap:=by simpa using hv
  simp[World.frozen?,hh]
theorem kL{g o:Nat}(h:w.ownsRow lo e size (.slice (some (aj g 0)) n c) n xs)(u:Value):(w.setCell (aj g o) u).ownsRow lo e size (.slice (some (aj g 0)) n c) n (xs.set o u):=by
 obtain⟨h1,h2⟩:=h;refine⟨by rw[List.length_set];exact h1,?_⟩
 rcases h2 with⟨hv,_⟩ | ⟨g',cap,cur,hv,hl,hh,h3,h4,h5,h6⟩
 ·simp at hv
 ·obtain⟨rfl,rfl⟩:g=g'∧c=cap:=by simpa using hv
  refine Or.inr ⟨g,c,cur.setIfInBounds o u,rfl,hl,heap_setCell_same w g o cur e u hh,h3,h4,by simp[h5],?_⟩;rw[Array.toList_setIfInBounds,List.take_set,h6]
theorem K9(l:List aS)(i:Nat):(dj l).take (i*6)=dj (l.take i):=by
 induction l generalizing i with
 | nil=>simp[dj]
 | cons p r ih=>
  cases i with
  | zero=>simp[dj]
  | succ i=>
   show ((pc p).toList++dj r).take ((i+1)*6)=(pc p).toList++dj (r.take i);rw[List.take_append,← ih i];have e:(pc p).toList.length=6:=by simp[pc]
   rw[List.take_of_length_le (by omega),e,show (i+1)*6-6=i*6 by omega]
theorem Py{g:Nat}(h:w.ownsRow lo 125 6 (.slice (some ⟨g,0,none⟩) n c) n xs)(hi:i<n):∃ w',(∀ ty c',(Builtin.clear_ #[95] ty #[.slice (some ⟨g,i*6,none⟩) (n-i) c']).run Tryz.prog w=.ok (.tuple #[]) w')∧w'.ownsRow lo 125 6 (.slice (some ⟨g,0,none⟩) i c) i (xs.take (i*6))∧aQ (fun k=>k=g) w w':=by
 obtain⟨h1,h2⟩:=h
 rcases h2 with⟨hv,_⟩ | ⟨g',cap,cur,hv,hl,hh,h3,h4,h5,h6⟩
 ·simp at hv
 ·obtain⟨rfl,rfl⟩:g=g'∧c=cap:=by simpa using hv
  obtain⟨m,hm⟩:∃ m,n-i=m+1:=⟨n-i-1,by omega⟩
  obtain⟨Z,hZ⟩:∃ Z,Z=(Builtin.zeroCells #[.int .u8 0,.int .u64 0,.int .u64 0,.int .u64 0,.int .u64 0,.string ⟨#[]⟩] (m+1)).toList:=⟨_,rfl⟩
  have hZl:Z.length=(m+1)*6:=by rw[hZ];simp[Builtin.zeroCells]
  have hlen:i*6+Z.length≤cur.size:=by rw[hZl,h5];omega
  have jD:=run_storeCells_cells (P:=Tryz.prog) g (i*6) Z 0 w (fun j hj=>by
   have:i*6+(0+j)<cur.size:=by omega
   simp[World.cell?,hh]
   omega) (fun j hj=>by simp[World.frozen?,hh]) (fun v hv=>by
   rw[hZ] at hv;simp only[Builtin.zeroCells,Array.toList_map,List.mem_map] at hv;obtain⟨q,_,rfl⟩:=hv;have h6:q % 6<6:=Nat.mod_lt _ (by omega);show Value.oneCell' ((#[Value.int .u8 0,.int .u64 0,.int .u64 0,.int .u64 0,.int .u64 0,.string ⟨#[]⟩]:Array Value)[q % 6]!)=true;generalize q % 6=r at h6
   match r,h6 with
   | 0,_=>rfl
   | 1,_=>rfl
   | 2,_=>rfl
   | 3,_=>rfl
   | 4,_=>rfl
   | 5,_=>rfl)
  simp only[Nat.add_zero] at jD;obtain⟨sG,jk,jO⟩:=oA (b:=g) (T:=125) Z (i*6) w cur hh hlen;obtain⟨r1,r2,r3,r4⟩:=nh (b:=g) Z (i*6) w;refine⟨w.setCells g (i*6) Z,fun ty c'=>?_,⟨by rw[List.length_take,h1];omega,Or.inr ⟨g,c,sG,rfl,hl,jk,by omega,h4,?_,?_⟩⟩,⟨r1,r2,r3,by rw[r4];exact Nat.le_refl _,fun k _ hk=>lZ Z (i*6) w k hk⟩⟩
  ·rw[hm]
   simp[Builtin.clear_,run_underlying underlying95,Value.cells,← hZ,jD,Result.andThen]
  ·have:sG.toList.length=cur.toList.length:=by rw[jO];simp;omega
   simpa[h5] using this
  ·rw[jO,← h6,List.take_take,List.append_assoc,List.take_append_of_le_length (by simp;omega),List.take_take]
   congr 1
   omega
structure Th(l:List aS)(f:aS→Bool)(w:World)(lo:Nat)(v:Value)(i j:Nat)(wr:World):Prop where
 row:∃ M:List aS,M.length=l.length∧M.take i=(l.take j).filter (fun p=>!f p)∧M.drop j=l.drop j∧w.heap.size≤wr.heap.size∧wr.ownsRow lo 125 6 v l.length (dj M)
 dW:aQ (fun k=>v.ownBlock=some k) w wr
theorem qH{f:aS→Bool}:∀ {k:Nat},(∀ j,j<k→Ct l f j=false)→k≤l.length→(l.take k).filter (fun p=>!f p)=l.take k
 | 0,_,_=>by simp
 | k+1,h,hk=>by
  have bC:k<l.length:=by omega
  rw[List.take_add_one,List.getElem?_eq_getElem bC,List.filter_append,qH (fun j hj=>h j (by omega)) (by omega)];have:=h k (by omega);unfold Ct at this;rw[List.getElem?_eq_getElem bC] at this;simp at this;simp[this]
theorem If{f:aS→Bool}(h:∀ j,j<l.length→Ct l f j=false):l.filter (fun p=>!f p)=l:=by
 have:=qH h (Nat.le_refl _);rwa [List.take_length] at this
theorem Th.start{f:aS→Bool}{w1:World}{k:Nat}(h:gI w lo v l)(hb:Below w.heap.size w w1)(hk:k<l.length)(hf:Ct l f k=true)(hn:∀ j,j<k→Ct l f j=false):Th l f w lo v k (k+1) w1 :=
 ⟨⟨l,rfl,by
  rw[List.take_add_one,List.getElem?_eq_getElem hk,List.filter_append,qH hn (by omega)];unfold Ct at hf;rw[List.getElem?_eq_getElem hk] at hf;simp at hf
  simp[hf],rfl,hb.size,h.below hb⟩,aQ.aI hb⟩
theorem Ti(F:Nat)(hF:F=253∨F=247)(w:World)(lo:Nat)(v:Value)(l:List aS)(cb:Nat)(f:aS→Bool)(h:gI w lo v l)(hl:l.length≤1000)
  (tZ:∀ wr,aQ (fun k=>v.ownBlock=some k) w wr→∀ p∈l,aT F #[lQ p,aM cb] wr (fun e w'=>e=.returned (.bool (f p))∧Below wr.heap.size wr w')) :
  aT 246 #[v,.func (Fn.func F) #[] #[aM cb]] w (fun e w'=>∃ v',e=.returned v'∧gI w' lo v' (l.filter (fun p=>!f p))∧aQ (fun k=>v.ownBlock=some k) w w'∧v'.ownBlock=v.ownBlock):=by
 rcases hF with rfl | rfl
 all_goals
  obtain⟨la,lc,rfl⟩:=ax h;have HH:=U h;have HC:=U tZ;clear h tZ
  go_enter func246,ntmps246
  go_wp2_with fail
  refine(aa0 _ (by simp) w lo _ l cb f HH.o hl HC.o).mono ?_;rintro e w1 ⟨z,rfl,hz,aA⟩
  rcases hz with⟨k,hk,hf,Tj,rfl⟩ | ⟨nH,rfl⟩
  ·have hkm:((k:Int) == -1)=false:=by simp
   have jD:Th l f w lo (.slice la l.length lc) k (k+1) w1:=Th.start HH.o aA hk hf Tj;have BK:=U jD;clear jD hf Tj
   obtain⟨g,hla,alk,hgw⟩:∃ g,la=some (aj g 0)∧lo≤g∧g<w.heap.size:=by
    obtain⟨g,c,hv,h1,h2,_⟩:=HH.o.at hk;exact⟨g,(by simpa using hv:la=some (aj g 0)∧lc=c).1,h1,h2⟩
   subst hla
   go_wp2_with fail
   go_loopg [5,6,7] l.length (fun gk x y z wr=>∃ i j:Nat,j+gk=l.length+(k+1)∧j≤l.length∧x=.int .i64 i∧y=.int .i64 j∧i<j∧Hid (Th l f w lo (.slice (some (aj g 0)) l.length lc) i j wr))
   case atStart=>exact⟨k,k+1,by omega,by omega,rfl,by first | rfl | go_num,by omega,BK⟩
   case round=>
    obtain⟨i,j,hj,N7,rfl,rfl,U0,HI⟩:=hrel
    by_cases bC:j<l.length
    ·have ej:(j:Int)<(l.length:Int):=by omega
     obtain⟨M,hM1,Pz,QY,mI,dP⟩:=HI.o.row
     have Y5:M[j]? = l[j]?:=by
      have h1:(M.drop j)[0]? = (l.drop j)[0]?:=by rw[QY]
      simpa using h1
     have HMJ:=U Y5;have hPr:gI wr lo (.slice (some (aj g 0)) l.length lc) M:=by unfold gI;rw[hM1];exact dP
     have hjM:j<M.length:=by omega
     have hiM:i<M.length:=by omega
     obtain⟨p,hp⟩:∃ p,l[j]? = some p:=⟨l[j],List.getElem?_eq_getElem bC⟩
     have hpj:M[j]=p:=by
      rw[List.getElem?_eq_getElem hjM,hp] at Y5;simpa using Y5
     have La:=hPr.at hjM;have WM:=hPr.at hiM;rw[hpj] at La;obtain⟨ga,_,Ko,_,_,La⟩:=La;obtain⟨gb,_,sB,_,_,WM⟩:=WM;have ea:g=ga:=by simp at Ko;exact Ko.1
     have eb:g=gb:=by simp at sB;exact sB.1
     subst ea;subst eb;have c0:wr.cell? ⟨g,j*6,none⟩=some (vB p.kind):=La 0 _ rfl;have c1:wr.cell? ⟨g,j*6+1,none⟩=some (vU p.ah):=La 1 _ rfl;have c2:wr.cell? ⟨g,j*6+2,none⟩=some (vU p.ag):=La 2 _ rfl;have c3:wr.cell? ⟨g,j*6+3,none⟩=some (vU p.number):=La 3 _ rfl;have c4:wr.cell? ⟨g,j*6+4,none⟩=some (vU p.ai):=La 4 _ rfl;have c5:wr.cell? ⟨g,j*6+5,none⟩=some (.string p.data):=La 5 _ rfl;have HP:=U hp;have HPM:=U (List.mem_of_getElem? hp);have GC:=U dP;have HM:=U (And.intro hM1 (And.intro Pz QY));have HCI:=U WM;clear La WM Ko sB hpj Y5 hPr dP Pz QY hp
     go_wp2_with fail
     refine(HC.o _ (HI.o.dW.alloc _) p HPM.o).mono ?_;rintro e w2 ⟨rfl,aW⟩;have hBv:aZ w2 wr.heap.size 125 [vB p.kind,vU p.ah,vU p.ag,vU p.number,vU p.ai,.string p.data]:=aZ.below (heap_alloc_new wr _) aW;have sI:Below wr.heap.size wr w2:=((Below.refl _ wr).alloc (Nat.le_refl _) _).trans (aW.mono (by simp));have yx:=U (HI.o.dW.oq sI);have FQ:=U (aH GC.o (fun q hq=>sI.block q (GC.o.lt q hq).2));have HZ2:=U (Nat.le_trans mI sI.size);have HBV:=U hBv;have VE:=U sI;clear c0 c1 c2 c3 c4 c5 aW hBv sI
     cases hm:f p with
     | true=>
      go_wp2_with fail
      go_roundg (gk-1)
      case rel=>exact⟨i,j+1,by omega,by omega,rfl,by go_num,by omega,U ⟨⟨M,HM.o.1,by rw[List.take_add_one,HP.o,List.filter_append,HM.o.2.1];simp[hm],by rw[← List.drop_drop,← List.drop_drop,HM.o.2.2],HZ2.o,FQ.o⟩,yx.o⟩⟩
      case measure=>omega
     | false=>
      obtain⟨v0,v1,v2,v3,v4,v5⟩:=HBV.o.c6;have FN:g<wr.heap.size:=by omega
      have hdi:∀ q v,(pc M[i])[q]? = some v→w2.cell? ⟨g,i*6+q,none⟩=some v:=fun q v hq=>(VE.o.cell (p:=⟨g,i*6+q,none⟩) FN).trans (HCI.o q v hq)
      have d0:w2.cell? ⟨g,i*6,none⟩=some _:=hdi 0 _ rfl;have d1:w2.cell? ⟨g,i*6+1,none⟩=some _:=hdi 1 _ rfl;have d2:w2.cell? ⟨g,i*6+2,none⟩=some _:=hdi 2 _ rfl;have d3:w2.cell? ⟨g,i*6+3,none⟩=some _:=hdi 3 _ rfl;have d4:w2.cell? ⟨g,i*6+4,none⟩=some _:=hdi 4 _ rfl;have d5:w2.cell? ⟨g,i*6+5,none⟩=some _:=hdi 5 _ rfl;have QF:=gJ FQ.o;have f0:=QF (i*6);have f1:=QF (i*6+1);have f2:=QF (i*6+2);have f3:=QF (i*6+3);have f4:=QF (i*6+4);have f5:=QF (i*6+5);have rE:(i:Int)<(l.length:Int):=by omega
      have hM6:i*6+6≤(dj M).length:=by rw[Oi,HM.o.1];omega
      have Lb:=U (kL (o:=i*6+5) (kL (o:=i*6+4) (kL (o:=i*6+3) (kL (o:=i*6+2) (kL (o:=i*6+1) (kL (o:=i*6) FQ.o (vB p.kind)) (vU p.ah)) (vU p.ag)) (vU p.number)) (vU p.ai)) (.string p.data));rw[← Dy M i p (by rw[HM.o.1];omega)] at Lb;have QZ:=U ((((((yx.o.setCell ⟨g,i*6,none⟩ (vB p.kind) (fun _=>rfl)).setCell ⟨g,i*6+1,none⟩ (vU p.ah) (fun _=>rfl)).setCell ⟨g,i*6+2,none⟩ (vU p.ag) (fun _=>rfl)).setCell ⟨g,i*6+3,none⟩ (vU p.number) (fun _=>rfl)).setCell ⟨g,i*6+4,none⟩ (vU p.ai) (fun _=>rfl)).setCell ⟨g,i*6+5,none⟩ (.string p.data) (fun _=>rfl));clear hdi QF hM6
      go_wp2_with fail
      go_roundg (gk-1)
      case rel=>exact⟨i+1,j+1,by omega,by omega,by go_num,by go_num,by omega,U ⟨⟨M.set i p,by rw[List.length_set];exact HM.o.1,by
       have e1:(l.take (j+1)).filter (fun p=>!f p)=(l.take j).filter (fun p=>!f p)++[p]:=by
        rw[List.take_add_one,HP.o,List.filter_append];simp[hm]
       rw[e1,← HM.o.2.1,List.take_add_one,List.getElem?_set_self (by rw[HM.o.1];omega),List.take_set_of_le (Nat.le_refl _)]
       rfl,by
       rw[List.drop_set_of_lt (by omega),← List.drop_drop,← List.drop_drop,HM.o.2.2],QZ.o.size,Lb.o⟩,QZ.o⟩⟩
      case measure=>omega
    ·have ej:¬ (j:Int)<(l.length:Int):=by omega
     obtain⟨M,hM1,Pz,QY,mI,dP⟩:=HI.o.row;obtain⟨w3,tZ,Ig,js⟩:=Py dP (show i<l.length by omega);have Vl:=U (HI.o.dW);have alp:(i:Int)≤(l.length:Int):=by omega
     have alq:(i:Int)<(lc:Int):=by have:=Nf dP;omega
     have alr:¬ lc=i:=by omega
     have als:¬ i=lc:=by omega
     have HM:=U (show (dj M).take (i*6)=dj (l.filter (fun p=>!f p))∧i=(l.filter (fun p=>!f p)).length by
      have e:l.take j=l:=List.take_of_length_le (by omega);rw[e] at Pz;rw[← Pz,K9]
      exact⟨rfl,by simp;omega⟩)
     have Lb:=U Ig;clear dP Ig Pz QY HI
     go_wp2_with fail
     go_ret
     refine⟨_,rfl,?_,Vl.o.same (js.mono (fun q _ e=>by rw[e];rfl)),rfl⟩;unfold gI;rw[← HM.o.1,← HM.o.2];exact Lb.o
  ·go_wp2_with fail
   go_ret
   exact⟨_,rfl,by rw[If nH];exact HH.o.below aA,aQ.aI aA,rfl⟩
theorem Cu(p:aS)(below:Nat)(cb:Nat)(w:World)(hc:w.cell? (aj cb 0)=some (vU below))(yR:cb<w.heap.size):
  aT 253 #[lQ p,aM cb] w (fun e w'=>e=.returned (.bool (decide (p.number<below)))∧Below w.heap.size w w'):=by
 obtain⟨w0,eM,aN,aD⟩:=eK w p;obtain⟨e0,e1,e2,e3,e4,e5⟩:=aD.c6;have d:w0.cell? (aj cb 0)=some (vU below):=(aN.cell (p:=(aj cb 0)) yR).trans hc;clear aD
 go_enter func253,ntmps253
 go_wp2_with fail
 go_ret
 exact⟨rfl,aN⟩
theorem Ng(h:eH lo w g)(ha:g.aB.length≤1000)(below:Nat):
  aT 231 #[aM g.b,vU below] w (fun e w'=>e=.returned (.tuple #[])∧∃ g',fW lo w g (g.st.qa below) w' g'):=by
 obtain⟨w0,eM,aN,aD⟩:=cS w [vU below] 52;have e0:=aD.ce 0 rfl;have Rj:=aD.aq 0;have h0:=h.below aN;have bC:=h.ap.lt;obtain⟨aa,ac,kn⟩:=h.ra.slice;have d13:w0.cell? (aj g.b 13)=some (.slice aa g.aB.length ac):=(show w0.cell? (aj g.b 13)=some g.av from h0.ap.cell 13).trans (by rw[kn]);have hP:gI w0 lo (.slice aa g.aB.length ac) g.aB:=by unfold gI;rw[← kn];exact h0.aB
 have ol:=h0.ap.bY h0.aB (by decide);have mI:w.heap.size<w0.heap.size:=aD.lt;have hap:∀ k,(Value.slice aa g.aB.length ac).ownBlock=some k→g.av.ownBlock=some k:=fun k hk=>by rw[kn];exact hk
 have Vl:Hid (∀ wr,aQ (fun k=>(Value.slice aa g.aB.length ac).ownBlock=some k) w0 wr→∀ p∈g.aB,aT 253 #[lQ p,aM w.heap.size] wr (fun e w'=>e=.returned (.bool (decide (p.number<below)))∧Below wr.heap.size wr w')):=fun wr BG p _=>by
  have bT:(Value.slice aa g.aB.length ac).ownBlock≠some w.heap.size:=fun e=>by have:=(h.aB.lt _ (hap _ e)).2;omega
  exact Cu p below w.heap.size wr ((BG.cell (p:=(aj w.heap.size 0)) mI bT).trans e0) (Nat.lt_of_lt_of_le mI BG.size)
 have H:=U h;have H0:=U h0;have HP:=U hP;have WJ:=U kn;have We:=U hap;have HNB:=U ol;have Hb:=U aN;clear h h0 hP kn hap ol aD aN
 go_enter func231,ntmps231
 go_wp2_with fail
 refine(Ti 253 (.inl rfl) w0 lo _ g.aB w.heap.size _ HP.o ha Vl.o).mono ?_;rintro e w1 ⟨v',rfl,dP,jk,Cv⟩;obtain⟨a',c',rfl⟩:=ax dP;have aa4:aQ (fun k=>g.av.ownBlock=some k) w0 w1:=jk.mono (fun k _ hk=>We.o k hk);have dD:=H0.o.ap.dW aa4 HNB.o;have k13:w1.cell? (aj g.b 13)=some (.slice aa g.aB.length ac):=(show w1.cell? (aj g.b 13)=some g.av from dD.cell 13).trans (by rw[WJ.o]);have g13:=dD.aq 13;have cz:aZ (w1.setCell (aj g.b 13) (.slice a' (g.aB.filter (fun p=>!decide (p.number<below))).length c')) g.b 99 ({ g with av:=.slice a' (g.aB.filter (fun p=>!decide (p.number<below))).length c',aB:=g.aB.filter (fun p=>!decide (p.number<below)) }:CG).cells:=dD.set 13 _;have jO:aQ (fun k=>k=g.b) w1 (w1.setCell (aj g.b 13) (.slice a' (g.aB.filter (fun p=>!decide (p.number<below))).length c')):=(aQ.refl _ _).setCell _ _ (fun _=>rfl);have afT:=dD.bY dP (by decide)
 have HF:=U (H.o.Td (g':={ g with av:=.slice a' (g.aB.filter (fun p=>!decide (p.number<below))).length c',aB:=g.aB.filter (fun p=>!decide (p.number<below)) })
  (((aQ.aI Hb.o).same (aa4.mono (G:=fun k=>k=g.b∨g.av.ownBlock=some k) (fun k _ hk=>Or.inr hk))).same (jO.mono (fun k _ hk=>Or.inl hk))) cz (jO.own dP (fun k hk e=>afT (e ▸ hk))) (fun k hk=>Or.inl (We.o k (Cv ▸ hk))) rfl rfl rfl rfl ⟨rfl,rfl,rfl⟩ H.o.rs H.o.rc H.o.rv)
 clear dP jk aa4 dD cz jO Cv afT
 go_wp2_with fail
 go_end0
 exact⟨rfl,_,HF.o⟩
theorem cE.part{B:List fm}(h:cE lo w (A++B)):cE lo w A:=(ay.1 h).1
theorem cE.mem{G:List fm}(h:cE lo w G)(hs:∃ R,G.Perm (A++R)):cE lo w A:=by
 obtain⟨R,hR⟩:=hs;exact(h.bZ hR).part
theorem eH.ko(h:eH lo w g)(hs:g.ae=l1++m::l2)(hb:m'.ap=m.ap)(hm:cE lo w' m'.aF)(hg:cM w m.aF w' m'.aF)(hv:du 1 m'.vv m'.s.ak.length (ck m'.s.ak)):
  fW lo w g ({ g with ae:=l1++m'::l2 }:CG).st w' { g with ae:=l1++m'::l2 }:=by
 have e1:(l1++m'::l2).map (fun m=>aJ m.ap)=g.ae.map (fun m=>aJ m.ap):=by rw[hs];simp[hb]
 have e2:(l1++m'::l2).length=g.ae.length:=by rw[hs];simp
 have p1:g.aF.Perm (m.aF++(g.bB++(g.bq++(g.jq++(cx 126 1 g.sv g.ae.length (g.ae.map (fun m=>aJ m.ap))++(l1.flatMap fh.aF++(l2.flatMap fh.aF++(cx 213 1 g.cv g.aU.length (g.aU.map (fun m=>aJ m.ap))++g.aU.flatMap Ge.aF)))))))):=bF (fun p=>by
  unfold CG.aF CG.rest CG.jq;have e3:g.ae.flatMap fh.aF=l1.flatMap fh.aF++(m.aF++l2.flatMap fh.aF):=by rw[hs];simp
  rw[e3];simp only[aP]
  omega)
 have p2:(m'.aF++(g.bB++(g.bq++(g.jq++(cx 126 1 g.sv g.ae.length (g.ae.map (fun m=>aJ m.ap))++(l1.flatMap fh.aF++(l2.flatMap fh.aF++(cx 213 1 g.cv g.aU.length (g.aU.map (fun m=>aJ m.ap))++g.aU.flatMap Ge.aF)))))))).Perm ({ g with ae:=l1++m'::l2 }:CG).aF:=bF (fun p=>by
  show _=cnt p (g.bB++(g.bq++(g.jq++(cx 126 1 g.sv (l1++m'::l2).length ((l1++m'::l2).map (fun m=>aJ m.ap))++((l1++m'::l2).flatMap fh.aF++(cx 213 1 g.cv g.aU.length (g.aU.map (fun m=>aJ m.ap))++g.aU.flatMap Ge.aF))))));rw[e1,e2,List.flatMap_append,List.flatMap_cons];simp only[aP]
  omega)
 refine⟨⟨((h.dR.bZ p1).dE hm hg).bZ p2,h.ra,?_,h.rc,fun x hx=>?_⟩,rfl,hg.dE.bZ p1.symm p2,rfl,rfl,rfl,rfl,rfl⟩
 ·show du 1 g.sv (l1++m'::l2).length ((l1++m'::l2).map (fun m=>aJ m.ap))
  rw[e1,e2];exact h.rs
 ·have JN:x∈l1++m'::l2:=hx
  rcases List.mem_append.1 JN with hx | hx
  ·exact h.rv x (by rw[hs];exact List.mem_append_left _ hx)
  ·rcases List.mem_cons.1 hx with rfl | hx
   ·exact hv
   ·exact h.rv x (by rw[hs];exact List.mem_append_right _ (List.mem_cons_of_mem _ hx))
theorem eH.Tl(h:eH lo w g)(hs:g.ae=l1++m::l2):cE lo w m.aF :=
 h.dR.mem ⟨g.bB++(g.bq++(g.jq++(cx 126 1 g.sv g.ae.length (g.ae.map (fun m=>aJ m.ap))++(l1.flatMap fh.aF++(l2.flatMap fh.aF++(cx 213 1 g.cv g.aU.length (g.aU.map (fun m=>aJ m.ap))++g.aU.flatMap Ge.aF)))))),bF (fun p=>by
  unfold CG.aF CG.rest CG.jq;have e3:g.ae.flatMap fh.aF=l1.flatMap fh.aF++(m.aF++l2.flatMap fh.aF):=by rw[hs];simp
  rw[e3];simp only[aP]
  omega)⟩
theorem fh.iz(h:cE lo w m.aF):aZ w m.ap 128 (ez m):=h.ap (List.mem_append_left _ (List.mem_singleton.2 rfl))
theorem fh.sF(h:cE lo w m.aF)(hc:aQ (fun k=>k=m.ap) w w')(hB:aZ w' m.ap 128 (ez m'))(hb:m'.ap=m.ap)(hv:m'.vv=m.vv)(hs:m'.s.ak=m.s.ak):cE lo w' m'.aF∧cM w m.aF w' m'.aF:=by
 have e:m'.aF=[eL m'.ap 128 (ez m')]++cx 9 1 m.vv m.s.ak.length (ck m.s.ak):=by unfold fh.aF;rw[hv,hs]
 have hl:lo≤m.ap:=(h.lt ⟨_,List.mem_append_left _ (List.mem_singleton.2 rfl),rfl⟩).1;have hg:cM w [eL m.ap 128 (ez m)] w' [eL m'.ap 128 (ez m')]:=⟨hc.mono (fun i _ hi=>aL.one.2 hi),fun k hk=>Or.inl (aL.one.2 ((aL.one.1 hk).trans hb))⟩
 rw[e];exact⟨cE.dE h (by rw[hb];exact ct hl hB (by decide)) hg,hg.dE⟩
theorem Ih(h:cE lo w m.aF)(k:Nat):
  aT 167 #[aJ m.ap,vI k] w (fun e w'=>e=.returned (.tuple #[])∧cE lo w' ({ m with s:=m.s.finish k }:fh).aF∧cM w m.aF w' ({ m with s:=m.s.finish k }:fh).aF):=by
 unfold aJ;have hB:=fh.iz h;have d14:=hB.ce 14 rfl;have g14:=hB.aq 14
 by_cases hf:m.s.bD=0
 ·have b1:((m.s.bD:Int)==0)=true:=by simp[hf]
  have e:m.s.finish k = { m.s with bD:=k }:=by unfold dQ.finish;rw[if_pos hf]
  have hB':aZ (w.setCell (aj m.ap 14) (vI k)) m.ap 128 (ez { m with s:=m.s.finish k }):=by rw[e];exact hB.set 14 _
  have HT:=U (fh.sF (m':={ m with s:=m.s.finish k }) h ((aQ.refl _ w).setCell (aj m.ap 14) (vI k) (fun _=>rfl)) hB' rfl rfl (by rw[e]));clear h hB hB' hf e
  go_enter func167,ntmps167
  go_wp2_with fail
  go_end0
  exact⟨rfl,HT.o⟩
 ·have b1:((m.s.bD:Int)==0)=false:=by simp;omega
  have HE:=U (show m.s.finish k=m.s by unfold dQ.finish;rw[if_neg hf]);have HH:=U h;clear h hB hf
  go_enter func167,ntmps167
  go_wp2_with fail
  go_end0
  exact⟨rfl,by rw[HE.o];exact⟨HH.o,cM.refl _ _⟩⟩
def iG(g:CG)(k:Nat):List fh:=(g.ae.take k).map (fun m=>{ m with s:=m.s.finish 3 })++g.ae.drop k
theorem PA(g:CG){k:Nat}(hk:k<g.ae.length):iG g k=(g.ae.take k).map (fun m=>{ m with s:=m.s.finish 3 })++g.ae[k]::g.ae.drop (k+1)∧iG g (k+1)=(g.ae.take k).map (fun m=>{ m with s:=m.s.finish 3 }) ++ { g.ae[k] with s:=g.ae[k].s.finish 3 } :: g.ae.drop (k+1):=by
 unfold iG;rw[List.take_add_one,List.getElem?_eq_getElem hk,List.drop_eq_getElem_cons hk];refine⟨rfl,?_⟩;simp only[Option.toList_some,List.map_append,List.map_cons,List.map_nil,List.append_assoc,List.cons_append,List.nil_append]
theorem eH.AO(h:eH lo w g){k:Nat}(hk:k<g.ae.length):∃ ga c,g.sv=.slice (some (aj ga 0)) g.ae.length c∧ga<w.heap.size∧w.cell? (aj ga k)=some (aJ g.ae[k].ap):=by
 have ho:w.ownsRow lo 126 1 g.sv g.ae.length (g.ae.map (fun m=>aJ m.ap)):=h.dR.own h.rs (fun p hp=>by unfold CG.aF CG.rest;simp only[List.mem_append];exact Or.inr (Or.inr (Or.inr (Or.inl hp))))
 rcases ho.2 with⟨_,e⟩ | ⟨ga,c,cur,hv,r⟩
 ·omega
 ·refine⟨ga,c,hv,(ho.lt ga (by rw[hv];rfl)).2,?_⟩
  have:=ho.cells (g:=ga) (by rw[hv];rfl) k (aJ g.ae[k].ap) (by simp[List.getElem?_eq_getElem hk]);rw[dF _ _ rfl] at this;simpa using this
theorem aa5(h:eH lo w g)(di:lo≤w.heap.size)(CK:g.ae.length≤1000)(QV:g.aU=[])(BI:g.bI≤1000000000000):
  aT 119 #[aM g.b] w (fun e w'=>e=.returned (.tuple #[])∧∃ g',fW lo w g g.st.zt w' g'):=by
 obtain⟨sa,sc,jU⟩:=h.rs.slice;obtain⟨ca,cc,Cm⟩:=h.rc.slice;have d15:w.cell? (aj g.b 15)=some (.slice sa g.ae.length sc):=(show w.cell? (aj g.b 15)=some g.sv from h.ap.cell 15).trans (by rw[jU])
 have H0:Hid (fW lo w g ({ g with ae:=iG g 0 }:CG).st w { g with ae:=iG g 0 }):=by
  have e:iG g 0=g.ae:=by unfold iG;simp
  rw[e];exact fW.refl h (Below.refl _ _)
 have tj:=U jU;rw[QV] at Cm;have Tm:=U Cm;have HNC:=U QV;clear h jU Cm QV
 go_enter func119,ntmps119
 go_wp2_with fail
 go_loopg [3,11] g.ae.length (fun gk x i wr=>∃ k:Nat,k+gk=g.ae.length∧i=.int .i64 k∧Hid (fW lo w g ({ g with ae:=iG g k }:CG).st wr { g with ae:=iG g k }))
 case atStart=>exact⟨0,by omega,rfl,H0⟩
 case round=>
  obtain⟨k,hk,rfl,HC⟩:=hrel
  by_cases bC:k<g.ae.length
  ·obtain⟨e1,e2⟩:=PA g bC
   have hlen:(iG g k).length=g.ae.length:=by rw[e1];simp;omega
   obtain⟨ga,c,kn,vH,aK⟩:=HC.o.dM.AO (k:=k) (show k<(iG g k).length by omega)
   obtain⟨rfl,rfl⟩:sa=some (aj ga 0)∧sc=c:=by
    have:=tj.o.symm.trans kn;simp at this;exact⟨this.1,this.2.2⟩
   have OA:(iG g k)[k]'(by omega)=g.ae[k]:=by
    have e3:(iG g k)[k]? = some g.ae[k]:=by
     have e4:((g.ae.take k).map (fun m=>({ m with s:=m.s.finish 3 }:fh))).length=k:=by simp;omega
     rw[e1,List.getElem?_append_right (by omega),e4,Nat.sub_self];rfl
    rw[List.getElem?_eq_getElem (by omega)] at e3;exact Option.some.inj e3
   have JE:wr.cell? (aj ga k)=some (.pointer (some ⟨g.ae[k].ap,0,none⟩)):=by
    have:=aK;rw[OA] at this;exact this
   have HF:=U (HC.o.dM.Tl (m:=g.ae[k]) e1);have CY:=U e1;have pd:=U e2;have HV:=U (HC.o.dM.rv g.ae[k] (by show _∈iG g k;rw[e1];exact List.mem_append_right _ (List.mem_cons_self ..)));generalize g.ae[k]=mm at *;have ej:(k:Int)<(g.ae.length:Int):=by omega
   clear kn aK OA e1 e2 hlen
   go_wp2_with fail
   refine(Ih HF.o 3).mono ?_;rintro e w3 ⟨rfl,h3,h4⟩
   have H4:=U (HC.o.trans (HC.o.dM.ko (m':={ mm with s:=mm.s.finish 3 }) CY.o rfl h3 h4 (by
    have:=HV.o;show du 1 mm.vv (mm.s.finish 3).ak.length (ck (mm.s.finish 3).ak);have e:(mm.s.finish 3).ak=mm.s.ak:=by unfold dQ.finish;split<;>rfl
    rw[e];exact this)))
   clear h3 h4
   go_wp2_with fail
   go_roundg (gk-1)
   case rel=>exact⟨k+1,by omega,by go_num,by rw[pd.o];exact H4⟩
   case measure=>omega
  ·have ej:¬ (k:Int)<(g.ae.length:Int):=by omega
   have e3:iG g k=g.ae.map (fun m=>{ m with s:=m.s.finish 3 }):=by
    unfold iG;rw[List.take_of_length_le (by omega),List.drop_of_length_le (by omega),List.append_nil]
   have xq:=U HC.o;rw[e3] at xq;generalize wr=wA at *;generalize RF:({ g with ae:=g.ae.map (fun m=>{ m with s:=m.s.finish 3 }) }:CG)=g2 at xq;have aW:g2.b=g.b:=by rw[← RF]
   have RG:g2.bI=g.bI:=by rw[← RF]
   have d17:wA.cell? (aj g.b 17)=some (.slice ca 0 cc):=by
    have:=xq.o.dM.ap.cell 17;rw[aW] at this;exact this.trans (by show some g2.cv=_;rw[← RF];exact congrArg some Tm.o)
   have BK:=U (show ({ g2.st with bI:=g.bI+1,ag:=0,next:=0,aB:=[],L:=[] }:CP)=g.st.zt by
    rw[← RF];unfold CG.st CP.zt;simp only[List.map_map,HNC.o,List.map_nil]
    rfl)
   clear RF HC e3
   go_wp2_with fail
   go_loopg [5,23] 1 (fun gk x i wq=>i=.int .i64 0∧wq=wA)
   case atStart=>exact⟨rfl,rfl⟩
   case round=>
    obtain⟨rfl,hwq⟩:=hrel;have yx:=U (show fW lo w g g2.st wr g2 from hwq ▸ xq.o);clear xq d17 hwq;have hB:=yx.o.dM.ap;rw[aW] at hB;have d10:wr.cell? (aj g.b 10)=some (vU g.bI):=(show wr.cell? (aj g.b 10)=some (vU g2.bI) from hB.cell 10).trans (by rw[RG]);have f10:=hB.aq 10;have dD:=hB.set 10 (vU ((g.bI:Int)+1));have jk:aQ (fun k=>k=g.b) wr (wr.setCell (aj g.b 10) (vU ((g.bI:Int)+1))):=(aQ.refl _ _).setCell _ _ (fun _=>rfl);obtain⟨w1,ee⟩:∃ w1,wr.setCell (aj g.b 10) (vU ((g.bI:Int)+1))=w1:=⟨_,rfl⟩
    rw[ee] at dD jk;have d11:=dD.ce 11 rfl;have d14:=dD.ce 14 rfl;have d13:=dD.ce 13 rfl;have f11:=dD.aq 11;have f13:=dD.aq 13;have f14:=dD.aq 14;have kJ:=U dD;have Hc1:=U jk;have gX:=U aW;clear RG hB dD jk
    go_wp2_with fail
    have cz:=((kJ.o.set 11 (vU 0)).set 14 (vU 0)).set 13 (.slice none 0 0);have FV:=((Hc1.o.setCell (aj g.b 11) (vU 0) (fun _=>rfl)).setCell (aj g.b 14) (vU 0) (fun _=>rfl)).setCell (aj g.b 13) (.slice none 0 0) (fun _=>rfl);obtain⟨w2,dX⟩:∃ w2,((w1.setCell (aj g.b 11) (vU 0)).setCell (aj g.b 14) (vU 0)).setCell (aj g.b 13) (.slice none 0 0)=w2:=⟨_,rfl⟩
    rw[dX] at cz FV ⊢;have hT:=yx.o.dM.Td (w':=w2) (g':={ g2 with bI:=g.bI+1,ag:=0,next:=0,av:=.slice none 0 0,aB:=[] }) (FV.mono (fun q _ e=>Or.inl (e.trans gX.o.symm))) (by rw[gX.o];exact cz) (World.ownsRow_nil _ _ _ _) (fun q hq=>by cases hq) rfl rfl rfl rfl ⟨rfl,rfl,rfl⟩ yx.o.dM.rs yx.o.dM.rc yx.o.dM.rv;have HT:=U (yx.o.trans hT);have aa6:lo≤w2.heap.size:=Nat.le_trans di HT.o.grow.c.size;have gz:=hT.dM.ap;rw[show ({ g2 with bI:=g.bI+1,ag:=0,next:=0,av:=.slice none 0 0,aB:=[] }:CG).b=g.b from gX.o] at gz;have lE:=U gz;clear hT cz gz FV dX d10 f10 d11 d13 d14 f11 f13 f14 ee;refine(qR w2 g.b 99 g2.iv (vI g2.W) (vI g2.D) (vI g2.R) g2.bu g2.fN g2.up _ _ _ lE.o).mono ?_;rintro e w4 ⟨rfl,q',m',h1,h2,h3,h4,h5,h6⟩
    have HF:=U (HT.o.trans (HT.o.dM.MC (g':={ g2 with bI:=g.bI+1,ag:=0,next:=0,av:=.slice none 0 0,aB:=[],q:=q',m:=m',L:=[] }) aa6 (h6.mono (fun q _ e=>e.trans gX.o.symm)) (by
     show aZ w4 g2.b _ _
     rw[gX.o];exact h3) h1 h2 h4 h5 rfl rfl rfl ⟨rfl,rfl,rfl⟩ (Or.inl ⟨rfl,rfl,rfl⟩) yx.o.dM.rs yx.o.dM.rc yx.o.dM.rv))
    clear h1 h2 h3 h4 h5 h6
    go_wp2_with fail
    go_end0
    exact⟨rfl,_,by rw[← BK.o];exact HF.o⟩
structure yy(c:CP):Prop where
 a:c.aB.length≤1000
 s:c.ae.length≤1000
 ca:c.aU=[]
 at_:c.bI≤1000000000000
 si:c.silence≤1000000000000
 n:c.next≤1000000000000
theorem yy.gg(h:yy g.st):g.aB.length≤1000∧g.ae.length≤1000∧g.aU=[]∧g.bI≤1000000000000∧g.silence≤1000000000000∧g.next≤1000000000000 :=
 ⟨h.a,by simpa[CG.st] using h.s,by simpa[CG.st] using h.ca,h.at_,h.si,h.n⟩
theorem fW.aB{g':CG}{p:CP}(h:fW lo w g p w' g'):g'.aB=p.aB:=by rw[← h.st];rfl
theorem Tn(h:eH lo w g)(di:lo≤w.heap.size)(hS:yy g.st)(p:aS)(ho:g.st.fO p=true):
  aT 205 #[aM g.b,lQ p] w (fun e w'=>e=.returned (.tuple #[])∧∃ g',fW lo w g (g.st.yL p) w' g'):=by
 obtain⟨gY,il,Cb,BH,U7,CU⟩:=hS.gg;obtain⟨w0,eM,aN,aD⟩:=eK w p;obtain⟨e0,e1,e2,e3,e4,e5⟩:=aD.c6;have H:=U h;have Hb:=U aN;clear h aD aN
 go_enter func205,ntmps205
 go_wp2_with fail
 refine(yX (H.o.below Hb.o) p).mono ?_;rintro e w1 ⟨rfl,aA⟩;have aW:=Hb.o.trans (aA.mono Hb.o.size);rw[ho];have HE:=U (show g.st.yL p=g.st.zt.dI by unfold CP.yL;rw[ho];rfl)
 go_wp2_with fail
 refine(aa5 (H.o.below aW) (Nat.le_trans di aW.size) il Cb BH).mono ?_;rintro e w3 ⟨rfl,g3,h3⟩;have H3:=U h3;clear h3;have mN:g3.b=g.b:=H3.o.b
 go_wp2_with fail
 rw[← mN];refine(E3 H3.o.dM (by rw[H3.o.aB];simp[CP.zt])).mono ?_;rintro e w4 ⟨rfl,g4,h4⟩;have H4:=U ((H3.o.bz aW).trans h4);clear h4;rw[mN]
 go_wp2_with fail
 go_end0
 exact⟨rfl,g4,by rw[HE.o,← H3.o.st];exact H4.o⟩
theorem aa7(h:eH lo w g)(hS:yy g.st)(p:aS):
  aT 199 #[aM g.b,lQ p] w (fun e w'=>e=.returned (.tuple #[])∧∃ g',fW lo w g (g.st.fH p) w' g'):=by
 obtain⟨gY,il,Cb,BH,U7,CU⟩:=hS.gg;obtain⟨w0,eM,aN,aD⟩:=eK w p;obtain⟨e0,e1,e2,e3,e4,e5⟩:=aD.c6;have H:=U h;have Hb:=U aN;have HB:=U aD;clear h aD aN
 go_enter func199,ntmps199
 go_wp2_with fail
 refine(yX (H.o.below Hb.o) p).mono ?_;rintro e w1 ⟨rfl,aA⟩;have aW:=Hb.o.trans (aA.mono Hb.o.size);have r3:=(HB.o.below aA).ce 3 rfl
 cases ho:g.st.fO p with
 | false=>
  have HE:=U (show g.st.fH p=g.st by unfold CP.fH;rw[ho];rfl)
  go_wp2_with fail
  go_end0
  exact⟨rfl,g,by rw[HE.o];exact fW.refl H.o aW⟩
 | true=>
  have HE:=U (show g.st.fH p=g.st.qa p.number by unfold CP.fH;rw[ho];rfl)
  go_wp2_with fail
  refine(Ng (H.o.below aW) gY p.number).mono ?_;rintro e w3 ⟨rfl,g3,h3⟩;have H3:=U h3;clear h3
  go_wp2_with fail
  go_end0
  exact⟨rfl,g3,by rw[HE.o];exact H3.o.bz aW⟩
theorem aa8(h:eH lo w g)(di:lo≤w.heap.size)(hS:yy g.st)(bA:Int)(hc:g.fN=false∨g.bu<bA):
  aT 54 #[aM g.b,vI bA] w (fun e w'=>e=.returned (vI 0)∧∃ g',fW lo w g (g.st.raise bA).dI w' g'):=by
 obtain⟨gY,il,Cb,BH,U7,CU⟩:=hS.gg;have H:=U h;have HC:=U hc;clear h hc
 go_enter func54,ntmps54
 go_wp2_with fail
 refine(CM w g.b _ g.iv _ _ _ g.bu g.fN g.up g.q g.m _ H.o.ap bA HC.o).mono ?_;rintro e w1 ⟨rfl,q',m',h1,h2,h3,h4,h5,h6⟩;have HT:=U (H.o.MC (g':={ g with bu:=bA,fN:=true,up:=true,q:=q',m:=m',L:=[] }) di h6 h3 h1 h2 h4 h5 rfl rfl rfl ⟨rfl,rfl,rfl⟩ H.o.ra H.o.rs H.o.rc H.o.rv);clear h1 h2 h3 h4 h5 h6
 go_wp2_with fail
 refine(E3 HT.o.dM gY).mono ?_;rintro e w4 ⟨rfl,g4,h4⟩;have H4:=U (HT.o.trans h4);clear h4
 go_wp2_with fail
 go_ret
 exact⟨rfl,g4,H4.o⟩
theorem Sy(h:eH lo w g)(hS:yy g.st)(hd:¬ g.D≤g.silence+1):
  aT 83 #[aM g.b] w (fun e w'=>e=.returned (.tuple #[])∧∃ g',fW lo w g (g.st.hJ g.D) w' g'):=by
 obtain⟨gY,il,Cb,BH,U7,CU⟩:=hS.gg;have d12:=h.ap.ce 12 rfl;have f12:=h.ap.aq 12;have dD:=h.ap.set 12 (vI ((g.silence:Int)+1));have jk:aQ (fun k=>k=g.b) w (w.setCell (aj g.b 12) (vI ((g.silence:Int)+1))):=(aQ.refl _ _).setCell _ _ (fun _=>rfl);obtain⟨w1,ee⟩:∃ w1,w.setCell (aj g.b 12) (vI ((g.silence:Int)+1))=w1:=⟨_,rfl⟩
 rw[ee] at dD jk;have HT:=U (h.ke (w':=w1) (g':={ g with silence:=g.silence+1 }) jk dD rfl rfl rfl rfl ⟨rfl,rfl,rfl⟩ h.ra h.rs h.rc h.rv);have k11:=dD.ce 11 rfl;have k12:=dD.ce 12 rfl;have k2:=dD.ce 2 rfl;have HE:=U (show g.st.hJ g.D=({ g with silence:=g.silence+1 }:CG).st.dI from congrArg CP.dI (if_neg (fun e=>hd e.2)));clear h dD jk;have b2:decide ((g.D:Int)≤(g.silence:Int)+1)=false:=by simp;omega
 obtain⟨b,b1⟩:∃ b,((g.ag:Int) != 0)=b:=⟨_,rfl⟩
 clear hd;cases b
 all_goals
  go_enter func83,ntmps83
  go_wp2_with fail
  go_quiet (fail)
  go_wp2_with fail
  have hw:=(below_drewN (Below.refl w1.heap.size w1) nq)
  refine(E3 (HT.o.dM.below hw) gY).mono ?_;rintro e w4 ⟨rfl,g4,h4⟩;have H4:=U (HT.o.trans (h4.bz hw));clear h4
  go_wp2_with fail
  go_end0
  exact⟨rfl,g4,by rw[HE.o];exact H4.o⟩
theorem Cw(h:cE lo w m.aF)(cb n:Nat)(hc:w.cell? (aj cb 3)=some (vU n)):
  aT 254 #[aJ m.ap,aM cb] w (fun e w'=>e=.returned (.bool (decide (m.s.aR=n)&&decide (m.s.bD=0)))∧Below w.heap.size w w'):=by
 unfold aJ;have d1:=(fh.iz h).ce 1 rfl;have d14:=(fh.iz h).ce 14 rfl;clear h
 by_cases hr:m.s.aR=n
 case' pos=>
  have b1:((m.s.aR:Int)==n)=true:=by simp[hr]
  have e1:decide (m.s.aR=n)=true:=by simp[hr]
  have e2:decide (m.s.bD=0)=((m.s.bD:Int)==0):=by
   by_cases h:m.s.bD=0
   ·simp[h]
   ·simp[h]
  rw[e1,e2,Bool.true_and];clear e1 e2 hr
 case' neg=>
  have b1:((m.s.aR:Int)==n)=false:=by simp;omega
  have e1:decide (m.s.aR=n)=false:=by simp[hr]
  rw[e1,Bool.false_and];clear e1 hr
 all_goals
  go_enter func254,ntmps254
  go_wp2_with fail
  go_quiet (fail)
  go_wp2_with fail
  go_ret
  exact⟨rfl,below_drewN (Below.refl _ _) _⟩
theorem To(h:eH lo w g)(hS:yy g.st)(p:aS)(hL:g.ag=0∧p.ah=g.ah∧p.number=g.bI):
  aT 198 #[aM g.b,lQ p] w (fun e w'=>e=.returned (.tuple #[])∧∃ g',fW lo w g (g.st.qS p) w' g'):=by
 obtain⟨gY,il,Cb,BH,U7,CU⟩:=hS.gg;obtain⟨w0,eM,aN,aD⟩:=eK w p;obtain⟨e0,e1,e2,e3,e4,e5⟩:=aD.c6;have h0:=h.below aN;have d9:=h0.ap.ce 9 rfl;have d10:=h0.ap.ce 10 rfl;have d11:=h0.ap.ce 11 rfl;have f11:=h0.ap.aq 11;have H:=U h;have H0:=U h0;have Hb:=U aN;have HB:=U aD;have HE:=U (show g.st.qS p=({ g with ag:=p.ag }:CG).st.dI from if_pos hL);have b1:((g.ag:Int)==0)=true:=by simp[hL.1]
 have b2:((p.ah:Int)==g.ah)=true:=by simp[hL.2.1]
 have b3:((p.number:Int)==g.bI)=true:=by simp[hL.2.2]
 clear h h0 aD aN hL
 go_enter func198,ntmps198
 go_wp2_with fail
 go_quiet (fail)
 have hw:=below_drewN Hb.o nq;have jk:aQ (fun k=>k=g.b) (w0.drewN nq) ((w0.drewN nq).setCell (aj g.b 11) (vU p.ag)):=(aQ.refl _ _).setCell _ _ (fun _=>rfl);have HT:=U ((H.o.below hw).ke (g':={ g with ag:=p.ag }) jk ((H.o.below hw).ap.set 11 _) rfl rfl rfl rfl ⟨rfl,rfl,rfl⟩ H.o.ra H.o.rs H.o.rc H.o.rv);clear jk
 go_wp2_with fail
 refine(E3 HT.o.dM gY).mono ?_;rintro e w4 ⟨rfl,g4,h4⟩;have H4:=U ((HT.o.bz hw).trans h4);clear h4
 go_wp2_with fail
 go_end0
 exact⟨rfl,g4,by rw[HE.o];exact H4.o⟩
def atB{α:Type}(l:List α)(P:α → Bool)(i:Nat):Bool:=match l[i]? with | some m=>P m | none=>false
theorem AP{l:List α}{P:α → Bool}(hi:i<l.length):atB l P i=P l[i]:=by unfold atB;rw[List.getElem?_eq_getElem hi]
theorem AQ{l:List α}{P:α → Bool}{z:Int}(h:yM l.length (atB l P) z):(∃ k:Nat,z=k∧k<l.length∧l.findIdx? P=some k)∨(z = -1∧l.findIdx? P=none):=by
 rcases h with⟨k,hk,hf,hn,rfl⟩ | ⟨hn,rfl⟩
 ·refine Or.inl ⟨k,rfl,hk,?_⟩
  rw[List.findIdx?_eq_some_iff_getElem];refine⟨hk,(AP hk).symm.trans hf,fun j hj=>?_⟩;have:=hn j hj;rw[AP (by omega)] at this;simpa using this
 ·refine Or.inr ⟨rfl,?_⟩
  rw[List.findIdx?_eq_none_iff];intro x hx;obtain⟨j,hj,rfl⟩:=List.getElem_of_mem hx;exact(AP hj).symm.trans (hn j hj)
theorem eH.oT(h:eH lo w g):rH w lo 126 g.sv (g.ae.map (fun m=>m.ap)):=by
 have ho:w.ownsRow lo 126 1 g.sv g.ae.length (g.ae.map (fun m=>aJ m.ap)):=h.dR.own h.rs (fun p hp=>by unfold CG.aF CG.rest;simp only[List.mem_append];exact Or.inr (Or.inr (Or.inr (Or.inl hp))));unfold rH;rw[List.length_map,List.map_map];exact ho
theorem eH.iO(h:eH lo w g){i:Nat}(hi:i<g.ae.length):cE lo w g.ae[i].aF :=
 h.Tl (l1:=g.ae.take i) (l2:=g.ae.drop (i+1)) (by rw[← List.drop_eq_getElem_cons hi,List.take_append_drop])
def afW(g:CG)(p:aS)(e:Ending):Prop:=(g.st.ew p=none∧e=.returned (.pointer none))∨∃ i m,g.st.ew p=some i∧g.ae[i]? = some m∧e=.returned (.pointer (some ⟨m.ap,0,none⟩))
theorem E4(h:eH lo w g)(hS:yy g.st)(p:aS):
  aT 232 #[aM g.b,lQ p] w (fun e w'=>afW g p e∧Below w.heap.size w w'):=by
 obtain⟨gY,il,Cb,BH,U7,CU⟩:=hS.gg;obtain⟨w0,eM,aN,aD⟩:=eK w p;obtain⟨e0,e1,e2,e3,e4,e5⟩:=aD.c6;have h0:=h.below aN;obtain⟨sa,sc,jU⟩:=h.rs.slice;have d15:w0.cell? (aj g.b 15)=some (.slice sa g.ae.length sc):=(show w0.cell? (aj g.b 15)=some g.sv from h0.ap.cell 15).trans (by rw[jU]);have HP:=U h0.oT;rw[jU] at HP;have tj:=U jU
 have HC:Hid (∀ wr,Below w0.heap.size w0 wr→∀ i (hi:i<(g.ae.map (fun m=>m.ap)).length),aT 254 #[aJ (g.ae.map (fun m=>m.ap))[i],aM w.heap.size] wr (fun e w'=>e=.returned (.bool (atB g.ae (fun m=>(decide (m.s.aR=p.number)&&decide (m.s.bD=0))) i))∧Below wr.heap.size wr w')):=fun wr BG i hi=>by
  have Gj:i<g.ae.length:=by simpa using hi
  rw[AP Gj,List.getElem_map];exact Cw ((h0.below BG).iO Gj) w.heap.size p.number ((aD.below BG).cell 3)
 have HR:=U (show g.st.D6 p=g.ae.findIdx? (fun m=>(decide (m.s.aR=p.number)&&decide (m.s.bD=0))) by
  unfold CP.D6 CG.st;simp only[List.findIdx?_map]
  rfl)
 have H:=U h;have H0:=U h0;have Hb:=U aN;have HB:=U aD;have hl:(g.ae.map (fun m=>m.ap)).length=g.ae.length:=by simp
 have HL:=U hl;clear h h0 aD aN jU hl
 go_enter func232,ntmps232
 go_wp2_with fail
 refine(VC 125 254 126 (by simp) w0 lo _ (g.ae.map (fun m=>m.ap)) w.heap.size _ HP.o (by have:=HL.o;omega) HC.o).mono ?_;rintro e w1 ⟨z,rfl,hz,aA⟩;rw[HL.o] at hz;have JK:=AQ hz;have aW:=Hb.o.trans (aA.mono Hb.o.size);have kJ:=U (HB.o.below aA);have H1:=U (H.o.below aW);have Dx:=U aW;clear hz HC aA aW;obtain⟨r0,r1,r2,r3,r4,r5⟩:=kJ.o.c6
 rcases JK with⟨k,rfl,hk,hf⟩ | ⟨rfl,hf⟩
 ·have HF:=U (HR.o.trans hf)
  have b0:decide ((k:Int)<0)=false:=by simp
  clear hf
  go_wp2_with fail
  refine(yX H1.o p).mono ?_;rintro e w2 ⟨rfl,aW⟩;have bP:=Dx.o.trans (aW.mono Dx.o.size)
  cases ho:g.st.fO p with
  | false=>
   have HN:=U (show g.st.ew p=none by unfold CP.ew;rw[ho];rfl)
   go_wp2_with fail
   go_ret
   exact⟨Or.inl ⟨HN.o,rfl⟩,bP⟩
  | true=>
   have HN:=U (show g.st.ew p=some k by unfold CP.ew;rw[ho];exact HF.o);have H3:=H.o.below bP;obtain⟨ga,c,kn,vH,aK⟩:=H3.AO hk;obtain⟨rfl,rfl⟩:sa=some (aj ga 0)∧sc=c:=by simpa using tj.o.symm.trans kn
   have k15:w2.cell? (aj g.b 15)=some (.slice (some (aj ga 0)) g.ae.length sc):=(show w2.cell? (aj g.b 15)=some g.sv from H3.ap.cell 15).trans (by rw[tj.o]);have JE:w2.cell? (aj ga k)=some (.pointer (some ⟨g.ae[k].ap,0,none⟩)):=aK;have HM:=U (List.getElem?_eq_getElem hk);generalize g.ae[k]=mm at *;have hkI:(k:Int)<(g.ae.length:Int):=by omega
   clear kn aK H3
   go_wp2_with fail
   go_ret
   exact⟨Or.inr ⟨k,mm,HN.o,HM.o,rfl⟩,bP⟩
 ·have HF:=U (HR.o.trans hf)
  have HN:=U (show g.st.ew p=none by unfold CP.ew;split;exact HF.o;rfl);clear hf
  go_wp2_with fail
  go_ret
  exact⟨Or.inl ⟨HN.o,rfl⟩,Dx.o⟩
end Go.Proofs.YtkpfplbmmglkkaaGreatDoor
