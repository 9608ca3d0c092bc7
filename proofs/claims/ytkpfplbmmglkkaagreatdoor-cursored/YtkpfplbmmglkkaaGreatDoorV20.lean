/- Package values: the decoder's message. -/
import Derived.Test.YtkpfplbmmglkkaaGreatDoorV16
set_option linter.all false
set_option maxHeartbeats 4000000
set_option maxRecDepth 100000
namespace Go.Proofs.YtkpfplbmmglkkaaGreatDoor
open Go.Proofs.Tryz
variable {G:uH}{fs:List FD}{j s:Nat}{first:Bool}{S:List UInt8}{f:FD}{w w':World}{v:Value}
open Go.RowKit
theorem Ij(X:List PIV):aaV X 0:=by
 intro w0 w db lo la ll lc v dv L d fv fs hI hd hE hb vr h yU hF hO JJ;unfold iy;obtain⟨da,dc,BR⟩:∃ a c,dv=.slice a d.length c:=hd.1.slice
 subst BR;obtain⟨fa,fc,qo⟩:∃ a c,fv=.slice a fs.length c:=ax hO
 subst qo;have H:=U h;have Dv:=U (hd.gr hb);have HLT:=U hd.1.lt;have hz:=hb.size;clear h hI hE hd hF hO JJ;rw[show (7:Int)-(0:Nat)=7 by omega]
 go_enter func270,ntmps270
 go_wp2_with fail
 refine(xD w w0.heap.size _ d Dv.o (by omega) HLT.o hz).mono ?_;rintro e w1 ⟨pa,pl,pc,ok,rfl,aA,Cg⟩;have H1:=U (H.o.below aA);clear Cg
 cases ok with
 | false=>
  go_wp2_with fail
  go_ret
  exact⟨false,v,[],rfl,by simpa using H1.o,DF.ofBelow _ aA,by simp,rfl⟩
 | true=>
  go_wp2_with fail
  go_ret
  exact⟨false,v,[],rfl,by simpa using H1.o,DF.ofBelow _ aA,by simp,rfl⟩
def Nj(G:uH)(val pP:List UInt8→List UInt8→uH)(ps:List (Nat × List UInt8))(fs:List FD)(j:Nat)(first:Bool)(S:List UInt8):Prop:=G=(oQ val pP ps (fs.drop j) first).map fun o=>S++o
theorem Nj.KP{val pP:List UInt8→List UInt8→uH}{ps:List (Nat × List UInt8)}(h:Nj G val pP ps fs j first S)(hj:fs.length≤j):G=some (S++[125]):=by
 unfold Nj at h;rw[h,List.drop_eq_nil_of_le hj];rfl
theorem Nj.af1{val pP:List UInt8→List UInt8→uH}{ps:List (Nat × List UInt8)}(h:Nj G val pP ps fs j first S)(hf:fs[j]? = some f)(hp:ps.find? (fun p=>p.1==f.number)=none):(f.shape=1→Nj G val pP ps fs (j+1) first S)∧(f.shape≠1→G=none):=by
 unfold Nj at h ⊢;have bC:=at_lt hf;rw[List.drop_eq_getElem_cons bC] at h;have e:fs[j]=f:=by rw[List.getElem?_eq_getElem bC] at hf;simpa using hf
 rw[e] at h;unfold oQ at h;rw[hp] at h;exact⟨fun hs=>by simpa[hs] using h,fun hs=>by simpa[hs] using h⟩
theorem Nj.af2{val pP:List UInt8→List UInt8→uH}{ps:List (Nat × List UInt8)}{p:Nat × List UInt8}(h:Nj G val pP ps fs j first S)(hf:fs[j]? = some f)(hp:ps.find? (fun p=>p.1==f.number)=some p):
  ((if f.shape=2 then pP f.base p.2 else val f.base p.2)=none→G=none)∧(∀ s,(if f.shape=2 then pP f.base p.2 else val f.base p.2)=some s→Nj G val pP ps fs (j+1) false (S++(He first++f.name++[58])++s)):=by
 unfold Nj at h ⊢;have bC:=at_lt hf;rw[List.drop_eq_getElem_cons bC] at h;have e:fs[j]=f:=by rw[List.getElem?_eq_getElem bC] at hf;simpa using hf
 rw[e] at h;unfold oQ at h;rw[hp] at h;refine⟨fun hv=>by rw[h];simp only[hv];rfl,fun s hv=>?_⟩;rw[h];simp only[hv,Option.bind_some,Option.map_map]
 congr 1
 funext o
 simp
def wt(o:Option (Nat × List UInt8)):Nat:=match o with | none=>0 | some p=>1000*(p.2.length+2)
theorem abc{ps:List (Nat × List UInt8)}:∀ {ns:List Nat},ns.Pairwise (· ≠ ·)→(ns.map fun n=>wt (ps.find? (fun p=>p.1==n))).sum≤(ps.map fun p=>1000*(p.2.length+2)).sum:=by
 induction ps with
 | nil=>
  intro ns _
  have hz:∀ ns:List Nat,(ns.map fun _=>0).sum=0:=fun ns=>by
   induction ns with
   | nil=>rfl
   | cons n r ih=>simp[ih]
  simp[wt,hz]
 | cons p ps ih=>
  intro ns hn;have h1:=ih hn
  have key:∀ ns:List Nat,ns.Pairwise (· ≠ ·)→(ns.map fun n=>wt ((p::ps).find? (fun p=>p.1==n))).sum≤1000*(p.2.length+2)+(ns.map fun n=>wt (ps.find? (fun p=>p.1==n))).sum:=by
   intro ns
   induction ns with
   | nil=>intro _;simp
   | cons n r ihr=>
    intro hp;obtain⟨fe,fI⟩:=List.pairwise_cons.1 hp;simp only[List.map_cons,List.sum_cons,List.find?_cons]
    by_cases he:p.1=n
    ·have hr:(r.map fun n=>wt ((p::ps).find? (fun p=>p.1==n)))=(r.map fun n=>wt (ps.find? (fun p=>p.1==n))):=by
      apply List.map_congr_left;intro q hq;have:(p.1==q)=false:=by simp;rw[he];exact fe q hq
      rw[List.find?_cons,this]
     simp only[List.find?_cons] at hr;rw[hr];simp[he,wt]
    ·have hb:(p.1==n)=false:=by simp[he]
     have:=ihr fI;simp only[List.find?_cons] at this;rw[hb];simp only;omega
  have h2:=key ns hn;simp only[List.map_cons,List.sum_cons];omega
theorem wh:∀ {f bu:Nat} {d:List UInt8} {ps:List (Nat × List UInt8)},jI f bu d=some ps→(ps.map fun p=>1000*(p.2.length+2)).sum≤1000*d.length
 | f,bu,d,ps,h=>by
  rw[sZ] at h
  split at h
  ·simp only[Option.some.injEq] at h
   subst h;simp
  ·cases f with
   | zero=>cases h
   | succ f=>
    obtain⟨x,hx,h⟩:=Option.bind_eq_some_iff.1 h;obtain⟨y,hy,h⟩:=Option.bind_eq_some_iff.1 h
    split at h
    ·obtain⟨o,ho,rfl⟩:=Option.map_eq_some_iff.1 h
     have h1:=kK (n:=x.1) (r:=x.2) hx;have h2:=ri (v:=y.1) (r:=y.2) hy;have h3:=wh ho;simp only[List.map_cons,List.sum_cons];omega
    ·cases h
theorem Ik(ps:List (Nat × List UInt8)):1000*ps.length≤(ps.map fun p=>1000*(p.2.length+2)).sum:=by
 induction ps with
 | nil=>simp
 | cons p r ih=>simp only[List.map_cons,List.sum_cons,List.length_cons];omega
structure MG(s:Nat)(ps:List (Nat × List UInt8))(fs:List PField)(j:Nat):Prop where
 o:s≤1+((fs.take j).map fun f=>wt (ps.find? (fun p=>p.1==f.number.toNat))).sum
theorem Tq(l:List Nat)(j:Nat):(l.take j).sum≤l.sum:=by
 induction l generalizing j with
 | nil=>simp
 | cons x r ih=>cases j with
  | zero=>simp
  | succ j=>simp;exact ih j
theorem MG.all{ps:List (Nat × List UInt8)}{fs:List PField}{d:List UInt8}(h:MG s ps fs j)(hd:iE d=some ps)(hf:aaU fs):s≤1+1000*d.length:=by
 have h1:=h.o;rw[List.map_take] at h1;have h2:=Tq (fs.map fun f=>wt (ps.find? (fun p=>p.1==f.number.toNat))) j
 have h3:(fs.map fun f=>wt (ps.find? (fun p=>p.1==f.number.toNat))).sum≤(ps.map fun p=>1000*(p.2.length+2)).sum:=by
  have:=abc (ps:=ps) (ns:=fs.map fun f=>f.number.toNat) (List.pairwise_map.2 (List.Pairwise.imp_of_mem (fun {a b} ha hb Es=>by
   have:=hf.num a ha;have:=hf.num b hb
   omega) hf.ne))
  rw[List.map_map] at this;exact this
 have h4:=wh (show jI d.length 0 d=some ps from hd);omega
theorem MG.next{m:Nat}{ps:List (Nat × List UInt8)}{fs:List PField}{p:Nat × List UInt8}(h:MG s ps fs j)(ht:(fs.take (j+1)).map (fun f=>wt (ps.find? (fun p=>p.1==f.number.toNat)))=(fs.take j).map (fun f=>wt (ps.find? (fun p=>p.1==f.number.toNat)))++[wt (ps.find? (fun p=>p.1==m))])(hp:ps.find? (fun p=>p.1==m)=some p):MG (s+1000*(p.2.length+2)) ps fs (j+1):=by
 refine⟨?_⟩;rw[ht,List.sum_append,hp];have h1:=h.o;have h2:[wt (some p)].sum=1000*(p.2.length+2):=by simp[wt]
 rw[h2];omega
theorem om.af3{L:List UInt8}(h:om w' v L)(hb:Below w.heap.size w w')(hk:∀ k,v.ownBlock=some k→k<w.heap.size):om w v L:=by
 refine⟨?_,h.2⟩
 rcases h.1 with h1 | ⟨a,c,rfl,hc⟩
 ·exact Or.inl h1
 ·refine Or.inr ⟨a,c,rfl,fun j x hx=>?_⟩
  have h1:=hc j x hx;have h2:(a.add j).block=a.block:=by unfold Addr.add;split<;>rfl
  rw[hb.cell (p:=a.add j) (by rw[h2];exact hk a.block rfl)] at h1;exact h1
theorem SU.df{lo Dt db:Nat}{pv lv:Value}{p:Option Addr}{ps:List (Nat × List UInt8)}(h:SU w lo Dt pv ps)(hf:DF db Dt w w')(hc:Dc w db lv p v)(hd:Dt≤db)(hl:Dt≤w.heap.size):SU w' lo Dt pv ps:=by
 obtain⟨us,h1,h2,h3⟩:=h;refine⟨us,h1,hf.own h2 (by decide) (fun g hg=>dG h2 hc.seg (by decide) hg),fun i x q hx hq=>?_⟩;obtain⟨k1,k2,k3⟩:=h3 i x q hx hq;exact⟨k1,k2.same (hf.below hd hl) k3,k3⟩
theorem abd{us:List (Nat × Value)}{ps:List (Nat × List UInt8)}(hl:us.length=ps.length)(hr:∀ (i:Nat) (x:Nat × Value) (p:Nat × List UInt8),us[i]? = some x→ps[i]? = some p→x.1=p.1)(m:Nat):
  (qG us m = -1∧ps.find? (fun p=>p.1==m)=none)∨∃ (k:Nat) (x:Nat × Value) (p:Nat × List UInt8),qG us m=(k:Int)∧us[k]? = some x∧ps[k]? = some p∧ps.find? (fun p=>p.1==m)=some p:=by
 have alt:us.map (·.1)=ps.map (·.1):=by
  apply List.ext_getElem?;intro i;rw[List.getElem?_map,List.getElem?_map]
  rcases Nat.lt_or_ge i us.length with hi | hi
  ·have Dg:i<ps.length:=by omega
   have:=hr i us[i] ps[i] (List.getElem?_eq_getElem hi) (List.getElem?_eq_getElem Dg);rw[List.getElem?_eq_getElem hi,List.getElem?_eq_getElem Dg];simp[this]
  ·rw[List.getElem?_eq_none hi,List.getElem?_eq_none (by omega)];rfl
 have alu:us.findIdx? (fun x=>x.1==m)=ps.findIdx? (fun x=>x.1==m):=by
  have e1:us.findIdx? (fun x=>x.1==m)=(us.map (·.1)).findIdx? (fun n=>n==m):=by rw[List.findIdx?_map];rfl
  have e2:ps.findIdx? (fun x=>x.1==m)=(ps.map (·.1)).findIdx? (fun n=>n==m):=by rw[List.findIdx?_map];rfl
  rw[e1,e2,alt]
 unfold qG;rw[alu]
 cases e:ps.findIdx? (fun x=>x.1==m) with
 | none=>
  refine Or.inl ⟨rfl,?_⟩;rw[List.findIdx?_eq_none_iff] at e;rw[List.find?_eq_none];intro x hx;have:=e x hx;simp at this ⊢;exact this
 | some k=>
  obtain⟨bC,hm,mG⟩:=List.findIdx?_eq_some_iff_getElem.1 e;have hlu:k<us.length:=by omega
  refine Or.inr ⟨k,us[k],ps[k],rfl,List.getElem?_eq_getElem hlu,List.getElem?_eq_getElem bC,?_⟩;rw[List.find?_eq_some_iff_getElem];exact⟨hm,k,bC,rfl,fun j hj=>by have:=mG j hj;simpa using this⟩
theorem Tr{X:List PIV}{n:Nat}(hn6:n≤6)(hV:SW X n)(hLs:SX X n):aaV X (n+1):=by
 intro w0 w db lo la ll lc v dv L d fv fs hI hd hE hb vr h yU hF hO JJ;obtain⟨da,dc,BR⟩:∃ a c,dv=.slice a d.length c:=hd.1.slice
 subst BR;obtain⟨fa,fc,qo⟩:∃ a c,fv=.slice a fs.length c:=ax hO
 subst qo;obtain⟨dd,SZ⟩:∃ dd:Int,dd=(7:Int)-((n+1:Nat):Int):=⟨_,rfl⟩
 rw[← SZ];have HDD:=U (show dd+1=(7:Int)-n by omega);have hd6:¬ (6:Int)<dd:=by omega
 have atF:decide ((6:Int)<dd)=false:=by simpa using hd6
 have ald:(0:Int)≤dd:=by omega
 have hwd:IntKind.i64.wrap (dd+1)=dd+1:=by rw[IntKind.wrap_i64];omega
 clear SZ;have H:=U h;have HI:=U hI;have HE:=U hE;have HV:=U hV;have HLS:=U hLs;have HD:=U hd;have Dv:=U (hd.gr hb);have HLT:=U hd.1.lt;have HO:=U hO;have CS:=U JJ;have sY:=U yU;have hz:=hb.size;clear h hI hE hV hLs hd hO JJ yU;obtain⟨G,hG⟩:∃ G,ky X (n+1) (fs.map yT) d=G:=⟨_,rfl⟩
 rw[hG];have HG:=U (show G=(iE d).bind fun ps=>(oQ (kX X n).1 (kX X n).2 ps (fs.map yT) true).map fun o=>123::o by rw[← hG];rfl);clear hG
 go_enter func270,ntmps270
 go_wp2_with fail
 refine(xD w w0.heap.size _ d Dv.o (by have:=sY.o;omega) HLT.o hz).mono ?_;rintro e w1 ⟨pa,pl,pc,ok,rfl,aA,Cg⟩;have H1:=U (H.o.below aA)
 cases ok with
 | false=>
  have HN:=U (show G=none by rw[HG.o,show iE d=none from Cg];rfl);clear Cg
  go_wp2_with fail
  go_ret
  unfold iy;exact⟨false,v,[],rfl,by simpa using H1.o,DF.ofBelow _ aA,by simp,HN.o⟩
 | true=>
  obtain⟨ps,YB,rfl,af4⟩:∃ ps,iE d=some ps∧pl=ps.length∧SU w1 w.heap.size w0.heap.size (.slice pa pl pc) ps:=Cg
  have HPS:=U YB;have HPT:=U af4;have HGF:=U (show Nj G (kX X n).1 (kX X n).2 ps (fs.map yT) 0 true [123] by rw[HG.o,YB];unfold Nj;simp);have ju:=aA.size;clear YB af4
  go_wp2_with fail
  refine(eg _ db w0.heap.size _ v L 123 123 rfl H1.o (by have:=hF.o;omega) (by omega)).mono ?_;rintro e w2 ⟨rfl,v2,Vh,Pv⟩;have jo:=U Vh;have Hw:=(DF.ofBelow w0.heap.size aA).trans Pv;have Rf:=U Pv;clear Vh Pv
  go_wp2_with fail
  go_loopg [11,13,14,32] fs.length (fun gk b11 x13 x14 i32 wr=>∃ (j:Nat) (first:Bool) (v':Value) (S:List UInt8),j+gk=fs.length∧i32=.int .i64 j∧b11=.string (Vi first)∧Hid (yu wr db w0.heap.size (.slice la ll lc) v' (L++S))∧MG S.length ps fs j∧DF db w0.heap.size w wr∧Hid (SU wr w.heap.size w0.heap.size (.slice pa ps.length pc) ps)∧Hid (Nj G (kX X n).1 (kX X n).2 ps (fs.map yT) j first S))
  case atStart=>
   refine⟨0,true,v2,[123],by omega,rfl,rfl,U jo.o,⟨by simp⟩,Hw,U ?_,U HGF.o⟩;obtain⟨p1,_,hdc⟩:=H1.o.d;exact HPT.o.df Rf.o hdc vr (by omega)
  case round=>
   obtain⟨j,first,v',S,hj,rfl,rfl,HT,hMG,JO,HP,HS⟩:=hrel;have hbr:Below w0.heap.size w0 wr:=hb.trans (JO.below vr hz);have Pf:=hbr.size;have Y3:=U (hMG.all HPS.o CS.o)
   by_cases bC:j<fs.length
   ·obtain⟨f,hf⟩:∃ f,fs[j]? = some f:=⟨fs[j],List.getElem?_eq_getElem bC⟩
    have YI:=List.mem_of_getElem? hf;obtain⟨U5,aav⟩:=CS.o.num f YI;obtain⟨wX,Sq⟩:=CS.o.nm f YI;have HOr:=U (aH HO.o (fun g hg=>hbr.block g (HO.o.lt g hg).2):wr.ownsRow lo 246 7 (.slice fa fs.length fc) fs.length (fs.flatMap pfCells));obtain⟨g,cap,hv,vH,xT,fy⟩:=pfield_seg HOr.o hf;obtain⟨rfl,rfl⟩:fa=some (aj g 0)∧fc=cap:=by simpa using hv
    have OB:=U (ae9 hf);have ph:=U (show (fs.take (j+1)).map (fun f=>wt (ps.find? (fun p=>p.1==f.number.toNat)))=(fs.take j).map (fun f=>wt (ps.find? (fun p=>p.1==f.number.toNat)))++[wt (ps.find? (fun p=>p.1==f.number.toNat))] by rw[List.take_add_one,hf];simp);obtain⟨num,mn,name,nameAt,shape,base,baseAt⟩:=f;simp only at U5 aav wX Sq;obtain⟨fn,rfl⟩:∃ fn:Nat,num=(fn:Int):=⟨num.toNat,by omega⟩
    have c0:wr.cell? ⟨g,j*7,none⟩=some (vI fn):=fy.cell (j:=0) rfl;have c1:wr.cell? ⟨g,j*7+1,none⟩=some (vI mn):=fy.cell (j:=1) rfl;have c2:wr.cell? ⟨g,j*7+2,none⟩=some (.string name):=fy.cell (j:=2) rfl;have c3:wr.cell? ⟨g,j*7+3,none⟩=some (vI nameAt):=fy.cell (j:=3) rfl;have c4:wr.cell? ⟨g,j*7+4,none⟩=some (vI shape):=fy.cell (j:=4) rfl;have c5:wr.cell? ⟨g,j*7+5,none⟩=some (.string base):=fy.cell (j:=5) rfl;have c6:wr.cell? ⟨g,j*7+6,none⟩=some (vI baseAt):=fy.cell (j:=6) rfl;have aky:=G1 first;have HBL:=U (GW first);have HKL:=U (G0 (Vi first) name);have HGK:=U (show (j+1)+(gk-1)=fs.length by omega);have alv:fs.length≤400:=CS.o.len;obtain⟨us,Y2,huo,hur⟩:=HP.o;have SV:=U Y2;have HUO:=U huo;have HUR:=U hur;have alw:=U (abd Y2 (fun i x p hx hp=>(hur i x p hx hp).1) fn);clear fy hv hf YI Y2 huo hur;generalize sI:Vi first=bw at *;have HBW:=U sI;clear sI;have qZ:Below wr.heap.size wr (wr.alloc (.cells #[vI fn,vI mn,.string name,vI nameAt,vI shape,.string base,vI baseAt] 246)):=(Below.refl _ _).alloc (Nat.le_refl _) _;have hsa:dU (wr.alloc (.cells #[vI fn,vI mn,.string name,vI nameAt,vI shape,.string base,vI baseAt] 246)) wr.heap.size 246 0 [vI fn,vI mn,.string name,vI nameAt,vI shape,.string base,vI baseAt]:=seg_made wr _ _;have YJ:=U hsa;clear hsa
    have alx:=U (show ∀ x∈us,∃ a l c,x.2=.slice a l c from fun x hx=>by
     obtain⟨q,hq,rfl⟩:=List.getElem_of_mem hx;have hq2:q<ps.length:=by have:=SV.o;omega
     obtain⟨_,h2,_⟩:=HUR.o q us[q] ps[q] (List.getElem?_eq_getElem hq) (List.getElem?_eq_getElem hq2);obtain⟨_,a,c,e,_⟩:=h2
     exact⟨a,_,c,e⟩)
    have af6:us.length≤1000:=by
     have h1:=wh (show jI d.length 0 d=some ps from HPS.o);have h2:=Ik ps;have h3:=sY.o;have h4:=SV.o;omega
    go_wp2_with fail
    clear c0 c1 c2 c3 c4 c5 c6;have HBA:=U qZ;generalize (wr.alloc (.cells #[vI fn,vI mn,.string name,vI nameAt,vI shape,.string base,vI baseAt] 246))=wa at *;have af7:wa.cell? (aj wr.heap.size 0)=some (vI fn):=by have:=YJ.o.cell (j:=0) rfl;simpa using this
    refine(Ia wa w.heap.size _ us fn wr.heap.size (aH HUO.o (fun g hg=>qZ.block g (HUO.o.lt g hg).2)) alx.o af6 (by omega) af7 YJ.o.lt).mono ?_;rintro e w3 ⟨rfl,bP⟩;have WO:Below wr.heap.size wr w3:=qZ.trans (bP.mono qZ.size);have E6:=YJ.o.same (bP.block _ YJ.o.lt);have pU:=U (HT.o.below WO);have nI:=U (HP.o.below WO Pf);have vY:=JO.trans (DF.ofBelow w0.heap.size WO);have d0:=E6.cell (j:=0) rfl;have d1:=E6.cell (j:=1) rfl;have d2:=E6.cell (j:=2) rfl;have d3:=E6.cell (j:=3) rfl;have d4:=E6.cell (j:=4) rfl;have d5:=E6.cell (j:=5) rfl;have d6:=E6.cell (j:=6) rfl;simp only[Nat.zero_add] at d0 d1 d2 d3 d4 d5 d6;have abe:=U E6;have BD:=WO.size;clear E6 af7
    rcases alw.o with⟨hpf,Y8⟩ | ⟨k,x,p,hpf,hxu,hxp,OS⟩
    ·rw[hpf]
     have HLK:=U (HS.o.af1 OB.o Y8);have HMG:=U (show MG S.length ps fs (j+1) from⟨by rw[ph.o,List.sum_append];exact Nat.le_trans hMG.o (Nat.add_le_add_left (Nat.le_add_right _ _) 1)⟩);clear hpf Y8
     by_cases GD:shape=1
     ·have HN:=U (HLK.o.1 GD)
      subst GD
      go_wp2_with fail
      go_roundg (gk-1)
      case rel=>exact⟨j+1,first,v',S,HGK.o,by go_num,by rw[HBW.o],U pU.o,HMG.o,vY,U nI.o,U HN.o⟩
      case measure=>have:=HGK.o;omega
     ·have HN:=U (HLK.o.2 GD)
      have akz:((shape:Int)==1)=false:=beq_eq_false_iff_ne.2 (fun e=>GD (by omega))
      go_wp2_with fail
      go_ret
      unfold iy;exact⟨false,v',S,rfl,pU.o,vY,by have h2:=Y3.o;omega,HN.o⟩
    ·rw[hpf]
     have HHV:=U (HS.o.af2 OB.o OS);have HMS:=U (show S.length+1000*(p.2.length+2)≤1+1000*d.length from MG.all (MG.next hMG ph.o (by simpa using OS)) HPS.o CS.o);have HMN:=U (show ∀ q,q≤1000*(p.2.length+2)→MG (S.length+q) ps fs (j+1) from fun q hq=>⟨by have h1:=(MG.next hMG ph.o (show ps.find? (fun p=>p.1==((fn:Int)).toNat)=some p by simpa using OS)).o;omega⟩);have GA:k<us.length:=at_lt hxu;have hkz:¬ (k:Int)<0:=by omega
     have d2':w3.drew.cell? (aj wr.heap.size 2)=some (.string name):=d2;have alz:(bw++name++ByteArray.mk #[58]).size≤402:=by rw[ByteArray.size_append,ByteArray.size_append];show bw.size+name.size+1≤402;omega
     obtain⟨key,abg⟩:∃ key,Hid (bw++name++ByteArray.mk #[58]=key):=⟨_,U rfl⟩
     have HKT:=U (show key.toList=He first++name.toList++[58] by rw[← abg.o,HKL.o,HBL.o];rfl);rw[abg.o] at alz;have HXU:=U hxu;have HXP:=U hxp;have hFw:(L++S).length≤900000000:=by rw[List.length_append];have h1:=hF.o;have h2:=Y3.o;omega
     have HFW:=U hFw;clear hpf hxu hxp OS hFw
     go_wp2_with fail
     go_region_with (go_at_call 277;rw[abg.o];refine(iU _ db w0.heap.size _ v' (L++S) key (pU.o.below (Below.refl _ _).drew) (by have:=HFW.o;omega) (by omega) (by show w0.heap.size≤w3.heap.size;omega)).mono ?_;rintro e w4 ⟨rfl,v4,Ds,vO⟩;have EQ:=U Ds;have Sv:=U vO;clear Ds vO)
     all_goals
      have abh:DF db w0.heap.size w3 w4:=(DF.ofBelow _ (Below.refl _ _).drew).trans Sv.o;have Cq:=vY.trans abh;obtain⟨p3,_,af8⟩:=pU.o.d;have O3:=U (nI.o.df abh af8 vr (by omega));have bT:wr.heap.size≠db:=by have:=HT.o.lt;omega
      have mE:dU w4 wr.heap.size 246 0 [vI fn,vI mn,.string name,vI nameAt,vI shape,.string base,vI baseAt]:=abe.o.same (abh.block _ abe.o.lt bT (Or.inr (by obtain⟨cur,fF,_⟩:=abe.o;exact⟨cur,_,fF,by decide⟩)));clear d0 d1 d2 d3 d4 d5 d6 d2' af8;have d0:=mE.cell (j:=0) rfl;have d1:=mE.cell (j:=1) rfl;have d2:=mE.cell (j:=2) rfl;have d3:=mE.cell (j:=3) rfl;have d4:=mE.cell (j:=4) rfl;have d5:=mE.cell (j:=5) rfl;have d6:=mE.cell (j:=6) rfl;simp only[Nat.zero_add] at d0 d1 d2 d3 d4 d5 d6;obtain⟨us4,alB,af9,aga⟩:=O3.o;have hk4:k<us4.length:=by have:=SV.o;omega
      have Il:k<ps.length:=by have:=SV.o;omega
      obtain⟨y,hy⟩:∃ y,us4[k]? = some y:=⟨us4[k],List.getElem?_eq_getElem hk4⟩
      obtain⟨hy1,Tt,hy3⟩:=aga k y p hy HXP.o;obtain⟨ya,yc,hyv⟩:∃ a c,y.2=.slice a p.2.length c:=Tt.1.slice
      obtain⟨pg,alC,VS,atQ,atT,agb⟩:=Hz af9 hy;rw[alB] at VS;obtain⟨rfl,rfl⟩:pa=some (aj pg 0)∧pc=alC:=by simpa using VS
      have e1:w4.cell? ⟨pg,k*2+1,none⟩=some (.slice ya p.2.length yc):=by have:=agb.cell (j:=1) rfl;rw[← hyv];exact this
      have Kk:Below w0.heap.size w0 w4:=hb.trans (Cq.below vr hz)
      have HY0:=U (show om w0 (.slice ya p.2.length yc) p.2 from by
       have h1:=Tt;have h3:=hy3;rw[hyv] at h1 h3
       exact h1.af3 Kk h3)
      have hkI:(0:Int)≤(k:Int):=by omega
      have atV:(k:Int)<(ps.length:Int):=by omega
      clear VS agb hy hy1 Tt aga af9;have q0:w4.drew.cell? (aj wr.heap.size 0)=some (vI fn):=d0;have q1:w4.drew.cell? (aj wr.heap.size 1)=some (vI mn):=d1;have q2:w4.drew.cell? (aj wr.heap.size 2)=some (.string name):=d2;have q3:w4.drew.cell? (aj wr.heap.size 3)=some (vI nameAt):=d3;have q4:w4.drew.cell? (aj wr.heap.size 4)=some (vI shape):=d4;have q5:w4.drew.cell? (aj wr.heap.size 5)=some (.string base):=d5;have q6:w4.drew.cell? (aj wr.heap.size 6)=some (vI baseAt):=d6;have e1':w4.drew.cell? ⟨pg,k*2+1,none⟩=some (.slice ya p.2.length yc):=e1
      go_wp2_with fail
      go_region_with (go_at_call 283;refine(K2 HV.o HLS.o w0 _ db lo la ll lc v4 _ (L++S++key.toList) p.2 ⟨(fn:Int),mn,name,nameAt,shape,base,baseAt⟩ (dd+1) HDD.o HI.o HY0.o HE.o Kk.drew vr (EQ.o.below (Below.refl _ _).drew) (by have h1:=HMS.o;have h2:=sY.o;omega) ⟨by rw[List.length_append,List.length_append,aO];have h1:=hF.o;have h2:=HMS.o;omega⟩).mono ?_;rintro e w5 ⟨ok5,v5,S5,rfl,Hj,hf5,hl5,agc⟩;have QT:=U Hj;have HF5:=U hf5;have HL5:=U hl5;have agd:=U agc;clear Hj hf5 hl5 agc)
      all_goals
       have age:DF db w0.heap.size w4 w5:=(DF.ofBelow _ (Below.refl _ _).drew).trans HF5.o;have agf:=Cq.trans age;have agh:=U (show yu w5 db w0.heap.size (.slice la ll lc) v5 (L++(S++key.toList++S5)) by have:=QT.o;simpa[List.append_assoc] using this);have HSB:=U (show (S++key.toList++S5).length≤1+1000*d.length by rw[List.length_append,List.length_append,aO];have h1:=HMS.o;have h2:=HL5.o;omega)
       cases ok5 with
       | false=>
        have HN:=U (HHV.o.1 (by have:=agd.o;simp only[yT] at this ⊢;split at this<;>simp_all));have alD:=U (show iy G w db w0.heap.size (.slice la ll lc) L (1000*(d.length+1)) (.returned (.bool false)) w5 from⟨false,v5,S++key.toList++S5,rfl,agh.o,agf,by have h1:=HSB.o;omega,HN.o⟩)
        go_wp2_with fail
        go_ret
        exact alD.o
       | true=>
        have HN:=U (HHV.o.2 S5 (by have:=agd.o;simp only[yT] at this ⊢;split at this<;>simp_all));obtain⟨p4,_,agi⟩:=EQ.o.d;have yQ:=U (O3.o.df age agi vr (by have:=Kk.size;omega));have HMJ:=U (HMN.o (key.size+S5.length) (by have:=HL5.o;omega));clear agi
        go_wp2_with fail
        go_roundg (gk-1)
        case rel=>exact⟨j+1,false,v5,S++key.toList++S5,HGK.o,by go_num,rfl,U agh.o,by have:=HMJ.o;rw[List.length_append,List.length_append,aO,Nat.add_assoc];exact this,agf,U yQ.o,U (by have:=HN.o;rw[HKT.o];exact this)⟩
        case measure=>have h1:=HGK.o;have h2:=bC;omega
   ·have nX:=U (HS.o.KP (by rw[List.length_map];omega))
    go_wp2_with fail
    refine(eg _ db w0.heap.size _ v' (L++S) 125 125 rfl HT.o (by rw[List.length_append];have h1:=hF.o;have h2:=Y3.o;omega) Pf).mono ?_;rintro e w3 ⟨rfl,v3,JL,SS⟩;have HD3:=U JL;have vY:=JO.trans SS;clear JL SS
    go_wp2_with fail
    go_ret
    unfold iy;exact⟨true,v3,S++[125],rfl,by rw[← List.append_assoc];exact HD3.o,vY,by rw[List.length_append,List.length_singleton];have h2:=Y3.o;omega,nX.o⟩
end Go.Proofs.YtkpfplbmmglkkaaGreatDoor
