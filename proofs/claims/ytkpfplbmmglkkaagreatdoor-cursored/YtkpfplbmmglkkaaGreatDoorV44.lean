/- Cursored without memory: part L. -/
import Derived.Test.YtkpfplbmmglkkaaGreatDoorV43
import Derived.Test.YtkpfplbmmglkkaaGreatDoorV42
set_option linter.all false
namespace Go.Proofs.YtkpfplbmmglkkaaGreatDoor
variable {ask:SP.jX}{W cn bg cW ss nx k md R a b N g n q:Nat}{L Lc:List aS}{Ts:List jS}{t:jS}{bp:vh}{E:dH}{w w2:WP}{s s':SP}{s1:dQ}{S:List dQ}{c:CP}{v1 vs:List ByteArray}{d1 ca lt:Bool}{X:List gp}
open Go.RowKit
theorem Mh{lh:Nat}{f:cY}(ht:Ts[f.aG]? = some t)(hL:¬ aw 7 5 ss nx 0∈L)(hl:L.length<60):
  (sP cn L Ts (some (oP cW ss lh nx [f])) false bg).take ask W (aw 1 5 ss 0 0)=sP cn (bo true (cw true W 5 ss t { f with az:=f.aX } (L++[aw 7 5 ss nx 0])).2 (aw 7 5 ss nx 0)) Ts (some (oP cW ss 0 nx [(cw true W 5 ss t { f with az:=f.aX } (L++[aw 7 5 ss nx 0])).1])) true bg:=by
 rw[Bj,lg (o:=oP cW ss lh nx [f]) rfl];unfold aw SP.BZ SP.cG;simp only[oP,sP,if_true];unfold SP.dI;simp only[List.foldl_nil,pH.fH];rw[bU hL hl];unfold SP.dy SP.dy;simp only[if_true,ht];rfl
theorem Jk(hE:Md E bp){w:WP}{cn n k q:Nat}(hw:UI E w cn)(hn:n≤E.t.count)(hk:k≤E.t.count)(s0 s1:dQ)(h0:s0.aR=0∧s0.bD=0∧s0.aX=n∧s0.base=eN 1∧s0.name.size≤1000∧s0.ak=[])(h1:s1.aR=1∧s1.bD=0∧s1.aX=k∧s1.base=eN 1∧s1.name.size≤1000∧s1.ak=[])(hq:n≤q∧q≤1000):
  ∃ T0 T1,dV ask bp E 0 22 T0 ⟨pF E 0 n,some (gU E n s0),[]⟩∧dV ask bp E 1 22 T1 ⟨pF E 1 k,some (gU E k s1),[]⟩∧(w.bG (sP cn [aw 7 0 0 0 0] E.Ts (some (oP 0 1 1 1 [⟨0,1,n,q,false⟩])) false 1) (cP cn [aw 1 5 1 0 0,gV 1 k] 0 1 1 [cQ 1 k] 2 [s0,s1] 2) 1 1).jh ask bp=some (XX (w.bG (sP cn [] E.Ts (some (oP 0 1 0 2 [])) true 1) (cP cn [] 0 1 0 [] 2 [] 2) 0 0) (oP 0 1 0 2 []) T0 T1,false):=by
 obtain⟨p1,p2,p3,p4,p5,p6⟩:=h0;obtain⟨q1,q2,q3,q4,q5,q6⟩:=h1;have hN:=hE.ok.N;have hl1:=hE.l1;have anM:gx s0:=⟨p5,by rw[p3];omega,by rw[p6];simp,by rw[p6];simp,by rw[p2];decide⟩
 have IV:gx s1:=⟨q5,by rw[q3];omega,by rw[q6];simp,by rw[q6];simp,by rw[q2];decide⟩
 obtain⟨a',A',c1,c2,c3,c4,c5⟩:=o8 (ask:=ask) hE.ok (r:=0) (k:=n) (by omega) hn s0 p1 p2 p3 (p4.trans hE.base.symm) p5 p6;obtain⟨b',B',d1,d2,d3,d4,d5⟩:=o8 (ask:=ask) hE.ok (r:=1) (k:=k) (by omega) hk s1 q1 q2 q3 (q4.trans hE.base.symm) q5 q6;refine⟨_,_,c5,d5,?_⟩;have rR:pW (aw 1 5 1 0 0)=true:=bV (by decide) (by omega) (by omega) (by omega) (by omega);have h70:pW (aw 7 0 0 0 0)=true:=bV (by decide) (by omega) (by omega) (by omega) (by omega);have h7:∀ n,n<1000→pW (aw 7 5 1 n 0)=true:=fun n hn=>bV (by decide) (by omega) (by omega) (by omega) (by omega)
 have UJ:=zi (r:=1) (k:=k) (by omega) (by omega);have hX:∀ (c:CP) (a b:Nat) (L:List aS) (o:pH) (cu:Bool),nA (w.bG (sP cn L E.Ts (some o) cu 1) c a b):=fun c a b L o cu=>⟨hw.a.c.trans hw.a.s.symm,by show (sP cn L E.Ts (some o) cu 1).gl (w.lS:Int)=true;rw[hw.a.s];exact uY ..⟩
 have hS0:bH E n≤1000∧n≤bH E n:=by
  unfold bH
  split
  ·omega
  ·split<;>omega
 have hF:nB 0 [aw 7 0 0 0 0,aw 7 5 1 1 0]:=fun p hp=>by
  rcases List.mem_cons.1 hp with rfl | hp
  ·exact Or.inr rfl
  ·rw[List.mem_singleton.1 hp];exact Or.inr rfl
 have e4:=tJ hE.ok (r:=0) (k:=n) (L:=[aw 7 0 0 0 0,aw 7 5 1 1 0]) hn hF (by simp);rw[hE.tk,hE.ss,← hw.W] at e4
 have e1:(sP cn [aw 7 0 0 0 0] E.Ts (some (oP 0 1 1 1 [⟨0,1,n,q,false⟩])) false 1).take ask w.W (aw 1 5 1 0 0)=sP cn ([aw 7 0 0 0 0,aw 7 5 1 1 0]++cV E 0 n) E.Ts (some (oP 0 1 0 1 [⟨0,1,n,bH E n,false⟩])) true 1:=by
  refine(Mh (f:=⟨0,1,n,q,false⟩) hE.ok.ht (fun hm=>by have:=(aS.mk.inj (List.mem_singleton.1 hm)).2.1;omega) (by simp)).trans ?_;have e5:cw true w.W 5 1 E.t { (⟨0,1,n,q,false⟩:cY) with az:=(⟨0,1,n,q,false⟩:cY).aX } ([aw 7 0 0 0 0]++[aw 7 5 1 1 0])=(⟨0,1,n,bH E n,false⟩,[aw 7 0 0 0 0,aw 7 5 1 1 0]++cV E 0 n):=e4;rw[e5,lU (by simp)]
 obtain⟨M,hM⟩:∃ M,[aw 7 0 0 0 0,aw 7 5 1 1 0]++cV E 0 n=M:=⟨_,rfl⟩
 have hMl:M.length≤20:=by rw[← hM,List.length_append];have:=c2.len;simp;omega
 have hM7:¬ aw 7 5 1 2 0∈M:=by
  rw[← hM];intro hm
  rcases List.mem_append.1 hm with hm | hm
  ·rcases List.mem_cons.1 hm with e | hm
   ·have:=(aS.mk.inj e).2.1;omega
   ·have:=(aS.mk.inj (List.mem_singleton.1 hm)).2.2.2.1;omega
  ·exact Mf E 0 n _ hm rfl
 have hMF:nB 1 (M++[aw 7 5 1 2 0]):=by
  rw[← hM];refine nB.bM (nB.bM (fun p hp=>?_) (Me E (by decide))) (fun p hp=>by rw[List.mem_singleton.1 hp];exact Or.inr rfl)
  rcases List.mem_cons.1 hp with rfl | hp
  ·exact Or.inr rfl
  ·rw[List.mem_singleton.1 hp];exact Or.inr rfl
 have f4:=tJ hE.ok (r:=1) (k:=k) (L:=M++[aw 7 5 1 2 0]) hk hMF (by rw[List.length_append];simp;omega);rw[hE.tk,hE.ss,← hw.W] at f4
 have e2:(sP cn M E.Ts (some (oP 0 1 0 1 [⟨0,1,n,bH E n,false⟩])) true 1).take ask w.W (gV 1 k)=sP cn (M++[aw 7 5 1 2 0]++cV E 1 k) E.Ts (some (oP 0 1 0 2 [⟨0,1,n,bH E n,false⟩,⟨1,1,k,bH E k,false⟩])) true 1:=by
  refine(Jj (s:=sP cn M E.Ts (some (oP 0 1 0 1 [⟨0,1,n,bH E n,false⟩])) true 1) (o:=oP 0 1 0 1 [⟨0,1,n,bH E n,false⟩]) rfl rfl rfl k (cr 1) (hE.ti _ rfl) hE.ok.ht hk).trans ?_
  have e5:cw true w.W (oP 0 1 0 1 [⟨0,1,n,bH E n,false⟩]).ah (oP 0 1 0 1 [⟨0,1,n,bH E n,false⟩]).number E.t ⟨(oP 0 1 0 1 [⟨0,1,n,bH E n,false⟩]).next,1,k,k,false⟩ (bo true (sP cn M E.Ts (some (oP 0 1 0 1 [⟨0,1,n,bH E n,false⟩])) true 1).L (aw 7 (oP 0 1 0 1 [⟨0,1,n,bH E n,false⟩]).ah (oP 0 1 0 1 [⟨0,1,n,bH E n,false⟩]).number ((oP 0 1 0 1 [⟨0,1,n,bH E n,false⟩]).next+1) 0))=(⟨1,1,k,bH E k,false⟩,M++[aw 7 5 1 2 0]++cV E 1 k):=by
   rw[show bo true (sP cn M E.Ts (some (oP 0 1 0 1 [⟨0,1,n,bH E n,false⟩])) true 1).L (aw 7 (oP 0 1 0 1 [⟨0,1,n,bH E n,false⟩]).ah (oP 0 1 0 1 [⟨0,1,n,bH E n,false⟩]).number ((oP 0 1 0 1 [⟨0,1,n,bH E n,false⟩]).next+1) 0)=M++[aw 7 5 1 2 0] from bU hM7 (by show M.length<60;omega)];exact f4
  rw[e5];rfl
 have a1:bd (WP.dq ask) (w.bG (sP cn [aw 7 0 0 0 0] E.Ts (some (oP 0 1 1 1 [⟨0,1,n,q,false⟩])) false 1) (cP cn [] 0 1 1 [cQ 1 k] 2 [s0,s1] 2) 1 1) [aw 1 5 1 0 0,gV 1 k]=some (w.bG (sP cn (M++[aw 7 5 1 2 0]++cV E 1 k) E.Ts (some (oP 0 1 0 2 [⟨0,1,n,bH E n,false⟩,⟨1,1,k,bH E k,false⟩])) true 1) (cP cn [] 0 1 1 [cQ 1 k] 2 [s0,s1] 2) 1 0):=by
  rw[aV,fE (hX _ _ _ _ _ _) (kN hE.Ts (by omega) (by omega) (by omega) (F:=[⟨0,1,n,q,false⟩]) (fun f hf=>by rw[List.mem_singleton.1 hf];exact⟨hq.1,hq.2,hl1⟩) (by simp)) rR rfl (fun o ho=>by cases ho;rfl)];rw[show (w.bG (sP cn [aw 7 0 0 0 0] E.Ts (some (oP 0 1 1 1 [⟨0,1,n,q,false⟩])) false 1) (cP cn [] 0 1 1 [cQ 1 k] 2 [s0,s1] 2) 1 1).s.take ask (w.bG (sP cn [aw 7 0 0 0 0] E.Ts (some (oP 0 1 1 1 [⟨0,1,n,q,false⟩])) false 1) (cP cn [] 0 1 1 [cQ 1 k] 2 [s0,s1] 2) 1 1).W (aw 1 5 1 0 0)=_ from e1,Option.bind_some,hM];show bd (WP.dq ask) (w.bG (sP cn M E.Ts (some (oP 0 1 0 1 [⟨0,1,n,bH E n,false⟩])) true 1) (cP cn [] 0 1 1 [cQ 1 k] 2 [s0,s1] 2) 1 0) [gV 1 k]=_;rw[aV,fE (hX _ _ _ _ _ _) (kN hE.Ts (by omega) (by omega) (by omega) (F:=[⟨0,1,n,bH E n,false⟩]) (fun f hf=>by rw[List.mem_singleton.1 hf];exact⟨hS0.2,hS0.1,hl1⟩) (by simp)) UJ rfl (fun o ho=>by cases ho;rfl)];rw[show (w.bG (sP cn M E.Ts (some (oP 0 1 0 1 [⟨0,1,n,bH E n,false⟩])) true 1) (cP cn [] 0 1 1 [cQ 1 k] 2 [s0,s1] 2) 1 0).s.take ask (w.bG (sP cn M E.Ts (some (oP 0 1 0 1 [⟨0,1,n,bH E n,false⟩])) true 1) (cP cn [] 0 1 1 [cQ 1 k] 2 [s0,s1] 2) 1 0).W (gV 1 k)=_ from e2];rfl
 have hXc:∀ (q:SP) (a b:Nat) (L A:List aS) (S:List dQ),tG (w.bG q (cP cn L 0 1 0 A 2 S 2) a b):=fun q a b L A S=>⟨hw.a.c.trans hw.a.s.symm,by show (cP cn L 0 1 0 A 2 S 2).gl (w.lG:Int)=true;rw[hw.a.c];exact qN ..⟩
 have X5:∀ x∈[s0,s1],gx x:=fun x hx=>by
  rcases List.mem_cons.1 hx with rfl | hx
  ·exact anM
  ·rw[List.mem_singleton.1 hx];exact IV
 have ahU:∀ x∈[a',s1],gx x:=fun x hx=>by
  rcases List.mem_cons.1 hx with rfl | hx
  ·exact c4.2
  ·rw[List.mem_singleton.1 hx];exact IV
 obtain⟨Z,hZ⟩:∃ Z,sP cn [] E.Ts (some (oP 0 1 0 2 [⟨0,1,n,bH E n,false⟩,⟨1,1,k,bH E k,false⟩])) true 1=Z:=⟨_,rfl⟩
 have ZB:M++[aw 7 5 1 2 0]++cV E 1 k=aw 7 0 0 0 0::(aw 7 5 1 1 0::(cV E 0 n++(aw 7 5 1 2 0::cV E 1 k))):=by rw[← hM];simp
 have a2:bd (WP.cF bp) (w.bG Z (cP cn [] 0 1 1 [cQ 1 k] 2 [s0,s1] 2) 1 0) (M++[aw 7 5 1 2 0]++cV E 1 k)=some (w.bG Z (cP cn (A'++B') 0 1 0 [] 2 [a',b'] 2) 0 0):=by
  rw[ZB,aV,DU hw.a _ _ _ _ _ _ _ _ _ _ _ (fM (by simp) X5 (by simp) (by omega) (by omega) (by omega) (by omega)),Option.bind_some,aV,qO hw.a _ _ _ _ _ _ _ _ _ _ _ _ (fM (by simp) X5 (by simp) (by omega) (by omega) (by omega) (by omega)) (by omega) (by omega) (by omega),Option.bind_some,kA];rw[show ([cQ 1 k].filter (fun r=>!decide (r.number<1)))=[cQ 1 k] from rfl];rw[c1 (w.bG Z (cP cn [] 0 1 0 [cQ 1 k] 2 [s0,s1] 2) 0 0) [] [s1] ⟨hXc _ _ _ _ _ _,fM (by simp) X5 (by simp) (by omega) (by omega) (by omega) (by omega),hE.tk.symm,hE.ss.symm,rfl,hw.R,rfl⟩ rfl (fun x hx=>(by cases hx)) (fun x hx=>by rw[List.mem_singleton.1 hx,q1];decide) (fun p hp=>by rw[List.mem_singleton.1 hp];show 0<1;omega) (nB.nil 0) (by show ([]:List aS).length≤30;simp),Option.bind_some];show bd (WP.cF bp) (w.bG Z (cP cn A' 0 1 0 [cQ 1 k] 2 [a',s1] 2) 0 0) (aw 7 5 1 2 0::cV E 1 k)=_;rw[aV,qO hw.a _ _ _ _ _ _ _ _ _ _ _ _ (fM (by simp) ahU (by simp) (by omega) (by omega) (by omega) (by omega)) (by omega) (by omega) (by omega),Option.bind_some];rw[show ([cQ 1 k].filter (fun r=>!decide (r.number<2)))=[] from rfl];refine(d1 (w.bG Z (cP cn A' 0 1 0 [] 2 [a',s1] 2) 0 0) [a'] [] ⟨hXc _ _ _ _ _ _,fM (by simp) ahU (by simp) (by omega) (by omega) (by omega) (by omega),hE.tk.symm,hE.ss.symm,rfl,hw.R,rfl⟩ rfl (fun x hx=>by rw[List.mem_singleton.1 hx,c4.1];decide) (fun x hx=>(by cases hx)) (fun p hp=>(by cases hp)) (c3.acQ (by decide)) (by show A'.length≤30;have:=c3.len;omega)).trans ?_;rfl
 subst hZ
 have e:=jK (ask:=ask) (bp:=bp) (w:=w.bG (sP cn [aw 7 0 0 0 0] E.Ts (some (oP 0 1 1 1 [⟨0,1,n,q,false⟩])) false 1) (cP cn [aw 1 5 1 0 0,gV 1 k] 0 1 1 [cQ 1 k] 2 [s0,s1] 2) 1 1) (w1:=w.bG (sP cn (M++[aw 7 5 1 2 0]++cV E 1 k) E.Ts (some (oP 0 1 0 2 [⟨0,1,n,bH E n,false⟩,⟨1,1,k,bH E k,false⟩])) true 1) (cP cn [] 0 1 1 [cQ 1 k] 2 [s0,s1] 2) 1 0) (w2:=w.bG (sP cn [] E.Ts (some (oP 0 1 0 2 [⟨0,1,n,bH E n,false⟩,⟨1,1,k,bH E k,false⟩])) true 1) (cP cn (A'++B') 0 1 0 [] 2 [a',b'] 2) 0 0) (rB (by show 2≤60;omega) (fun p hp=>by
   rcases List.mem_cons.1 hp with rfl | hp
   ·exact rR
   ·rw[List.mem_singleton.1 hp];exact UJ)) a1 (rB (by show (M++[aw 7 5 1 2 0]++cV E 1 k).length≤60;rw[List.length_append,List.length_append];have:=d2.len;simp;omega) (fun p hp=>by
   have LN:p∈M++[aw 7 5 1 2 0]++cV E 1 k:=hp;rw[ZB] at LN
   rcases List.mem_cons.1 LN with rfl | LN
   ·exact h70
   ·rcases List.mem_cons.1 LN with rfl | LN
    ·exact h7 1 (by omega)
    ·rcases List.mem_append.1 LN with LN | LN
     ·exact(c2.p p LN).1
     ·rcases List.mem_cons.1 LN with rfl | LN
      ·exact h7 2 (by omega)
      ·exact(d2.p p LN).1)) a2
 refine e.trans (congrArg some (Prod.ext ?_ rfl));rfl
theorem Mi(hc:w.c.L=[])(hs:w.s.L=[]):w.jh ask bp=some (w,true):=by
 have a1:bd (WP.dq ask) w.iB w.c.L=some w.iB:=by rw[hc];rfl
 have hw:w.iB.ug=w:=by
  unfold WP.iB WP.ug;obtain⟨s,c,_⟩:=w;cases s;cases c
  simp_all
 have a2:bd (WP.cF bp) w.iB.ug w.iB.s.L=some w:=by rw[show w.iB.s.L=[] from hs,hw];rfl
 have:=jK (ask:=ask) (bp:=bp) (w:=w) (by rw[hc];rfl) a1 (by rw[show w.iB.s.L=[] from hs];rfl) a2;rw[this,hc,show w.iB.s.L=[] from hs];rfl
theorem Bu{s:dQ}(h:gx s):gx (s.finish 3):=by
 unfold dQ.finish
 split
 ·exact⟨h.nm,h.aX,h.vl,h.vg,by show 3≠1;decide⟩
 ·exact h
theorem Jl{s0:dQ}(hw:ZA w cn)(hT:yI Ts)(hk:k≤1000)(h0:gx s0)(h1:gx s1):
  (w.bG (sP cn [aw 7 0 0 0 0] Ts none false 1) (cP cn [aw 1 5 1 0 0,gV 1 k] 0 1 1 [cQ 1 k] 2 [s0,s1] 2) 1 1).jh ask bp=some (w.bG (sP cn [] Ts none false 1) (cP cn [aw 0 5 0 1 0] 1 0 0 [] 0 [s0.finish 3,s1.finish 3] 2) 0 0,false):=by
 have rR:pW (aw 1 5 1 0 0)=true:=bV (by decide) (by omega) (by omega) (by omega) (by omega);have h70:pW (aw 7 0 0 0 0)=true:=bV (by decide) (by omega) (by omega) (by omega) (by omega);have h13:pW (aw 13 5 1 0 0)=true:=bV (by decide) (by omega) (by omega) (by omega) (by omega);have UJ:=zi (r:=1) (k:=k) (by omega) (by omega);have hX:∀ (c:CP) (a b:Nat) (L:List aS),nA (w.bG (sP cn L Ts none false 1) c a b):=fun c a b L=>⟨hw.c.trans hw.s.symm,by show (sP cn L Ts none false 1).gl (w.lS:Int)=true;rw[hw.s];exact uY ..⟩
 have e1:(sP cn [aw 7 0 0 0 0] Ts none false 1).take ask w.W (aw 1 5 1 0 0)=sP cn [aw 7 0 0 0 0,aw 13 5 1 0 0] Ts none false 1:=by
  have e:(sP cn [aw 7 0 0 0 0] Ts none false 1).take ask w.W (aw 1 5 1 0 0)=sP cn (bo true [aw 7 0 0 0 0] (aw 13 5 1 0 0)) Ts none false 1:=rfl;rw[e,bU (fun hm=>by have:=(aS.mk.inj (List.mem_singleton.1 hm)).1;omega) (by simp)];rfl
 have e2:(sP cn [aw 7 0 0 0 0,aw 13 5 1 0 0] Ts none false 1).take ask w.W (gV 1 k)=sP cn [aw 7 0 0 0 0,aw 13 5 1 0 0] Ts none false 1:=by
  have e:(sP cn [aw 7 0 0 0 0,aw 13 5 1 0 0] Ts none false 1).take ask w.W (gV 1 k)=sP cn (bo true [aw 7 0 0 0 0,aw 13 5 1 0 0] (aw 13 5 1 0 0)) Ts none false 1:=rfl;rw[e,lU (by simp)]
 have a1:bd (WP.dq ask) (w.bG (sP cn [aw 7 0 0 0 0] Ts none false 1) (cP cn [] 0 1 1 [cQ 1 k] 2 [s0,s1] 2) 1 1) [aw 1 5 1 0 0,gV 1 k]=some (w.bG (sP cn [aw 7 0 0 0 0,aw 13 5 1 0 0] Ts none false 1) (cP cn [] 0 1 1 [cQ 1 k] 2 [s0,s1] 2) 1 0):=by
  rw[aV,fE (hX _ _ _ _) (o9 hT (by omega)) rR rfl (fun o ho=>(by cases ho))];rw[show (w.bG (sP cn [aw 7 0 0 0 0] Ts none false 1) (cP cn [] 0 1 1 [cQ 1 k] 2 [s0,s1] 2) 1 1).s.take ask (w.bG (sP cn [aw 7 0 0 0 0] Ts none false 1) (cP cn [] 0 1 1 [cQ 1 k] 2 [s0,s1] 2) 1 1).W (aw 1 5 1 0 0)=_ from e1,Option.bind_some];show bd (WP.dq ask) (w.bG (sP cn [aw 7 0 0 0 0,aw 13 5 1 0 0] Ts none false 1) (cP cn [] 0 1 1 [cQ 1 k] 2 [s0,s1] 2) 1 0) [gV 1 k]=_;rw[aV,fE (hX _ _ _ _) (o9 hT (by omega)) UJ rfl (fun o ho=>(by cases ho))];rw[show (w.bG (sP cn [aw 7 0 0 0 0,aw 13 5 1 0 0] Ts none false 1) (cP cn [] 0 1 1 [cQ 1 k] 2 [s0,s1] 2) 1 0).s.take ask (w.bG (sP cn [aw 7 0 0 0 0,aw 13 5 1 0 0] Ts none false 1) (cP cn [] 0 1 1 [cQ 1 k] 2 [s0,s1] 2) 1 0).W (gV 1 k)=_ from e2];rfl
 have X5:∀ x∈[s0,s1],gx x:=fun x hx=>by
  rcases List.mem_cons.1 hx with rfl | hx
  ·exact h0
  ·rw[List.mem_singleton.1 hx];exact h1
 have a2:bd (WP.cF bp) (w.bG (sP cn [] Ts none false 1) (cP cn [] 0 1 1 [cQ 1 k] 2 [s0,s1] 2) 1 0) [aw 7 0 0 0 0,aw 13 5 1 0 0]=some (w.bG (sP cn [] Ts none false 1) (cP cn [aw 0 5 0 1 0] 1 0 0 [] 0 [s0.finish 3,s1.finish 3] 2) 0 0):=by
  rw[aV,DU hw _ _ _ _ _ _ _ _ _ _ _ (fM (by simp) X5 (by simp) (by omega) (by omega) (by omega) (by omega)),Option.bind_some,aV,lV (w:=w.bG (sP cn [] Ts none false 1) (cP cn [] 0 1 0 [cQ 1 k] 2 [s0,s1] 2) 0 0) ⟨hw.c.trans hw.s.symm,by show (cP cn [] 0 1 0 [cQ 1 k] 2 [s0,s1] 2).gl (w.lG:Int)=true;rw[hw.c];exact qN ..⟩ (fM (by simp) X5 (by simp) (by omega) (by omega) (by omega) (by omega)) h13 rfl];have e:(cP cn [] 0 1 0 [cQ 1 k] 2 [s0,s1] 2).take bp w.R (aw 13 5 1 0 0)=cP cn (bo true [] (aw 0 5 0 1 0)) 1 0 0 [] 0 [s0.finish 3,s1.finish 3] 2:=rfl;rw[show (w.bG (sP cn [] Ts none false 1) (cP cn [] 0 1 0 [cQ 1 k] 2 [s0,s1] 2) 0 0).c.take bp (w.bG (sP cn [] Ts none false 1) (cP cn [] 0 1 0 [cQ 1 k] 2 [s0,s1] 2) 0 0).R (aw 13 5 1 0 0)=_ from e,bU (by simp) (by simp)];rfl
 exact jK (ask:=ask) (bp:=bp) (w:=w.bG (sP cn [aw 7 0 0 0 0] Ts none false 1) (cP cn [aw 1 5 1 0 0,gV 1 k] 0 1 1 [cQ 1 k] 2 [s0,s1] 2) 1 1) (w1:=w.bG (sP cn [aw 7 0 0 0 0,aw 13 5 1 0 0] Ts none false 1) (cP cn [] 0 1 1 [cQ 1 k] 2 [s0,s1] 2) 1 0) (rB (by show 2≤60;omega) (fun p hp=>by
   rcases List.mem_cons.1 hp with rfl | hp
   ·exact rR
   ·rw[List.mem_singleton.1 hp];exact UJ)) a1 (rB (by show 2≤60;omega) (fun p hp=>by
   rcases List.mem_cons.1 hp with rfl | hp
   ·exact h70
   ·rw[List.mem_singleton.1 hp];exact h13)) a2
theorem Qt(hw:ZA w cn)(hT:yI Ts)(hS:∀ s∈S,gx s)(rQ:S.length≤2)(h1:cW≤100)(h2:0<ss∧ss≤100)(h3:bg≤100)(h4:nx≤100)(h5:md≤100):
  (w.bG (sP cn [] Ts (some (oP cW ss 0 0 [])) true bg) (cP cn [aw 1 5 ss 0 0] cW ss 0 [] nx S md) 0 0).jh ask bp=some (w.bG (sP cn [] Ts (some (oP cW ss 0 0 [])) true bg) (cP cn [] cW ss 0 [] nx S md) 0 0,false):=by
 have rR:pW (aw 1 5 ss 0 0)=true:=bV (by decide) (by omega) (by omega) (by omega) (by omega);have UG:pW (aw 7 5 ss 0 0)=true:=bV (by decide) (by omega) (by omega) (by omega) (by omega)
 have e1:(sP cn [] Ts (some (oP cW ss 0 0 [])) true bg).take ask w.W (aw 1 5 ss 0 0)=sP cn [aw 7 5 ss 0 0] Ts (some (oP cW ss 0 0 [])) true bg:=by
  refine(wT (s:=sP cn [] Ts (some (oP cW ss 0 0 [])) true bg) (o:=oP cW ss 0 0 []) rfl rfl).trans ?_;rw[show (sP cn [] Ts (some (oP cW ss 0 0 [])) true bg).up=true from rfl,show (sP cn [] Ts (some (oP cW ss 0 0 [])) true bg).L=[] from rfl,bU (by simp) (by simp)];rfl
 have a1:bd (WP.dq ask) (w.bG (sP cn [] Ts (some (oP cW ss 0 0 [])) true bg) (cP cn [] cW ss 0 [] nx S md) 0 0) [aw 1 5 ss 0 0]=some (w.bG (sP cn [aw 7 5 ss 0 0] Ts (some (oP cW ss 0 0 [])) true bg) (cP cn [] cW ss 0 [] nx S md) 0 0):=by
  rw[aV,fE (w:=w.bG (sP cn [] Ts (some (oP cW ss 0 0 [])) true bg) (cP cn [] cW ss 0 [] nx S md) 0 0) ⟨hw.c.trans hw.s.symm,by show (sP cn [] Ts (some (oP cW ss 0 0 [])) true bg).gl (w.lS:Int)=true;rw[hw.s];exact uY ..⟩ (kN hT (by omega) (by omega) (by omega) (F:=[]) (fun f hf=>(by cases hf)) (by simp)) rR (by simp[IX,sP,oP,aw,WP.bG]) (fun o ho=>by cases ho;rfl)];rw[show (w.bG (sP cn [] Ts (some (oP cW ss 0 0 [])) true bg) (cP cn [] cW ss 0 [] nx S md) 0 0).s.take ask (w.bG (sP cn [] Ts (some (oP cW ss 0 0 [])) true bg) (cP cn [] cW ss 0 [] nx S md) 0 0).W (aw 1 5 ss 0 0)=_ from e1];rfl
 have a2:bd (WP.cF bp) (w.bG (sP cn [] Ts (some (oP cW ss 0 0 [])) true bg) (cP cn [] cW ss 0 [] nx S md) 0 0) [aw 7 5 ss 0 0]=some (w.bG (sP cn [] Ts (some (oP cW ss 0 0 [])) true bg) (cP cn [] cW ss 0 [] nx S md) 0 0):=by
  rw[aV,qO hw _ _ _ _ _ _ _ _ _ _ _ _ (fM (by simp) hS rQ (by omega) (by omega) (by omega) (by omega)) (by omega) (by omega) (by omega)];rfl
 exact jK (ask:=ask) (bp:=bp) (w:=w.bG (sP cn [] Ts (some (oP cW ss 0 0 [])) true bg) (cP cn [aw 1 5 ss 0 0] cW ss 0 [] nx S md) 0 0) (w1:=w.bG (sP cn [aw 7 5 ss 0 0] Ts (some (oP cW ss 0 0 [])) true bg) (cP cn [] cW ss 0 [] nx S md) 0 0) (og rR) a1 (og UG) a2
theorem Mj(hE:Md E bp){w:WP}{cn:Nat}(hw:UI E w cn)(s:dQ)(hs:s.aR=0)(hf:s.bD=0)(hg:s.aX=0)(hb:s.base=eN 1)(hn:s.name.size≤1000)(hv:s.ak=[]):
  WP.fD ask bp 51 (w.bG (sP cn [aw 7 0 0 0 0] E.Ts none false 0) (cP cn [aw 0 5 0 0 0] 0 0 1 [cQ 0 0] 1 [s] 1) 1 1)=some (w.bG (sP cn [] E.Ts (some (oP 0 1 0 1 (pF E 0 0).toList)) true 1) (cP cn [] 0 1 0 [] 1 [gU E 0 s] 1) 0 0):=by
 have jD:gx s:=⟨hn,by rw[hg];omega,by rw[hv];simp,by rw[hv];simp,by rw[hf];decide⟩
 have t1:=Bt (ask:=ask) (bp:=bp) (w:=w) (cn:=cn) (cW:=0) (bg:=0) (lh:=1) (a:=1) (b:=1) (A:=[cQ 0 0]) (nx:=1) (S:=[s]) (md:=1) (Ts:=E.Ts) hw.a hE.Ts (by omega) (by simp) (fun x hx=>by rw[List.mem_singleton.1 hx];exact jD) (by simp) (by omega) (by omega) (by omega) (by omega) [aw 7 0 0 0 0] (Or.inr rfl) (show bo true [aw 1 5 1 0 0] (gV 0 0)=[aw 1 5 1 0 0,gV 0 0] from bU (fun hm=>by have:=(aS.mk.inj (List.mem_singleton.1 hm)).1;omega) (by simp));obtain⟨T0,p0,t2⟩:=Mg (ask:=ask) hE hw s hs hf hg hb hn hv;have hX:Zy E (w.bG (sP cn [] E.Ts (some (oP 0 1 0 1 [])) true 1) (cP cn [] 0 1 0 [] 1 [] 1) 0 0) (oP 0 1 0 1 []):=⟨hw.a.c.trans hw.a.s.symm,by show (sP cn [] E.Ts (some (oP 0 1 0 1 [])) true 1).gl (w.lS:Int)=true;rw[hw.a.s];exact uY ..,by show (cP cn [] 0 1 0 [] 1 [] 1).gl (w.lG:Int)=true;rw[hw.a.c];exact qN ..,kN hE.Ts (by omega) (by omega) (by omega) (F:=[]) (fun f hf=>(by cases hf)) (by simp),fM (by simp) (fun x hx=>(by cases hx)) (by simp) (by omega) (by omega) (by omega) (by omega),rfl,rfl,rfl,hE.tk.symm,hE.ss.symm,hE.tk.symm,hE.ss.symm,hw.W,hw.R,rfl,fun p hp=>(by cases hp)⟩
 have tN:Jc 1 ⟨none,none,[]⟩:=⟨fun f hf=>(by cases hf),fun f hf=>(by cases hf),rA.nil 1⟩
 rw[show (51:Nat)=50+1 from rfl,fg t1];refine(fg (m:=49) t2).trans ?_;rw[Jf hE.ok hX 22 T0 ⟨none,none,[]⟩ _ ⟨none,none,[]⟩ p0 (dV.stop tN rfl) 49 (by omega)];unfold XX;simp only[Option.toList_some,Option.toList_none,List.append_nil];rfl
theorem Jm(hE:Md E bp){w:WP}{cn n k q:Nat}(hw:UI E w cn)(hn:n≤E.t.count)(hk:k≤E.t.count)(s0 s1:dQ)(h0:s0.aR=0∧s0.bD=0∧s0.aX=n∧s0.base=eN 1∧s0.name.size≤1000∧s0.ak=[])(h1:s1.aR=1∧s1.bD=0∧s1.aX=k∧s1.base=eN 1∧s1.name.size≤1000∧s1.ak=[])(hq:n≤q∧q≤1000):
  WP.fD ask bp 51 (w.bG (sP cn [aw 7 0 0 0 0] E.Ts (some (oP 0 1 1 1 [⟨0,1,n,q,false⟩])) false 1) (cP cn [aw 1 5 1 0 0,gV 1 k] 0 1 1 [cQ 1 k] 2 [s0,s1] 2) 1 1)=some (w.bG (sP cn [] E.Ts (some (oP 0 1 0 2 ((pF E 0 n).toList++(pF E 1 k).toList))) true 1) (cP cn [] 0 1 0 [] 2 [gU E n s0,gU E k s1] 2) 0 0):=by
 obtain⟨T0,T1,p0,p1,t1⟩:=Jk (ask:=ask) hE hw hn hk s0 s1 h0 h1 hq;have hX:Zy E (w.bG (sP cn [] E.Ts (some (oP 0 1 0 2 [])) true 1) (cP cn [] 0 1 0 [] 2 [] 2) 0 0) (oP 0 1 0 2 []):=⟨hw.a.c.trans hw.a.s.symm,by show (sP cn [] E.Ts (some (oP 0 1 0 2 [])) true 1).gl (w.lS:Int)=true;rw[hw.a.s];exact uY ..,by show (cP cn [] 0 1 0 [] 2 [] 2).gl (w.lG:Int)=true;rw[hw.a.c];exact qN ..,kN hE.Ts (by omega) (by omega) (by omega) (F:=[]) (fun f hf=>(by cases hf)) (by simp),fM (by simp) (fun x hx=>(by cases hx)) (by simp) (by omega) (by omega) (by omega) (by omega),rfl,rfl,rfl,hE.tk.symm,hE.ss.symm,hE.tk.symm,hE.ss.symm,hw.W,hw.R,rfl,fun p hp=>(by cases hp)⟩
 rw[show (51:Nat)=50+1 from rfl,fg t1];rw[Jf hE.ok hX 22 T0 T1 _ _ p0 p1 50 (by omega)];rfl
theorem Jn{s0:dQ}(hw:ZA w cn)(hT:yI Ts)(hk:k≤1000)(h0:gx s0)(h1:gx s1):
  WP.fD ask bp 51 (w.bG (sP cn [aw 7 0 0 0 0] Ts none false 1) (cP cn [aw 1 5 1 0 0,gV 1 k] 0 1 1 [cQ 1 k] 2 [s0,s1] 2) 1 1)=some (w.bG (sP cn [] Ts (some (oP 1 2 0 0 [])) true 2) (cP cn [] 1 2 0 [] 0 [s0.finish 3,s1.finish 3] 2) 0 0):=by
 have X5:∀ x∈[s0.finish 3,s1.finish 3],gx x:=fun x hx=>by
  rcases List.mem_cons.1 hx with rfl | hx
  ·exact Bu h0
  ·rw[List.mem_singleton.1 hx];exact Bu h1
 rw[show (51:Nat)=50+1 from rfl,fg (Jl hw hT hk h0 h1)];have t2:=Bt (ask:=ask) (bp:=bp) (w:=w) (cn:=cn) (cW:=1) (bg:=1) (lh:=0) (a:=0) (b:=0) (A:=[]) (nx:=0) (S:=[s0.finish 3,s1.finish 3]) (md:=2) (Ts:=Ts) hw hT (by omega) (by simp) X5 (by simp) (by omega) (by omega) (by omega) (by omega) [] (Or.inl rfl) rfl;refine(fg (m:=49) t2).trans ?_;refine(fg (m:=48) (Qt (cW:=1) (ss:=2) (bg:=2) hw hT X5 (by simp) (by omega) (by omega) (by omega) (by omega) (by omega))).trans ?_;exact o5 (m:=47) (Mi rfl rfl)
structure Vr(R:Nat)(t:jS)(l:List (List UInt8)):Prop where
 n:t.count=l.length
 k:t.dJ=l.drop (l.length-R)
theorem Vr.len{l:List (List UInt8)}(h:Vr R t l):t.dJ.length=min l.length R:=by
 rw[h.k,List.length_drop];omega
theorem Vr.add(hR:1≤R){t:jS}{l:List (List UInt8)}(h:Vr R t l)(d:List UInt8):Vr R (t.add R d) (l++[d]):=by
 have hl:=h.len;refine⟨by unfold jS.add;simp[h.n],?_⟩;unfold jS.add;simp only;rw[List.length_append,List.length_singleton]
 by_cases e:t.dJ.length+1≤R
 ·rw[if_pos e,h.k,show l.length-R=0 by omega,show l.length+1-R=0 by omega]
  simp
 ·rw[if_neg e,h.k,show l.length+1-R=(l.length-R)+1 by omega]
  rw[← List.drop_append_of_le_length (by omega),List.drop_drop]
theorem Vr.at{l:List (List UInt8)}(h:Vr R t l){i:Nat}(h1:t.first≤i)(h2:i≤t.count){d:List UInt8}(hd:l[i-1]? = some d):t.dJ[i-t.first]? = some d:=by
 have hl:=h.len;have hn:=h.n;obtain⟨F,hF⟩:∃ F,t.first=F:=⟨_,rfl⟩
 have hF2:F=l.length-R+1:=by rw[← hF];unfold jS.first;rw[hl,hn];omega
 rw[hF] at h1 ⊢;rw[h.k,List.getElem?_drop,← hd]
 congr 1
 omega
theorem Vr.Bv{l:List (List UInt8)}(h:Vr R t l):t.first=l.length-R+1:=by
 unfold jS.first;rw[h.len,h.n];omega
abbrev tp0:jS:=⟨cr 0,eN 0,0,[],false⟩
abbrev tp2:jS:=⟨cr 2,eN 2,0,[],false⟩
abbrev lD(t:jS):List jS:=[tp0,t,tp2]
structure T1(R:Nat)(t:jS)(l:List (List UInt8)):Prop where
 i:Vr R t l
 nm:t.name=cr 1
 bs:t.base=eN 1
theorem NO(h:t.name=cr 1)(s:SP)(hs:s.au=lD t):s.dZ (cr 1)=some 1:=by
 unfold SP.dZ;rw[hs];have e:((cr 0).toList==(cr 1).toList)=false:=by rw[ByteArray.toList_eq,ByteArray.toList_eq];rfl
 simp[List.findIdx?_cons,h,e]
theorem T1.add(hR:1≤R){t:jS}{l:List (List UInt8)}(h:T1 R t l)(d:List UInt8):T1 R (t.add R d) (l++[d]):=⟨h.i.add hR d,h.nm,h.bs⟩
theorem T1.bD{l:List (List UInt8)}(h:T1 R t l):T1 R { t with bD:=true } l:=⟨⟨h.i.n,h.i.k⟩,h.nm,h.bs⟩
theorem T1.ts{l:List (List UInt8)}(h:T1 R t l)(hl:l.length≤1000):yI (lD t):=by
 refine⟨fun x hx=>?_,by show 3≤400;omega⟩;have h1:=h.i.len;have h2:=h.i.n
 rcases List.mem_cons.1 hx with rfl | hx
 ·exact⟨Nat.le_refl _,Nat.zero_le _⟩
 ·rcases List.mem_cons.1 hx with rfl | hx
  ·exact⟨by omega,by omega⟩
  ·rw[List.mem_singleton.1 hx]
   exact⟨Nat.le_refl _,Nat.zero_le _⟩
def wP(W R cn:Nat)(s:SP)(c:CP)(v1:List ByteArray)(d1:Bool)(X:List gp)(a b:Nat)(ca:Bool):WP:=⟨s,c,W,23,R,cn,cn,cn,[],[],[],v1,[],false,d1,false,X,[],0,a,b,ca,false⟩
structure Jo(W R:Nat):Prop where
 W:1≤W∧W≤8
 R:1≤R∧R≤16
theorem nE(h:Jo W R)(hv:v1.length≤100)(hX:X.length≤2)(hx:∀ x∈X,x.aG<3∧x.start≤100∧x.aE≤100):JS (wP W R cn s c v1 d1 X a b ca):=by
 refine⟨by show X.length≤_;omega,fun t ht=>?_,fun x BN=>?_,h.W.2,by show R≤1000;have:=h.R;omega⟩
 ·match t,ht with
  | 0,_=>exact Nat.zero_le _
  | 1,_=>show v1.length≤90000;omega
  | 2,_=>exact Nat.zero_le _
 ·have:=hx x BN
  exact⟨this.1,by omega,by omega⟩
theorem NP(hs:s.au=lD t)(hn:t.name=cr 1)(hb:t.base=eN 1)(hf:t.bD=false):Qi s=true:=by
 unfold Qi;rw[NO hn s hs,hs];show (decide ((some 1:Option Nat)=some 1)&&(!t.bD&&decide (t.base=eN 1)))=true;rw[hf];simp[hb]
theorem NQ{l:List (List UInt8)}(hC:Jo W R)(hs:zb s)(ht:s.au=lD t)(hT:T1 R t l)(hf:t.bD=false)(hl:l.length=v1.length)(hv:v1.length≤60)(hX:X.length≤2)(hx:∀ x∈X,x.aG<3∧x.start≤100∧x.aE≤100)(V:ByteArray)(d:List UInt8):
  (wP W R cn s c v1 false X a b ca).pS V d=some (wP W R cn (s.iS W R 1 d) c (v1++[V]) false (X.map (gp.jc 1 (v1.length+1) R)) a b ca):=by
 have h1:=hT.i.len;have h2:=hT.i.n;have hR:=hC.R;unfold WP.pS;rw[if_pos]
 ·rfl
 ·unfold acK
  simp only[Bool.and_eq_true,decide_eq_true_eq,List.all_eq_true,Bool.not_eq_true'];refine⟨n8.2 hs,iQ.2 (nE hC (by omega) hX hx),rfl,rfl,NP ht hT.nm hT.bs hf,fun x BN=>?_,hR.1,by show v1.length≤_;omega⟩;have anO:x∈lD t:=by rw[← ht];exact BN
  rcases List.mem_cons.1 anO with rfl | JN
  ·exact⟨Nat.zero_le _,by show 0<_;omega⟩
  ·rcases List.mem_cons.1 JN with rfl | JN
   ·exact⟨by show x.dJ.length≤R;omega,by omega⟩
   ·rw[List.mem_singleton.1 JN]
    exact⟨Nat.zero_le _,by show 0<_;omega⟩
theorem Jp:∃ JV,[(⟨1,0,g,0,lt⟩:gp)].map (gp.jc 1 N R)=[⟨1,0,g,0,JV⟩]:=by
 rw[List.map_singleton];unfold gp.jc
 split
 ·exact⟨true,rfl⟩
 ·exact⟨lt,rfl⟩
theorem Bw(hC:Jo W R){c:CP}{a b:Nat}{ca:Bool}(s0:SP)(fF:s0.cur=false∨s0.aY=none)(JF:∀ Ts,yI Ts→zb { s0 with au:=Ts }):∀ (ps:List (ByteArray × List UInt8)) (t:jS) (l:List (List UInt8)) (v1:List ByteArray) (X:List gp),T1 R t l→t.bD=false→l.length=v1.length→v1.length+ps.length≤60→(X=[]∨∃ g lt,g≤100∧X=[⟨1,0,g,0,lt⟩]) →
  ∃ t' X',T1 R t' (l++ps.map (fun p=>p.2))∧t'.bD=false∧(X=[]→X'=[])∧(∀ g lt,X=[⟨1,0,g,0,lt⟩]→∃ JV,X'=[⟨1,0,g,0,JV⟩]) ∧
   bd (fun x p=>WP.pS x p.1 p.2) (wP W R cn { s0 with au:=lD t } c v1 false X a b ca) ps=some (wP W R cn { s0 with au:=lD t' } c (v1++ps.map (fun p=>p.1)) false X' a b ca):=by
 intro ps
 induction ps with
 | nil=>
  intro t l v1 X hT hf hl hv hX;exact⟨t,X,by simpa using hT,hf,fun h=>h,fun g lt h=>⟨lt,h⟩,by simp[eP]⟩
 | cons p ps ih=>
  intro t l v1 X hT hf hl hv hX;rw[List.length_cons] at hv;have hS:=JF _ (hT.ts (by omega))
  have hXl:X.length≤2∧∀ x∈X,x.aG<3∧x.start≤100∧x.aE≤100:=by
   rcases hX with rfl | ⟨g,lt,hg,rfl⟩
   ·exact⟨by simp,fun x hx=>(by cases hx)⟩
   ·exact⟨by simp,fun x hx=>by rw[List.mem_singleton.1 hx];exact⟨by show 1<3;omega,by show 0≤100;omega,hg⟩⟩
  have key:=NQ (cn:=cn) (c:=c) (a:=a) (b:=b) (ca:=ca) hC hS rfl hT hf hl (by omega) hXl.1 hXl.2 p.1 p.2
  have e:({ s0 with au:=lD t }:SP).iS W R 1 p.2 = { s0 with au:=lD (t.add R p.2) }:=by
   unfold SP.iS SP.iR
   rcases fF with h | h
   ·simp only[h]
    rfl
   ·simp only[h]
    rcases Bool.eq_false_or_eq_true s0.cur with e | e<;>rw[e]<;>rfl
  rw[e] at key;rw[aV,key,Option.bind_some]
  obtain⟨X2,hX2,hXe⟩:∃ X2,X.map (gp.jc 1 (v1.length+1) R)=X2∧((X=[]∧X2=[])∨∃ g lt JV,g≤100∧X=[⟨1,0,g,0,lt⟩]∧X2=[⟨1,0,g,0,JV⟩]):=by
   rcases hX with rfl | ⟨g,lt,hg,rfl⟩
   ·exact⟨_,rfl,Or.inl ⟨rfl,rfl⟩⟩
   ·obtain⟨JV,e⟩:=Jp (R:=R) (N:=v1.length+1) (g:=g) (lt:=lt)
    exact⟨_,e,Or.inr ⟨g,lt,JV,hg,rfl,rfl⟩⟩
  rw[hX2]
  obtain⟨t',X',h1,h2,h3,h4,h5⟩:=ih (t.add R p.2) (l++[p.2]) (v1++[p.1]) X2 (hT.add hC.R.1 p.2) hf (by simp[hl]) (by simp;omega) (by
   rcases hXe with⟨_,e⟩ | ⟨g,lt,JV,hg,_,e⟩
   ·exact Or.inl e
   ·exact Or.inr ⟨g,JV,hg,e⟩)
  refine⟨t',X',by simpa using h1,h2,fun hX0=>?_,fun g lt hX1=>?_,by simpa using h5⟩
  ·rcases hXe with⟨_,e⟩ | ⟨g,lt,JV,_,e,_⟩
   ·exact h3 e
   ·rw[hX0] at e;cases e
  ·rcases hXe with⟨e,_⟩ | ⟨g',lt0,JV,_,e,e2⟩
   ·rw[hX1] at e;cases e
   ·rw[hX1] at e
    cases e;exact h4 g JV e2
def Mk(bp:vh)(ps:List (ByteArray × List UInt8)):Prop:=∀ p∈ps,bp (eN 1) p.2=some p.1∧p.2.length≤79
def fp(W R:Nat)(t:jS)(ps:List (ByteArray × List UInt8)):dH:=⟨5,1,W,R,lD t,t,eN 1,fun i=>((ps.map (fun p=>p.1))[i-1]?).getD ⟨#[]⟩⟩
theorem NR{ps:List (ByteArray × List UInt8)}(hC:Jo W R)(hT:T1 R t (ps.map (fun p=>p.2)))(hl:ps.length≤60)(hP:Mk bp ps):Md (fp W R t ps) bp:=by
 have h1:=hT.i.len;have h2:=hT.i.n;rw[List.length_map] at h1 h2;have hR:=hC.R;refine⟨⟨by show 5<1000000;omega,⟨by show 0<1;omega,by show 1<1000000;omega⟩,hC.W,rfl,by show t.count≤100;omega,⟨by show t.dJ.length≤16;omega,by show t.dJ.length≤R;omega,by show t.dJ.length≤t.count;omega⟩,fun i h3 h4=>?_⟩,rfl,rfl,rfl,fun s hs=>NO hT.nm s hs,hT.ts (by rw[List.length_map];omega),by show R≤1000;omega⟩;have h3':t.first≤i:=h3;have h4':i≤t.count:=h4
 have hi:i-1<ps.length:=by
  have:=hT.i.Bv;omega
 obtain⟨p,hp⟩:∃ p,ps[i-1]? = some p:=⟨_,List.getElem?_eq_getElem hi⟩
 have hk:=hT.i.at h3' h4' (d:=p.2) (by rw[List.getElem?_map,hp];rfl)
 have hd:(eJ (fp W R t ps).tk (fp W R t ps).ss (fp W R t ps).t ⟨0,0,0,0,false⟩ i).data=⟨p.2.toArray⟩:=by
  show (⟨((t.dJ[i-t.first]?).getD []).toArray⟩:ByteArray)=_;rw[hk];rfl
 have hv:(fp W R t ps).val i=p.1:=by
  show ((ps.map (fun p=>p.1))[i-1]?).getD ⟨#[]⟩=_;rw[List.getElem?_map,hp];rfl
 have:=hP p (List.mem_of_getElem? hp);rw[hd,hv];refine⟨?_,?_⟩
 ·rw[ByteArray.toList_eq]
  exact this.1
 ·show p.2.toArray.size≤79
  rw[List.size_toArray];exact this.2
theorem UK{ps:List (ByteArray × List UInt8)}{j:Nat}{v:ByteArray}(hb:b≤ps.length)(h:((dh a b).map (fp W R t ps).val)[j]? = some v):(ps.map (fun p=>p.1))[a+j]? = some v:=by
 have hj:j<b-a:=by
  have:=(List.getElem?_eq_some_iff.1 h).1;rwa [List.length_map,fV] at this
 have hu:(dh a b)[j]? = some (a+1+j):=by
  unfold dh;rw[List.getElem?_range' hj];simp
 rw[List.getElem?_map,hu] at h;have h':((ps.map (fun p=>p.1))[a+1+j-1]?).getD ⟨#[]⟩=v:=Option.some.inj h;rw[show a+1+j-1=a+j by omega] at h';have hl:a+j<(ps.map (fun p=>p.1)).length:=by rw[List.length_map];omega
 rw[List.getElem?_eq_getElem hl] at h' ⊢;exact congrArg some h'
theorem FE(d:List UInt8):∃ L' q',q≤q'∧q'≤max q (t.count+1)∧(sP cn L (lD t) (some (oP 0 1 0 1 [⟨0,1,n,q,false⟩])) true 1).iS W R 1 d=sP cn L' (lD (t.add R d)) (some (oP 0 1 0 1 [⟨0,1,n,q',false⟩])) true 1:=by
 obtain⟨b1,b2,b3,b4,b5,b6⟩:=AY true W 5 1 (t.add R d) ⟨0,1,n,q,false⟩ L;have e:(sP cn L (lD t) (some (oP 0 1 0 1 [⟨0,1,n,q,false⟩])) true 1).iS W R 1 d=sP cn (cw true W 5 1 (t.add R d) ⟨0,1,n,q,false⟩ L).2 (lD (t.add R d)) (some (oP 0 1 0 1 [(cw true W 5 1 (t.add R d) ⟨0,1,n,q,false⟩ L).1])) true 1:=rfl;obtain⟨P,hP⟩:∃ P,cw true W 5 1 (t.add R d) ⟨0,1,n,q,false⟩ L=P:=⟨_,rfl⟩
 rw[hP] at b1 b2 b3 b4 b5 b6 e;obtain⟨⟨c1,c2,c3,c4,c5⟩,L'⟩:=P;cases b1;cases b2;cases b3;cases b4;exact⟨L',c4,b5,b6,e⟩
theorem Jq:∃ L' q',q≤q'∧q'≤max q t.count∧(sP cn L (lD t) (some (oP 0 1 0 1 [⟨0,1,n,q,false⟩])) true 1).finish W 1=sP cn L' (lD { t with bD:=true }) (some (oP 0 1 0 1 [⟨0,1,n,q',false⟩])) true 1:=by
 obtain⟨b1,b2,b3,b4,b5,b6⟩:=AY true W 5 1 { t with bD:=true } ⟨0,1,n,q,false⟩ L;have e:(sP cn L (lD t) (some (oP 0 1 0 1 [⟨0,1,n,q,false⟩])) true 1).finish W 1=sP cn (cw true W 5 1 { t with bD:=true } ⟨0,1,n,q,false⟩ L).2 (lD { t with bD:=true }) (some (oP 0 1 0 1 [(cw true W 5 1 { t with bD:=true } ⟨0,1,n,q,false⟩ L).1])) true 1:=rfl;obtain⟨P,hP⟩:∃ P,cw true W 5 1 { t with bD:=true } ⟨0,1,n,q,false⟩ L=P:=⟨_,rfl⟩
 rw[hP] at b1 b2 b3 b4 b5 b6 e;obtain⟨⟨c1,c2,c3,c4,c5⟩,L'⟩:=P;cases b1;cases b2;cases b3;cases b4;exact⟨L',c4,b5,b6,e⟩
theorem FG{l:List (List UInt8)}(hT:T1 R t l)(hl:l.length≤100)(hn:n≤q)(hq:q≤200):zb (sP cn L (lD t) (some (oP 0 1 0 1 [⟨0,1,n,q,false⟩])) true 1) :=
 kN (hT.ts (by omega)) (by omega) (by omega) (by omega) (F:=[⟨0,1,n,q,false⟩]) (fun f hf=>by rw[List.mem_singleton.1 hf];exact⟨hn,by show q≤1000;omega,by show 1<3;omega⟩) (by simp)
theorem Qu(hC:Jo W R){c:CP}(hg:g≤100):∀ (ps:List (ByteArray × List UInt8)) (t:jS) (l:List (List UInt8)) (v1:List ByteArray) (L:List aS) (q:Nat) (lt:Bool),T1 R t l→t.bD=false→l.length=v1.length→v1.length+ps.length≤60→n≤q→q≤60 →
  ∃ t' L' q' JV,T1 R t' (l++ps.map (fun p=>p.2))∧t'.bD=false∧n≤q'∧q'≤60 ∧
   bd (fun x p=>WP.pS x p.1 p.2) (wP W R cn (sP cn L (lD t) (some (oP 0 1 0 1 [⟨0,1,n,q,false⟩])) true 1) c v1 false [⟨1,0,g,0,lt⟩] 0 0 false) ps=some (wP W R cn (sP cn L' (lD t') (some (oP 0 1 0 1 [⟨0,1,n,q',false⟩])) true 1) c (v1++ps.map (fun p=>p.1)) false [⟨1,0,g,0,JV⟩] 0 0 false):=by
 intro ps
 induction ps with
 | nil=>
  intro t l v1 L q lt hT hf hl hv hn hq;exact⟨t,L,q,lt,by simpa using hT,hf,hn,hq,by simp[eP]⟩
 | cons p ps ih=>
  intro t l v1 L q lt hT hf hl hv hn hq;rw[List.length_cons] at hv;have key:=NQ (cn:=cn) (c:=c) (a:=0) (b:=0) (ca:=false) (X:=[⟨1,0,g,0,lt⟩]) hC (FG (cn:=cn) (L:=L) hT (by omega) hn (by omega)) rfl hT hf hl (by omega) (by simp) (fun x hx=>by rw[List.mem_singleton.1 hx];exact⟨by show 1<3;omega,by show 0≤100;omega,hg⟩) p.1 p.2;obtain⟨L2,q2,h1,h2,e⟩:=FE (W:=W) (R:=R) (cn:=cn) (n:=n) (q:=q) (L:=L) (t:=t) p.2;obtain⟨lt2,e2⟩:=Jp (R:=R) (N:=v1.length+1) (g:=g) (lt:=lt);rw[e,e2] at key;have hc:=hT.i.n;obtain⟨t',L',q',JV,k1,k2,k3,k4,k5⟩:=ih (t.add R p.2) (l++[p.2]) (v1++[p.1]) L2 q2 lt2 (hT.add hC.R.1 p.2) hf (by simp[hl]) (by simp;omega) (by omega) (by omega);refine⟨t',L',q',JV,by simpa using k1,k2,k3,k4,?_⟩;rw[aV,key,Option.bind_some];simpa using k5
theorem FH{w1:WP}{o:pH}(h1:JS w)(h2:w.aU=[])(h3:w.Q5=some w1)(h4:w1.iJ ask bp=some w2)(h5:yH w2 o)(h6:w2.I1=true):w.mW ask bp=some w2:=by
 unfold WP.mW;rw[if_pos ⟨iQ.2 h1,by rw[h2];rfl⟩,h3,Option.bind_some];obtain⟨r,hr⟩:∃ r,w.lP=r+1:=⟨w.lP-1,by unfold WP.lP;omega⟩
 rw[hr,List.range_succ_eq_map,aV,h4,Option.bind_some,h5.acR,Option.bind_some,if_pos ⟨iQ.2 h5.vo,h6,by rw[h5.wt.2];rfl⟩]
theorem Bx{w3:WP}(h1:tC w.c∧zb w.s∧w.W≤1000∧tkB w=true)(h2:WP.fD ask bp 51 w.lj.lp=some w2)(h3:w2.bh=0∧w2.bj=0)(h4:w2.kD=some w3)(h5:w3.s.waits=[]∧w3.aU=[]):w.iJ ask bp=some w3:=by
 unfold WP.iJ;rw[if_pos (A9.2 h1),h2,Option.bind_some,if_pos h3,h4,Option.bind_some,if_pos ⟨by rw[h5.1];rfl,by rw[h5.2];rfl⟩]
theorem By:(sP cn [] Ts none false bg).hJ W 23=sP cn [aw 7 0 0 0 0] Ts none false bg:=by
 have e:(sP cn [] Ts none false bg).hJ W 23=sP cn (bo true [] (aw 7 0 0 0 0)) Ts none false bg:=rfl;rw[e,bU (by simp) (by simp)];rfl
theorem Ml{F:List cY}:(sP cn [] Ts (some (oP 0 1 0 1 F)) false bg).hJ W 23=sP cn [aw 7 0 0 0 0] Ts (some (oP 0 1 1 1 F)) false bg:=by
 have e:(sP cn [] Ts (some (oP 0 1 0 1 F)) false bg).hJ W 23=sP cn (bo true [] (aw 7 0 0 0 0)) Ts (some (oP 0 1 1 1 F)) false bg:=rfl;rw[e,bU (by simp) (by simp)];rfl
theorem Jr{A:List aS}:(cP cn [aw 0 5 0 cW 0] cW 0 0 A nx S md).hJ 23=cP cn [aw 0 5 0 cW 0] cW 0 1 A nx S md:=by
 have e:(cP cn [aw 0 5 0 cW 0] cW 0 0 A nx S md).hJ 23=cP cn (bo true [aw 0 5 0 cW 0] (aw 0 5 0 cW 0)) cW 0 1 A nx S md:=rfl;rw[e,lU (by simp)]
theorem Js:(cP cn [aw 1 5 1 0 0,gV 1 k] 0 1 0 [cQ 1 k] 2 S 2).hJ 23=cP cn [aw 1 5 1 0 0,gV 1 k] 0 1 1 [cQ 1 k] 2 S 2:=by
 have e:(cP cn [aw 1 5 1 0 0,gV 1 k] 0 1 0 [cQ 1 k] 2 S 2).hJ 23=cP cn (bo true (bo true [aw 1 5 1 0 0,gV 1 k] (aw 1 5 1 0 0)) (gV 1 k)) 0 1 1 [cQ 1 k] 2 S 2:=rfl;rw[e,lU (p:=aw 1 5 1 0 0) (by simp),lU (by simp)]
theorem Bz{c':CP}(hs:s.hJ W 23=s')(hc:c.hJ 23=c'):(wP W R cn s c v1 d1 X 0 0 ca).lj.lp=wP W R cn s' c' v1 d1 X 1 1 ca:=by
 have e:(wP W R cn s c v1 d1 X 0 0 ca).lj.lp=wP W R cn (s.hJ W 23) (c.hJ 23) v1 d1 X 1 1 ((ca||false)||false):=rfl;rw[e,hs,hc];simp
theorem ahV(hW:E.W=W)(hR:E.R=R):UI E (wP W R cn s c v1 d1 X a b ca) cn:=⟨⟨rfl,rfl⟩,hW.symm,hR.symm⟩
abbrev mX(n:Nat)(vs:List ByteArray)(f:Nat):dQ:=⟨0,0,cr 1,eN 1,0,n,vs,f⟩
abbrev Jt(k n:Nat)(vs:List ByteArray)(f:Nat):dQ:=⟨1,1,cr 1,eN 1,k,n,vs,f⟩
theorem pG{s:Nat}{f:Nat}(hn:n≤100)(hv:vs.length≤n)(hf:f≠1):gx ⟨a,b,cr 1,eN 1,s,n,vs,f⟩:=⟨by show (cr 1).size≤1000;decide,by show n≤_;omega,by show vs.length≤_;omega,hv,hf⟩
theorem DV{x0 x1:gp}{a b:dQ}(hC:tC w.c)(hV:JS w)(hm:w.c.bQ=2)(hX:w.ae=[x0,x1])(hS:w.c.ae=[a,b])(ha:a.number=0)(hb:b.number=1)(h0:x0.aG=1∧x0.ended=0∧a.name=cr 1∧a.aX=x0.start+x0.aE+a.ak.length∧x0.aE+a.ak.length≤100∧a.ak.length≤(w.cy 1).length∧∀ j v,a.ak[j]? = some v→(w.cy 1)[x0.start+x0.aE+j]? = some v)(h1:x1.aG=1∧x1.ended=0∧b.name=cr 1∧b.aX=x1.start+x1.aE+b.ak.length∧x1.aE+b.ak.length≤100∧b.ak.length≤(w.cy 1).length∧∀ j v,b.ak[j]? = some v→(w.cy 1)[x1.start+x1.aE+j]? = some v)
  (e0:(a.bD=2∧w.Fu 1=true∧a.aX=(w.cy 1).length)∨(a.bD=4∧a.aX=x0.start∧x0.ni=true)∨(a.bD=3∧(w.dN=true∨w.eh 1 (a.aX+1)=false))) (e1:(b.bD=2∧w.Fu 1=true∧b.aX=(w.cy 1).length)∨(b.bD=4∧b.aX=x1.start∧x1.ni=true)∨(b.bD=3∧(w.dN=true∨w.eh 1 (b.aX+1)=false))) :
  w.kD=some (w.zh [] [{ x0 with aE:=x0.aE+a.ak.length,ended:=a.bD },{ x1 with aE:=x1.aE+b.ak.length,ended:=b.bD }]):=by
 obtain⟨p1,p2,p3,p4,p5,p6,p7⟩:=h0;obtain⟨q1,q2,q3,q4,q5,q6,q7⟩:=h1;have fa:a.bD≠0:=by omega
 have fb:b.bD≠0:=by omega
 unfold WP.kD;rw[hX,show List.range [x0,x1].length=[0,1] from rfl,aV];have k0:=tI (w:=w) (i:=0) (y:=0) (x:=x0) (s:=a) ⟨hC,hV,by omega⟩ (by rw[hX];rfl) (by rw[hS];simp[List.findIdx?_cons,nD,ha]) (by rw[hS];rfl) p2 (by rw[p1];exact p3) p4 (by rw[p1];exact p7) (by omega) (by rw[p1];exact p6) (by rw[p1];exact Or.inr e0) (by rw[hS];simp[List.findIdx?_cons,nD,hb]);rw[if_neg fa,hS,hX] at k0;rw[k0,Option.bind_some,aV]
 have Ui:JS (w.zh [b] [{ x0 with aE:=x0.aE+a.ak.length,ended:=a.bD },x1]):=by
  have Sw:=hV.st x0 (by rw[hX];simp);have JM:=hV.st x1 (by rw[hX];simp);refine⟨by show 2≤90000;omega,hV.vl,fun x hx=>?_,hV.W,hV.R⟩
  rcases List.mem_cons.1 hx with rfl | hx
  ·exact⟨Sw.1,Sw.2.1,by show x0.aE+a.ak.length≤_;omega⟩
  ·rw[List.mem_singleton.1 hx];exact JM
 have YV:tC (w.zh [b] [{ x0 with aE:=x0.aE+a.ak.length,ended:=a.bD },x1]).c:=⟨⟨hC.sm.a,by show 1≤1000;omega,hC.sm.ca,hC.sm.at_,hC.sm.si,hC.sm.n⟩,fun s hs=>by rw[List.mem_singleton.1 hs];exact hC.st b (by rw[hS];simp),by show 1≤400;omega,hC.md⟩
 have k1:=tI (w:=w.zh [b] [{ x0 with aE:=x0.aE+a.ak.length,ended:=a.bD },x1]) (i:=1) (y:=0) (x:=x1) (s:=b) ⟨YV,Ui,by show 1<w.c.bQ;omega⟩ rfl (by show [b].findIdx? (nD 1)=some 0;simp[List.findIdx?_cons,nD,hb]) rfl q2 (by rw[q1];exact q3) q4 (by rw[q1];exact q7) (by omega) (by rw[q1];exact q6) (by rw[q1];exact Or.inr e1) rfl;rw[if_neg fb] at k1;have k1':WP.cD ((w.zh ([a,b].eraseIdx 0) ([x0,x1].set 0 { x0 with aE:=x0.aE+a.ak.length,ended:=a.bD })).iH 1) (w.zh ([a,b].eraseIdx 0) ([x0,x1].set 0 { x0 with aE:=x0.aE+a.ak.length,ended:=a.bD })) 1=_:=k1;rw[k1',Option.bind_some,eP];rfl
theorem Ju{nx2:Nat}(hC:Jo W R){Ts:List jS}(hT:yI Ts){v1:List ByteArray}(hv:v1.length≤100){d1:Bool}{x0 x1:gp}(hx:∀ x∈[x0,x1],x.aG<3∧x.start≤100∧x.aE≤100){ca:Bool}(h1:cW≤100)(h2:0<ss∧ss≤100)(h3:bg≤100)(h4:nx≤100)(h5:nx2≤100):yH (wP W R cn (sP cn [] Ts (some (oP cW ss 0 nx [])) true bg) (cP cn [] cW ss 0 [] nx2 [] 2) v1 d1 [x0,x1] 0 0 ca) (oP cW ss 0 nx []) :=
 ⟨rfl,uY ..,qN ..,kN hT (by omega) (by omega) (by omega) (F:=[]) (fun f hf=>(by cases hf)) (by simp),fM (by simp) (fun s hs=>(by cases hs)) (by simp) (by omega) (by omega) (by omega) (by omega),nE hC hv (by simp) hx,rfl,rfl,rfl,rfl,⟨rfl,rfl⟩,rfl,fun f hf=>(by cases hf),⟨rfl,by show 5<1000000;omega⟩,⟨rfl,h2.1,by show ss<1000000;omega⟩,by show nx<1000000;omega,rfl,by show 2≤23;omega,⟨rfl,rfl⟩,⟨rfl,rfl⟩,fun i x hix=>⟨by have:=(List.getElem?_eq_some_iff.1 hix).1;exact this,Or.inl rfl⟩⟩
abbrev c0:CP:=⟨0,false,false,[],5,0,0,0,[],0,[],0,[],0⟩
abbrev c0s:CP:=⟨0,false,false,[],5,0,0,0,[cQ 0 0],1,[mX 0 [] 0],1,[],0⟩
abbrev s0(Ts:List jS):SP:=⟨0,false,false,[],Ts,none,false,0,[],0,[]⟩
theorem ahW(Ts:List jS)(h:yI Ts):zb { s0 [] with au:=Ts } :=
 ⟨⟨⟨fun t ht=>⟨(h.t t ht).1,by have:=(h.t t ht).2;omega⟩,fun o ho=>(by cases ho),fun o ho=>(by cases ho)⟩,fun o ho=>(by cases ho),⟨Nat.zero_le _,Nat.zero_le _,Nat.zero_le _⟩,⟨List.nodup_nil,fun x hx=>(by cases hx)⟩⟩,h.l,fun o ho=>(by cases ho)⟩
theorem acU:tC c0s:=⟨⟨by show 1≤1000;omega,by show 1≤1000;omega,rfl,Nat.zero_le _,Nat.zero_le _,by show 1≤_;omega⟩,fun s hs=>by rw[List.mem_singleton.1 hs];exact pG (by omega) (by simp) (by decide),by show 1≤400;omega,by show 1≤_;omega⟩
theorem Mm{ps:List (ByteArray × List UInt8)}(hC:Jo W R)(hT:T1 R t (ps.map (fun p=>p.2)))(hf:t.bD=false)(hl:ps.length≤R)(hP:Mk bp ps):
  (wP W R 0 (s0 (lD t)) c0s (ps.map (fun p=>p.1)) false [⟨1,0,0,0,lt⟩] 0 0 false).mW ask bp=some (wP W R 1 (sP 1 [] (lD t) (some (oP 0 1 0 1 [⟨0,1,ps.length,ps.length,false⟩])) true 1) (cP 1 [] 0 1 0 [] 1 [mX ps.length [] 0] 1) (ps.map (fun p=>p.1)) false [⟨1,0,ps.length,0,lt⟩] 0 0 false):=by
 have hR:=hC.R;have hE:=NR (bp:=bp) hC hT (by omega) hP;obtain⟨n,hn⟩:∃ n,ps.length=n:=⟨_,rfl⟩
 have hN:t.count=n:=by rw[hT.i.n,List.length_map,hn]
 have JK:t.first=1:=by rw[hT.i.Bv,List.length_map,hn];omega
 have Vs:=hT.ts (by rw[List.length_map];omega);rw[hn] at hl ⊢
 have e1:pF (fp W R t ps) 0 0=some ⟨0,1,n,n,false⟩:=by
  unfold pF;rw[if_neg (by show ¬ (0+1<t.first∨t.bD=true);rw[JK,hf];simp)];show some (⟨0,1,t.count,t.count,false⟩:cY)=_;rw[hN]
 have e2:gU (fp W R t ps) 0 (mX 0 [] 0)=mX n ((dh 0 n).map (fp W R t ps).val) 0:=by
  unfold gU;rw[if_neg (by show ¬ 0+1<t.first;omega)];unfold oe;show (⟨0,0,cr 1,eN 1,0,t.count,[]++(dh 0 t.count).map _,if t.bD=true then 2 else 0⟩:dQ)=_;rw[hN,hf];rfl
 have up:(wP W R 0 (s0 (lD t)) c0s (ps.map (fun p=>p.1)) false [⟨1,0,0,0,lt⟩] 0 0 false).Q5=some (wP W R 1 (sP 1 [] (lD t) none false 0) (cP 1 [aw 0 5 0 0 0] 0 0 0 [cQ 0 0] 1 [mX 0 [] 0] 1) (ps.map (fun p=>p.1)) false [⟨1,0,0,0,lt⟩] 0 0 false):=by
  unfold WP.Q5;rw[if_pos (Ba.2 ⟨acU,Nat.zero_le _,Or.inl rfl,Or.inl rfl⟩)];have e:(wP W R 0 (s0 (lD t)) c0s (ps.map (fun p=>p.1)) false [⟨1,0,0,0,lt⟩] 0 0 false).ZJ=wP W R 1 (sP 1 [] (lD t) none false 0) (cP 1 (bo true [] (aw 0 5 0 0 0)) 0 0 0 [cQ 0 0] 1 [mX 0 [] 0] 1) (ps.map (fun p=>p.1)) false [⟨1,0,0,0,lt⟩] 0 0 false:=rfl;rw[e,bU (by simp) (by simp)];rfl
 have BM:((dh 0 n).map (fp W R t ps).val).length=n:=by rw[List.length_map,fV];omega
 have ex:=Mj (ask:=ask) hE (w:=wP W R 1 (sP 1 [] (lD t) none false 0) (cP 1 [aw 0 5 0 0 0] 0 0 0 [cQ 0 0] 1 [mX 0 [] 0] 1) (ps.map (fun p=>p.1)) false [⟨1,0,0,0,lt⟩] 0 0 false) (cn:=1) (ahV rfl rfl) (mX 0 [] 0) rfl rfl rfl rfl (by show (cr 1).size≤1000;decide) rfl;rw[e1,e2] at ex;have JM:∀ g,g≤100→∀ x∈[(⟨1,0,g,0,lt⟩:gp)],x.aG<3∧x.start≤100∧x.aE≤100:=fun g hg x hx=>by rw[List.mem_singleton.1 hx];exact⟨by show 1<3;omega,by show 0≤100;omega,hg⟩
 have anR:zb (sP 1 [] (lD t) (some (oP 0 1 0 1 [⟨0,1,n,n,false⟩])) true 1):=FG hT (by rw[List.length_map];omega) (Nat.le_refl _) (by omega)
 have dr:(wP W R 1 (sP 1 [] (lD t) (some (oP 0 1 0 1 [⟨0,1,n,n,false⟩])) true 1) (cP 1 [] 0 1 0 [] 1 [mX n ((dh 0 n).map (fp W R t ps).val) 0] 1) (ps.map (fun p=>p.1)) false [⟨1,0,0,0,lt⟩] 0 0 false).kD=some (wP W R 1 (sP 1 [] (lD t) (some (oP 0 1 0 1 [⟨0,1,n,n,false⟩])) true 1) (cP 1 [] 0 1 0 [] 1 [mX n [] 0] 1) (ps.map (fun p=>p.1)) false [⟨1,0,n,0,lt⟩] 0 0 false):=by
  unfold WP.kD;rw[show List.range (wP W R 1 (sP 1 [] (lD t) (some (oP 0 1 0 1 [⟨0,1,n,n,false⟩])) true 1) (cP 1 [] 0 1 0 [] 1 [mX n ((dh 0 n).map (fp W R t ps).val) 0] 1) (ps.map (fun p=>p.1)) false [⟨1,0,0,0,lt⟩] 0 0 false).ae.length=[0] from rfl,aV]
  have k0:=tI (w:=wP W R 1 (sP 1 [] (lD t) (some (oP 0 1 0 1 [⟨0,1,n,n,false⟩])) true 1) (cP 1 [] 0 1 0 [] 1 [mX n ((dh 0 n).map (fp W R t ps).val) 0] 1) (ps.map (fun p=>p.1)) false [⟨1,0,0,0,lt⟩] 0 0 false) (i:=0) (y:=0) (x:=⟨1,0,0,0,lt⟩) (s:=mX n ((dh 0 n).map (fp W R t ps).val) 0) ⟨fM (by simp) (fun s hs=>by rw[List.mem_singleton.1 hs];exact pG (by omega) (by omega) (by decide)) (by simp) (by omega) (by omega) (by omega) (by omega),nE hC (by rw[List.length_map];omega) (by simp) (JM 0 (by omega)),by show 0<1;omega⟩ rfl rfl rfl rfl rfl (by show n=0+0+((dh 0 n).map (fp W R t ps).val).length;omega) (fun j v hj=>by
   have:=UK (a:=0) (b:=n) (by omega) hj;show (ps.map (fun p=>p.1))[0+0+j]? = some v;rw[show 0+0+j=0+j by omega]
   exact this) (by show 0+((dh 0 n).map (fp W R t ps).val).length≤90000;omega) (by show ((dh 0 n).map (fp W R t ps).val).length≤(ps.map (fun p=>p.1)).length;rw[List.length_map (f:=fun p:ByteArray × List UInt8=>p.1)];omega) (Or.inl rfl) rfl
  rw[if_pos (show (mX n ((dh 0 n).map (fp W R t ps).val) 0).bD=0 from rfl)] at k0;rw[k0,Option.bind_some,eP];have e:(0:Nat)+((dh 0 n).map (fp W R t ps).val).length=n:=by omega
  show some (wP W R 1 (sP 1 [] (lD t) (some (oP 0 1 0 1 [⟨0,1,n,n,false⟩])) true 1) (cP 1 [] 0 1 0 [] 1 [mX n [] 0] 1) (ps.map (fun p=>p.1)) false [⟨1,0,0+((dh 0 n).map (fp W R t ps).val).length,0,lt⟩] 0 0 false)=_;rw[e]
 refine FH (o:=oP 0 1 0 1 [⟨0,1,n,n,false⟩]) (nE hC (by rw[List.length_map];omega) (by simp) (JM 0 (by omega))) rfl up (Bx ⟨fM (by simp) (fun s hs=>by rw[List.mem_singleton.1 hs];exact pG (by omega) (by simp) (by decide)) (by simp) (by omega) (by omega) (by omega) (by omega),o9 Vs (by omega),by show W≤1000;have:=hC.W;omega,rfl⟩ ((congrArg (WP.fD ask bp 51) (Bz By Jr)).trans ex) ⟨rfl,rfl⟩ dr ⟨rfl,rfl⟩) ?_ ?_
 ·refine⟨rfl,uY ..,qN ..,anR,fM (by simp) (fun s hs=>by rw[List.mem_singleton.1 hs];exact pG (by omega) (by simp) (by decide)) (by simp) (by omega) (by omega) (by omega) (by omega),nE hC (by rw[List.length_map];omega) (by simp) (JM n (by omega)),rfl,rfl,rfl,rfl,⟨rfl,rfl⟩,rfl,fun f hff=>?_,⟨rfl,by show 5<1000000;omega⟩,⟨rfl,by show 0<1;omega,by show 1<1000000;omega⟩,by show 1<1000000;omega,rfl,by show 2≤23;omega,⟨rfl,rfl⟩,⟨rfl,rfl⟩,fun i x hix=>?_⟩
  ·rw[List.mem_singleton.1 hff]
   exact⟨⟨t,rfl,hf,hN.symm,by rw[JK];show 1≤n+1;omega⟩,rfl,rfl⟩
  ·have hi:i<1:=(List.getElem?_eq_some_iff.1 hix).1
   obtain rfl:i=0:=by omega
   exact⟨by show 0<1;omega,Or.inr ⟨0,mX n [] 0,rfl,rfl,rfl,rfl⟩⟩
 ·unfold WP.I1
  show ([(⟨1,0,n,0,lt⟩:gp)].all _)=true;simp only[List.all_cons,List.all_nil,Bool.and_true];show (!decide ((0:Nat)=0)||(!false&&decide (0+n=(ps.map (fun p=>p.1)).length)))=true;rw[List.length_map,hn];simp
theorem DW(hS:∀ x∈S,gx x)(rQ:S.length≤2)(hs:s.raise ((2:Nat):Int)=s')(hl:s.bu=((1:Nat):Int)):
  (wP W R 1 s (cP 1 Lc 0 1 0 [cQ 1 k] 2 S 2) v1 true X 0 0 ca).Q5=some (wP W R 2 s' (cP 2 [aw 1 5 1 0 0,gV 1 k] 0 1 0 [cQ 1 k] 2 S 2) v1 true X 0 0 ca):=by
 unfold WP.Q5;rw[if_pos (Ba.2 ⟨fM (by simp) hS rQ (by omega) (by omega) (by omega) (by omega),by show 1≤_;omega,Or.inr (by show ((1:Nat):Int)<((1+1:Nat):Int);omega),Or.inr (by show s.bu<((1+1:Nat):Int);rw[hl];omega)⟩)];have e:(wP W R 1 s (cP 1 Lc 0 1 0 [cQ 1 k] 2 S 2) v1 true X 0 0 ca).ZJ=wP W R 2 (s.raise ((2:Nat):Int)) (cP 2 (bo true (bo true [] (aw 1 5 1 0 0)) (gV 1 k)) 0 1 0 [cQ 1 k] 2 S 2) v1 true X 0 0 ca:=rfl;rw[e,hs,bU (p:=aw 1 5 1 0 0) (by simp) (by simp),bU (fun hm=>by have:=(aS.mk.inj (List.mem_singleton.1 hm)).1;omega) (by simp)];rfl
theorem DX{ps:List (ByteArray × List UInt8)}{r:Nat}{s:dQ}(hC:Jo W R)(hT:T1 R t (ps.map (fun p=>p.2)))(hf:t.bD=true)(hl:ps.length≤60)(hP:Mk bp ps)(hk:k≤ps.length)(hs:s.number=r∧s.name=cr 1∧s.aX=k∧s.ak=[]):
  (gU (fp W R t ps) k s).number=r∧(gU (fp W R t ps) k s).name=cr 1∧(gU (fp W R t ps) k s).aX=k+(gU (fp W R t ps) k s).ak.length∧k+(gU (fp W R t ps) k s).ak.length≤ps.length∧(∀ j v,(gU (fp W R t ps) k s).ak[j]? = some v→(ps.map (fun p=>p.1))[k+j]? = some v)∧((k+R+1≤ps.length∧(gU (fp W R t ps) k s).bD=s.cut∧(gU (fp W R t ps) k s).ak.length=0)∨(ps.length<k+R+1∧(gU (fp W R t ps) k s).bD=2∧(gU (fp W R t ps) k s).ak.length=ps.length-k)):=by
 obtain⟨h1,h2,h3,h4⟩:=hs;have hR:=hC.R;have hN:t.count=ps.length:=by rw[hT.i.n,List.length_map]
 have JK:t.first=ps.length-R+1:=by rw[hT.i.Bv,List.length_map]
 unfold gU
 by_cases h:k+1<t.first
 ·rw[if_pos (show k+1<(fp W R t ps).t.first from h)]
  refine⟨h1,h2,by show s.aX=k+s.ak.length;rw[h4,h3];rfl,by show k+s.ak.length≤_;rw[h4];exact hk,fun j v hj=>?_,Or.inl ⟨by omega,rfl,by show s.ak.length=0;rw[h4];rfl⟩⟩;have Vf:s.ak[j]? = some v:=hj;rw[h4] at Vf;cases Vf
 ·rw[if_neg (show ¬ k+1<(fp W R t ps).t.first from h)]
  unfold oe
  have e:s.ak++(dh k (fp W R t ps).t.count).map (fp W R t ps).val=(dh k ps.length).map (fp W R t ps).val:=by
   rw[h4,List.nil_append];show (dh k t.count).map _=_;rw[hN]
  have el:((dh k ps.length).map (fp W R t ps).val).length=ps.length-k:=by rw[List.length_map,fV]
  rw[e];refine⟨h1,h2,?_,?_,fun j v hj=>UK (Nat.le_refl _) hj,Or.inr ⟨by omega,?_,el⟩⟩
  ·show t.count=k+((dh k ps.length).map (fp W R t ps).val).length
   rw[el,hN];omega
  ·show k+((dh k ps.length).map (fp W R t ps).val).length≤ps.length
   rw[el];omega
  ·show (if t.bD=true then 2 else 0)=2
   rw[hf];rfl
structure UL(N R k:Nat)(x:gp):Prop where
 a:k+R+1≤N→x.ended=4∧x.aE=0
 b:N<k+R+1→x.ended=2∧x.aE=N-k
theorem Jv{ps:List (ByteArray × List UInt8)}(hC:Jo W R)(hT:T1 R t (ps.map (fun p=>p.2)))(hf:t.bD=true)(hl:ps.length≤60)(hP:Mk bp ps)(hn:1≤n∧n≤ps.length)(hk:k≤ps.length)(hq:n≤q∧q≤100):
  ∃ w x0 x1,(wP W R 1 (sP 1 L (lD t) (some (oP 0 1 0 1 [⟨0,1,n,q,false⟩])) true 1) (cP 1 Lc 0 1 0 [cQ 1 k] 2 [mX n [] 0,Jt k k [] 0] 2) (ps.map (fun p=>p.1)) true [⟨1,0,n,0,lt⟩,⟨1,k,0,0,decide (ps.length<k) || !decide (ps.length<k+1+R)⟩] 0 0 false).mW ask bp=some w∧w.ae=[x0,x1]∧UL ps.length R k x1:=by
 have hR:=hC.R;have hE:=NR (bp:=bp) hC hT hl hP;have hN:t.count=ps.length:=by rw[hT.i.n,List.length_map]
 have Vs:=hT.ts (by rw[List.length_map];omega)
 have Vt:∀ x∈[mX n [] 0,Jt k k [] 0],gx x:=fun x hx=>by
  rcases List.mem_cons.1 hx with rfl | hx
  ·exact pG (by omega) (by simp) (by decide)
  ·rw[List.mem_singleton.1 hx];exact pG (by omega) (by simp) (by decide)
 have up:=DW (W:=W) (R:=R) (k:=k) (s:=sP 1 L (lD t) (some (oP 0 1 0 1 [⟨0,1,n,q,false⟩])) true 1) (s':=sP 2 [] (lD t) (some (oP 0 1 0 1 [⟨0,1,n,q,false⟩])) false 1) (Lc:=Lc) (S:=[mX n [] 0,Jt k k [] 0]) (v1:=ps.map (fun p=>p.1)) (X:=[⟨1,0,n,0,lt⟩,⟨1,k,0,0,decide (ps.length<k) || !decide (ps.length<k+1+R)⟩]) (ca:=false) Vt (by simp) rfl rfl;have ex:=Jm (ask:=ask) hE (w:=wP W R 2 (sP 2 [] (lD t) (some (oP 0 1 0 1 [⟨0,1,n,q,false⟩])) false 1) (cP 2 [aw 1 5 1 0 0,gV 1 k] 0 1 0 [cQ 1 k] 2 [mX n [] 0,Jt k k [] 0] 2) (ps.map (fun p=>p.1)) true [⟨1,0,n,0,lt⟩,⟨1,k,0,0,decide (ps.length<k) || !decide (ps.length<k+1+R)⟩] 0 0 false) (cn:=2) (n:=n) (k:=k) (q:=q) (ahV rfl rfl) (by show n≤t.count;omega) (by show k≤t.count;omega) (mX n [] 0) (Jt k k [] 0) ⟨rfl,rfl,rfl,rfl,by show (cr 1).size≤1000;decide,rfl⟩ ⟨rfl,rfl,rfl,rfl,by show (cr 1).size≤1000;decide,rfl⟩ ⟨hq.1,by omega⟩
 have eF:∀ r m,pF (fp W R t ps) r m=none:=fun r m=>by
  unfold pF;rw[if_pos (Or.inr (show (fp W R t ps).t.bD=true from hf))]
 rw[eF,eF] at ex;obtain⟨a1,a2,a3,a4,a5,a6⟩:=DX (r:=0) (k:=n) (s:=mX n [] 0) hC hT hf hl hP hn.2 ⟨rfl,rfl,rfl,rfl⟩;obtain⟨b1,b2,b3,b4,b5,b6⟩:=DX (r:=1) (k:=k) (s:=Jt k k [] 0) hC hT hf hl hP hk ⟨rfl,rfl,rfl,rfl⟩;obtain⟨u,hu⟩:∃ u,gU (fp W R t ps) n (mX n [] 0)=u:=⟨_,rfl⟩
 obtain⟨v,hv⟩:∃ v,gU (fp W R t ps) k (Jt k k [] 0)=v:=⟨_,rfl⟩
 have cu:(mX n [] 0).cut=3:=by unfold dQ.cut;rw[if_neg (by show ¬ n=0;omega)]
 have cv:(Jt k k [] 0).cut=4:=by unfold dQ.cut;rw[if_pos rfl]
 rw[hu] at a1 a2 a3 a4 a5 a6 ex;rw[hv] at b1 b2 b3 b4 b5 b6 ex;rw[cu] at a6;rw[cv] at b6;have nu:u.name.size≤1000∧v.name.size≤1000:=by rw[a2,b2];exact⟨by decide,by decide⟩
 have acV:∀ x∈[u,v],gx x:=fun x hx=>by
  rcases List.mem_cons.1 hx with rfl | hx
  ·exact⟨nu.1,by omega,by omega,by omega,by omega⟩
  ·rw[List.mem_singleton.1 hx];exact⟨nu.2,by omega,by omega,by omega,by omega⟩
 have JT:∀ x∈[(⟨1,0,n,0,lt⟩:gp),⟨1,k,0,0,decide (ps.length<k) || !decide (ps.length<k+1+R)⟩],x.aG<3∧x.start≤100∧x.aE≤100:=fun x hx=>by
  rcases List.mem_cons.1 hx with rfl | hx
  ·exact⟨by show 1<3;omega,by show 0≤100;omega,by show n≤100;omega⟩
  ·rw[List.mem_singleton.1 hx];exact⟨by show 1<3;omega,by show k≤100;omega,by show 0≤100;omega⟩
 have BM:(ps.map (fun p=>p.1)).length=ps.length:=List.length_map ..
 have dr:=DV (w:=wP W R 2 (sP 2 [] (lD t) (some (oP 0 1 0 2 [])) true 1) (cP 2 [] 0 1 0 [] 2 [u,v] 2) (ps.map (fun p=>p.1)) true [⟨1,0,n,0,lt⟩,⟨1,k,0,0,decide (ps.length<k) || !decide (ps.length<k+1+R)⟩] 0 0 false) (fM (by simp) acV (by simp) (by omega) (by omega) (by omega) (by omega)) (nE hC (by omega) (by simp) JT) rfl rfl rfl a1 b1
  ⟨rfl,rfl,a2,by show u.aX=0+n+u.ak.length;omega,by show n+u.ak.length≤100;omega,by show u.ak.length≤(ps.map (fun p=>p.1)).length;omega,fun j v hj=>by
   have:=a5 j v hj;show (ps.map (fun p=>p.1))[0+n+j]? = some v;rw[show 0+n+j=n+j by omega]
   exact this⟩
  ⟨rfl,rfl,b2,by show v.aX=k+0+v.ak.length;omega,by show 0+v.ak.length≤100;omega,by show v.ak.length≤(ps.map (fun p=>p.1)).length;omega,fun j v hj=>by
   have:=b5 j v hj;show (ps.map (fun p=>p.1))[k+0+j]? = some v;rw[show k+0+j=k+j by omega]
   exact this⟩
  (by
   rcases a6 with⟨h1,h2,h3⟩ | ⟨h1,h2,h3⟩
   ·refine Or.inr (Or.inr ⟨h2,Or.inr ?_⟩)
    show decide ((ps.map (fun p=>p.1)).length<u.aX+1+R)=false;exact decide_eq_false (by omega)
   ·exact Or.inl ⟨h2,rfl,by show u.aX=(ps.map (fun p=>p.1)).length;omega⟩)
  (by
   rcases b6 with⟨h1,h2,h3⟩ | ⟨h1,h2,h3⟩
   ·refine Or.inr (Or.inl ⟨h2,by show v.aX=k;omega,?_⟩)
    show (decide (ps.length<k) || !decide (ps.length<k+1+R))=true;rw[decide_eq_false (show ¬ ps.length<k+1+R by omega)];simp
   ·exact Or.inl ⟨h2,rfl,by show v.aX=(ps.map (fun p=>p.1)).length;omega⟩)
 have hxe:∀ x∈[(⟨1,0,n+u.ak.length,u.bD,lt⟩:gp),⟨1,k,0+v.ak.length,v.bD,decide (ps.length<k) || !decide (ps.length<k+1+R)⟩],x.aG<3∧x.start≤100∧x.aE≤100:=fun x hx=>by
  rcases List.mem_cons.1 hx with rfl | hx
  ·exact⟨by show 1<3;omega,by show 0≤100;omega,by show n+u.ak.length≤100;omega⟩
  ·rw[List.mem_singleton.1 hx];exact⟨by show 1<3;omega,by show k≤100;omega,by show 0+v.ak.length≤100;omega⟩
 refine⟨wP W R 2 (sP 2 [] (lD t) (some (oP 0 1 0 2 [])) true 1) (cP 2 [] 0 1 0 [] 2 [] 2) (ps.map (fun p=>p.1)) true [⟨1,0,n+u.ak.length,u.bD,lt⟩,⟨1,k,0+v.ak.length,v.bD,decide (ps.length<k) || !decide (ps.length<k+1+R)⟩] 0 0 false,_,_,?_,rfl,⟨fun h=>?_,fun h=>?_⟩⟩
 ·refine FH (o:=oP 0 1 0 2 []) (nE hC (by omega) (by simp) JT) rfl up (Bx ⟨fM (by simp) Vt (by simp) (by omega) (by omega) (by omega) (by omega),kN Vs (by omega) (by omega) (by omega) (F:=[⟨0,1,n,q,false⟩]) (fun f hf=>by rw[List.mem_singleton.1 hf];exact⟨hq.1,by show q≤1000;omega,by show 1<3;omega⟩) (by simp),by show W≤1000;have:=hC.W;omega,rfl⟩ ((congrArg (WP.fD ask bp 51) (Bz Ml Js)).trans ex) ⟨rfl,rfl⟩ dr ⟨rfl,rfl⟩) (Ju hC Vs (by omega) hxe (by omega) (by omega) (by omega) (by omega) (by omega)) ?_
  unfold WP.I1;show ([(⟨1,0,n+u.ak.length,u.bD,lt⟩:gp),⟨1,k,0+v.ak.length,v.bD,decide (ps.length<k) || !decide (ps.length<k+1+R)⟩].all _)=true;simp only[List.all_cons,List.all_nil,Bool.and_true,Bool.and_eq_true,Bool.or_eq_true,Bool.not_eq_true',decide_eq_false_iff_not];exact⟨Or.inl (by omega),Or.inl (by omega)⟩
 ·rcases b6 with⟨h1,h2,h3⟩ | ⟨h1,h2,h3⟩
  ·exact⟨h2,by show 0+v.ak.length=0;omega⟩
  ·omega
 ·rcases b6 with⟨h1,h2,h3⟩ | ⟨h1,h2,h3⟩
  ·omega
  ·exact⟨h2,by show 0+v.ak.length=ps.length-k;omega⟩
theorem Jw{gn:Bool}(hC:Jo W R)(Vs:yI Ts)(hv:vs.length≤60)(hn:n≤60)(hk:k≤60)(hN:N=vs.length):
  ∃ w x0,(wP W R 1 (sP 1 [] Ts none false 1) (cP 1 Lc 0 1 0 [cQ 1 k] 2 [mX n [] 0,Jt k k [] 0] 2) vs true [⟨1,0,n,0,lt⟩,⟨1,k,0,0,gn⟩] 0 0 true).mW ask bp=some w∧w.ae=[x0,⟨1,k,0,3,gn⟩]:=by
 have Vt:∀ x∈[mX n [] 0,Jt k k [] 0],gx x:=fun x hx=>by
  rcases List.mem_cons.1 hx with rfl | hx
  ·exact pG (by omega) (by simp) (by decide)
  ·rw[List.mem_singleton.1 hx];exact pG (by omega) (by simp) (by decide)
 have acV:∀ x∈[mX n [] 3,Jt k k [] 3],gx x:=fun x hx=>by
  rcases List.mem_cons.1 hx with rfl | hx
  ·exact pG (by omega) (by simp) (by decide)
  ·rw[List.mem_singleton.1 hx];exact pG (by omega) (by simp) (by decide)
 have up:=DW (W:=W) (R:=R) (k:=k) (s:=sP 1 [] Ts none false 1) (s':=sP 2 [] Ts none false 1) (Lc:=Lc) (S:=[mX n [] 0,Jt k k [] 0]) (v1:=vs) (X:=[⟨1,0,n,0,lt⟩,⟨1,k,0,0,gn⟩]) (ca:=true) Vt (by simp) rfl rfl;have ex:=Jn (ask:=ask) (bp:=bp) (w:=wP W R 2 (sP 2 [] Ts none false 1) (cP 2 [aw 1 5 1 0 0,gV 1 k] 0 1 0 [cQ 1 k] 2 [mX n [] 0,Jt k k [] 0] 2) vs true [⟨1,0,n,0,lt⟩,⟨1,k,0,0,gn⟩] 0 0 true) (cn:=2) (k:=k) (Ts:=Ts) (s0:=mX n [] 0) (s1:=Jt k k [] 0) ⟨rfl,rfl⟩ Vs (by omega) (Vt _ (by simp)) (Vt _ (by simp));rw[show (mX n [] 0).finish 3=mX n [] 3 from rfl,show (Jt k k [] 0).finish 3=Jt k k [] 3 from rfl] at ex
 have JT:∀ e,∀ x∈[(⟨1,0,n,e,lt⟩:gp),⟨1,k,0,e,gn⟩],x.aG<3∧x.start≤100∧x.aE≤100:=fun e x hx=>by
  rcases List.mem_cons.1 hx with rfl | hx
  ·exact⟨by show 1<3;omega,by show 0≤100;omega,by show n≤100;omega⟩
  ·rw[List.mem_singleton.1 hx];exact⟨by show 1<3;omega,by show k≤100;omega,by show 0≤100;omega⟩
 have dr:=DV (w:=wP W R 2 (sP 2 [] Ts (some (oP 1 2 0 0 [])) true 2) (cP 2 [] 1 2 0 [] 0 [mX n [] 3,Jt k k [] 3] 2) vs true [⟨1,0,n,0,lt⟩,⟨1,k,0,0,gn⟩] 0 0 true) (fM (by simp) acV (by simp) (by omega) (by omega) (by omega) (by omega)) (nE hC (by omega) (by simp) (JT 0)) rfl rfl rfl rfl rfl
  ⟨rfl,rfl,rfl,by show n=0+n+0;omega,by show n+0≤100;omega,Nat.zero_le _,fun j v hj=>(by cases hj)⟩
  ⟨rfl,rfl,rfl,rfl,by show 0+0≤100;omega,Nat.zero_le _,fun j v hj=>(by cases hj)⟩
  (Or.inr (Or.inr ⟨rfl,Or.inl rfl⟩)) (Or.inr (Or.inr ⟨rfl,Or.inl rfl⟩))
 refine⟨wP W R 2 (sP 2 [] Ts (some (oP 1 2 0 0 [])) true 2) (cP 2 [] 1 2 0 [] 0 [] 2) vs true [⟨1,0,n,3,lt⟩,⟨1,k,0,3,gn⟩] 0 0 true,_,?_,rfl⟩;refine FH (o:=oP 1 2 0 0 []) (nE hC (by omega) (by simp) (JT 0)) rfl up (Bx ⟨fM (by simp) Vt (by simp) (by omega) (by omega) (by omega) (by omega),o9 Vs (by omega),by show W≤1000;have:=hC.W;omega,rfl⟩ ((congrArg (WP.fD ask bp 51) (Bz By Js)).trans ex) ⟨rfl,rfl⟩ dr ⟨rfl,rfl⟩) (Ju hC Vs (by omega) (JT 3) (by omega) (by omega) (by omega) (by omega) (by omega)) ?_;rfl
abbrev t00:jS:=⟨cr 1,eN 1,0,[],false⟩
def wI(W R:Nat):WP:=wP W R 0 (s0 (lD t00)) c0 [] false [] 0 0 false
theorem FI(hC:Jo W R)(hc:tC c)(hv:v1.length≤60)(hX:X.length≤1)(hx:∀ x∈X,x.aG<3∧x.start≤100∧x.aE≤100)(hm:c.bQ=X.length)(hf:c.jv W=false)(hk:k≤v1.length):
  (wP W R cn s c v1 false X 0 0 ca).wO k=some (wP W R cn s (c.cA (cr 1) (eN 1) k) v1 false (X++[⟨1,k,0,0,decide (v1.length<k) || !decide (v1.length<k+1+R)⟩]) 0 0 ca):=by
 unfold WP.wO;rw[if_pos]
 ·rfl
 ·unfold XZ
  simp only[Bool.and_eq_true,decide_eq_true_eq,Bool.not_eq_true'];refine⟨n9.2 hc,iQ.2 (nE hC (by omega) (by omega) hx),rfl,hf,hm,?_,hk,by show X.length≤_;omega,by show v1.length≤_;omega⟩;show nZ X<8;unfold nZ;have:=List.length_filter_le (fun x:gp=>decide (x.ended=0)) X;omega
theorem NT(hC:Jo W R)(hs:zb s)(ht:s.au=lD t)(hn:t.name=cr 1)(hb:t.base=eN 1)(hf:t.bD=false):
  (wP W R cn s c v1 false X 0 0 ca).LZ=some (wP W R cn (s.finish W 1) c v1 true X 0 0 ca):=by
 unfold WP.LZ;rw[if_pos]
 ·rfl
 ·unfold acL
  simp only[Bool.and_eq_true,decide_eq_true_eq,Bool.not_eq_true'];exact⟨n8.2 hs,by show W≤1000;have:=hC.W;omega,rfl,NP ht hn hb hf⟩
theorem X6(R:Nat):T1 R t00 []:=⟨⟨rfl,by simp⟩,rfl,rfl⟩
theorem Mn{ps:List (ByteArray × List UInt8)}(hC:Jo W R)(hn:1≤ps.length∧ps.length≤R)(hP:Mk bp ps):
  ∃ w1 w2 t lt,bd (fun x p=>WP.pS x p.1 p.2) (wI W R) ps=some w1∧w1.wO 0=some w2∧w2.ae.length=1∧T1 R t (ps.map (fun p=>p.2))∧t.bD=false∧w2.mW ask bp=some (wP W R 1 (sP 1 [] (lD t) (some (oP 0 1 0 1 [⟨0,1,ps.length,ps.length,false⟩])) true 1) (cP 1 [] 0 1 0 [] 1 [mX ps.length [] 0] 1) (ps.map (fun p=>p.1)) false [⟨1,0,ps.length,0,lt⟩] 0 0 false):=by
 have hR:=hC.R;obtain⟨t,X,h1,h2,h3,_,h5⟩:=Bw (cn:=0) hC (c:=c0) (a:=0) (b:=0) (ca:=false) (s0 []) (Or.inl rfl) ahW ps t00 [] [] [] (X6 R) rfl rfl (by show 0+ps.length≤60;omega) (Or.inl rfl);obtain rfl:=h3 rfl;rw[List.nil_append] at h1 h5;have hc0:tC c0:=⟨⟨Nat.zero_le _,Nat.zero_le _,rfl,Nat.zero_le _,Nat.zero_le _,Nat.zero_le _⟩,fun s hs=>(by cases hs),Nat.zero_le _,Nat.zero_le _⟩
 have hf:c0.jv W=false:=by
  have:=hC.W;unfold CP.jv;show (decide (8≤0)||decide (W≤0))=false;rw[decide_eq_false (show ¬ W≤0 by omega)];rfl
 have h6:=FI (cn:=0) (s:={ s0 [] with au:=lD t }) (c:=c0) (v1:=ps.map (fun p=>p.1)) (X:=[]) (ca:=false) (k:=0) hC hc0 (by rw[List.length_map];omega) (by simp) (fun x hx=>(by cases hx)) rfl hf (Nat.zero_le _);exact⟨_,_,t,decide ((ps.map (fun p=>p.1)).length<0) || !decide ((ps.map (fun p=>p.1)).length<0+1+R),h5,h6,rfl,h1,h2,Mm hC h1 h2 hn.2 hP⟩
theorem Jx{ps qs:List (ByteArray × List UInt8)}(hC:Jo W R)(hn:1≤ps.length∧ps.length≤R)(hm:qs.length≤2*R)(hk:1≤k∧k≤ps.length)(hP:Mk bp (ps++qs))(hT:T1 R t (ps.map (fun p=>p.2)))(hf:t.bD=false):
  ∃ w4 w5 w6 w7 x0 x1 y,bd (fun x p=>WP.pS x p.1 p.2) (wP W R 1 (sP 1 [] (lD t) (some (oP 0 1 0 1 [⟨0,1,ps.length,ps.length,false⟩])) true 1) (cP 1 [] 0 1 0 [] 1 [mX ps.length [] 0] 1) (ps.map (fun p=>p.1)) false [⟨1,0,ps.length,0,lt⟩] 0 0 false) qs=some w4∧w4.eh 1 (k+1)=decide ((ps++qs).length<k+1+R)∧w4.wO k=some w5∧w5.ae.length=2∧w5.ae[1]? = some y∧y.start=k∧w5.LZ=some w6∧w6.mW ask bp=some w7∧w7.ae=[x0,x1]∧UL (ps++qs).length R k x1:=by
 have hR:=hC.R;obtain⟨t2,L,q,lt2,h1,h2,h3,h4,h5⟩:=Qu (cn:=1) (n:=ps.length) (g:=ps.length) hC (c:=cP 1 [] 0 1 0 [] 1 [mX ps.length [] 0] 1) (by omega) qs t (ps.map (fun p=>p.2)) (ps.map (fun p=>p.1)) [] ps.length lt hT hf (by rw[List.length_map,List.length_map]) (by rw[List.length_map];omega) (Nat.le_refl _) (by omega);rw[← List.map_append] at h1 h5;have hl:(ps++qs).length=ps.length+qs.length:=List.length_append;have BM:((ps++qs).map (fun p=>p.1)).length=(ps++qs).length:=List.length_map ..;have JM:∀ x∈[(⟨1,0,ps.length,0,lt2⟩:gp)],x.aG<3∧x.start≤100∧x.aE≤100:=fun x hx=>by rw[List.mem_singleton.1 hx];exact⟨by show 1<3;omega,by show 0≤100;omega,by show ps.length≤100;omega⟩
 have tM:(cP 1 [] 0 1 0 [] 1 [mX ps.length [] 0] 1).jv W=false:=by
  have:=hC.W;unfold CP.jv;show (decide (8≤1)||decide (W≤0))=false;rw[decide_eq_false (show ¬ W≤0 by omega)];rfl
 have h6:=FI (cn:=1) (s:=sP 1 L (lD t2) (some (oP 0 1 0 1 [⟨0,1,ps.length,q,false⟩])) true 1) (c:=cP 1 [] 0 1 0 [] 1 [mX ps.length [] 0] 1) (v1:=(ps++qs).map (fun p=>p.1)) (X:=[⟨1,0,ps.length,0,lt2⟩]) (ca:=false) (k:=k) hC (fM (by simp) (fun s hs=>by rw[List.mem_singleton.1 hs];exact pG (by omega) (by simp) (by decide)) (by simp) (by omega) (by omega) (by omega) (by omega)) (by omega) (by simp) JM rfl tM (by omega);have h7:=NT (cn:=1) (s:=sP 1 L (lD t2) (some (oP 0 1 0 1 [⟨0,1,ps.length,q,false⟩])) true 1) (c:=(cP 1 [] 0 1 0 [] 1 [mX ps.length [] 0] 1).cA (cr 1) (eN 1) k) (v1:=(ps++qs).map (fun p=>p.1)) (X:=[⟨1,0,ps.length,0,lt2⟩]++[⟨1,k,0,0,decide (((ps++qs).map (fun p=>p.1)).length<k) || !decide (((ps++qs).map (fun p=>p.1)).length<k+1+R)⟩]) (ca:=false) (t:=t2) hC (FG h1 (by rw[List.length_map];omega) h3 (by omega)) rfl h1.nm h1.bs h2;obtain⟨L3,q3,g1,g2,g3⟩:=Jq (W:=W) (cn:=1) (n:=ps.length) (q:=q) (L:=L) (t:=t2);rw[g3] at h7;have hcn:=h1.i.n;rw[List.length_map] at hcn;obtain⟨w7,x0,x1,h8,h9,h10⟩:=Jv (ask:=ask) (bp:=bp) (W:=W) (R:=R) (n:=ps.length) (k:=k) (q:=q3) (t:={ t2 with bD:=true }) (ps:=ps++qs) (L:=L3) (Lc:=bo true [] (gV 1 k)) (lt:=lt2) hC h1.bD rfl (by omega) hP ⟨hn.1,by omega⟩ (by omega) ⟨by omega,by omega⟩;refine⟨_,_,_,w7,x0,x1,_,h5,?_,h6,rfl,rfl,rfl,h7,?_,h9,h10⟩
 ·show decide (((ps++qs).map (fun p=>p.1)).length<k+1+R)=_
  rw[BM]
 ·rw[BM]
  exact h8
theorem FJ{ps qs:List (ByteArray × List UInt8)}(hC:Jo W R)(hn:1≤ps.length∧ps.length≤R)(hm:qs.length≤2*R)(hk:1≤k∧k≤ps.length)(hT:T1 R t (ps.map (fun p=>p.2)))(hf:t.bD=false):
  ∃ w4 w5 w6 w7 x0 x1 y,bd (fun x p=>WP.pS x p.1 p.2) (wP W R 1 (sP 1 [] (lD t) (some (oP 0 1 0 1 [⟨0,1,ps.length,ps.length,false⟩])) true 1) (cP 1 [] 0 1 0 [] 1 [mX ps.length [] 0] 1) (ps.map (fun p=>p.1)) false [⟨1,0,ps.length,0,lt⟩] 0 0 false).ahJ qs=some w4∧w4.wO k=some w5∧w5.ae.length=2∧w5.ae[1]? = some y∧y.start=k∧w5.LZ=some w6∧w6.mW ask bp=some w7∧w7.ae=[x0,x1]∧x1.ended=3∧x1.aE=0:=by
 have hR:=hC.R;obtain⟨t2,X,h1,h2,_,h4,h5⟩:=Bw (cn:=1) hC (c:=cP 1 [] 0 1 0 [] 1 [mX ps.length [] 0] 1) (a:=0) (b:=0) (ca:=true) (sP 1 [] [] none false 1) (Or.inl rfl) (fun Ts h=>o9 (cn:=1) (L:=[]) (cur:=false) (bg:=1) h (by omega)) qs t (ps.map (fun p=>p.2)) (ps.map (fun p=>p.1)) [⟨1,0,ps.length,0,lt⟩] hT hf (by rw[List.length_map,List.length_map]) (by rw[List.length_map];omega) (Or.inr ⟨ps.length,lt,by omega,rfl⟩);obtain⟨lt2,rfl⟩:=h4 _ _ rfl;rw[← List.map_append] at h1 h5;have hl:(ps++qs).length=ps.length+qs.length:=List.length_append;have BM:((ps++qs).map (fun p=>p.1)).length=(ps++qs).length:=List.length_map ..;have JM:∀ x∈[(⟨1,0,ps.length,0,lt2⟩:gp)],x.aG<3∧x.start≤100∧x.aE≤100:=fun x hx=>by rw[List.mem_singleton.1 hx];exact⟨by show 1<3;omega,by show 0≤100;omega,by show ps.length≤100;omega⟩
 have tM:(cP 1 [] 0 1 0 [] 1 [mX ps.length [] 0] 1).jv W=false:=by
  have:=hC.W;unfold CP.jv;show (decide (8≤1)||decide (W≤0))=false;rw[decide_eq_false (show ¬ W≤0 by omega)];rfl
 have Vs:=h1.ts (by rw[List.length_map];omega);have h6:=FI (cn:=1) (s:={ sP 1 [] [] none false 1 with au:=lD t2 }) (c:=cP 1 [] 0 1 0 [] 1 [mX ps.length [] 0] 1) (v1:=(ps++qs).map (fun p=>p.1)) (X:=[⟨1,0,ps.length,0,lt2⟩]) (ca:=true) (k:=k) hC (fM (by simp) (fun s hs=>by rw[List.mem_singleton.1 hs];exact pG (by omega) (by simp) (by decide)) (by simp) (by omega) (by omega) (by omega) (by omega)) (by omega) (by simp) JM rfl tM (by omega);have h7:=NT (cn:=1) (s:={ sP 1 [] [] none false 1 with au:=lD t2 }) (c:=(cP 1 [] 0 1 0 [] 1 [mX ps.length [] 0] 1).cA (cr 1) (eN 1) k) (v1:=(ps++qs).map (fun p=>p.1)) (X:=[⟨1,0,ps.length,0,lt2⟩]++[⟨1,k,0,0,decide (((ps++qs).map (fun p=>p.1)).length<k) || !decide (((ps++qs).map (fun p=>p.1)).length<k+1+R)⟩]) (ca:=true) (t:=t2) hC (o9 (cn:=1) (L:=[]) (cur:=false) (bg:=1) Vs (by omega)) rfl h1.nm h1.bs h2;have anT:=h1.bD.ts (by rw[List.length_map];omega);obtain⟨w7,x0,h8,h9⟩:=Jw (ask:=ask) (bp:=bp) (W:=W) (R:=R) (n:=ps.length) (k:=k) (N:=(ps++qs).length) (Ts:=lD { t2 with bD:=true }) (vs:=(ps++qs).map (fun p=>p.1)) (Lc:=bo true [] (gV 1 k)) (lt:=lt2) (gn:=decide (((ps++qs).map (fun p=>p.1)).length<k) || !decide (((ps++qs).map (fun p=>p.1)).length<k+1+R)) hC anT (by omega) (by omega) (by omega) BM.symm;exact⟨_,_,_,w7,x0,_,_,h5,h6,rfl,rfl,rfl,h7,h8,h9,rfl,rfl⟩
end Go.Proofs.YtkpfplbmmglkkaaGreatDoor
