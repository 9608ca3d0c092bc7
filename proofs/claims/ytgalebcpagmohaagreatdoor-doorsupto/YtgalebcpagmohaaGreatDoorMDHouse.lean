/- The reference's Bases. -/
import Derived.Test.YtgalebcpagmohaaGreatDoorMInW
import Derived.Test.YtgalebcpagmohaaGreatDoorMEncT
import Derived.Test.YtgalebcpagmohaaGreatDoorMDT
import Derived.Test.YtgalebcpagmohaaGreatDoorMEqParse
import Derived.Test.YtgalebcpagmohaaGreatDoorMEqFault
import Derived.Test.YtgalebcpagmohaaGreatDoorMDSub
import Derived.Test.YtgalebcpagmohaaGreatDoorMPEncV
import Derived.Deep.RegionHeld3
set_option linter.unusedSimpArgs false
set_option linter.unusedVariables false
set_option maxHeartbeats 4000000
set_option maxRecDepth 100000
namespace Go.Proofs.YtgalebcpagmohaaGreatDoor
open Go.Proofs.Tryz
open Go.RowKit
def lU (kind name:List UInt8) (r:bI):Bool:=(r.kind.toList==kind)&&(r.name.toList==name)
def Hf (s kind name:ByteArray) (w:World) (e:Ending) (w':World):Prop:=Below w.heap.size w w' ∧
 ((e=.returned (.slice none 0 0)∧∀ M,(pW s.size (fE s) [] 0).1=some M→∀ (j:Nat) (r:bI),M[j]? = some r→lU kind.toList name.toList r=false) ∨
  ∃ (M:List bI) (i:Nat) (r:bI) (v:Value),(pW s.size (fE s) [] 0).1=some M∧M[i]? = some r∧lU kind.toList name.toList r=true∧(∀ (j:Nat) (r':bI),j<i→M[j]? = some r'→lU kind.toList name.toList r'=false)∧e=.returned v∧w'.ownsRow w.heap.size 9 1 v r.bases.length (r.bases.map aY))
theorem Jr (s kind name:ByteArray) (w:World) (hs:s.size≤400) :
  Calls Tryz.prog 41 #[.string s,.string kind,.string name] w (Hf s kind name w):=by
 generalize hR:(pW s.size (fE s) [] 0)=G
 have HRR:=hid hR
 go_enter func41,ntmps41
 go_wp2_with fail
 refine(zL s w hs).mono ?_;rintro e w1 ⟨lv,rfl,hb1,hans⟩
 rw[hR] at hans ⊢
 rcases hans with⟨hnone,rfl⟩ | ⟨X,hX,hits,hXl,_,_⟩
 ·have XL:=hid hnone
  unfold Bj
  clear hR hnone
  generalize G.2=gz
  go_wp2_with fail
  go_loopg [9] 0 (fun gk i wr=>i=.int .i64 0∧Below w.heap.size w wr)
  case atStart=>exact⟨rfl,hb1⟩
  case round=>
   obtain⟨rfl,hbel⟩:=hrel
   go_wp2_with fail
   go_ret
   exact⟨hbel,Or.inl ⟨rfl,fun M hM=>by rw[HRR.out,XL.out] at hM;cases hM⟩⟩
 ·obtain⟨la,lc,hlv⟩:∃ a c,lv=.slice a X.length c:=ak hits.own
  subst hlv
  have HX:=hid hX
  have HI:=hid hits
  clear hR hX hits
  generalize G.2=gz
  go_wp2_with fail
  go_loopg [9] X.length (fun gk i wr=>∃ k:Nat,k+gk=X.length∧i=.int .i64 k∧Hid (∀ (j:Nat) (r:IV),j<k→X[j]? = some r→lU kind.toList name.toList r.it=false)∧Below w1.heap.size w1 wr)
  case atStart=>exact⟨0,by omega,rfl,hid (fun j r hj=>by omega),Below.refl _ _⟩
  case round=>
   obtain⟨k,hk,rfl,HA,hbel⟩:=hrel
   have hbw:=hb1.trans (hbel.mono hb1.size)
   by_cases hlt:k<X.length
   ·obtain⟨x,hx⟩:∃ x,X[k]? = some x:=⟨X[k],List.getElem?_eq_getElem hlt⟩
    obtain⟨g,cap,hv,hgl,hgs⟩:=dM HI.out.own (by omega)
    obtain⟨rfl,rfl⟩:la=some ⟨g,0,none⟩∧lc=cap:=by simpa using hv
    have hI2:=HI.out.same hbel
    have hsg:=hI2.seg hx
    have hnb:=(hI2.nest x (List.mem_of_getElem? hx)).b
    obtain⟨ba,bc,hvb⟩:=ak hnb
    have c0:wr.cell? ⟨g,k*8,none⟩=some (.string x.it.kind):=hsg.cell (j:=0) rfl
    have c1:wr.cell? ⟨g,k*8+1,none⟩=some (.string x.it.name):=hsg.cell (j:=1) rfl
    have c6:wr.cell? ⟨g,k*8+6,none⟩=some (.slice ba x.it.bases.length bc):=by rw[← hvb];exact hsg.cell (j:=6) rfl
    have oM:(k:Int)<(X.length:Int):=by omega
    have Nl:=hid hx
    have HNB:=hid hnb
    have HVB:=hid hvb
    clear hsg hx hnb hvb hI2 hv
    cases hk1:(x.it.kind.toList==kind.toList) with
    | false=>
     have HM:=hid (show lU kind.toList name.toList x.it=false by unfold lU;rw[hk1];rfl)
     go_wp2_with fail
     go_roundg (gk-1)
     case rel=>exact⟨k+1,by omega,by go_num,hid (fun j r hj hr=>by
      rcases Nat.lt_or_ge j k with h | h
      ·exact HA.out j r h hr
      ·rw[show j=k from by omega,Nl.out] at hr;simp at hr;subst hr;exact HM.out),hbel⟩
     case measure=>omega
    | true=>
     cases hk2:(x.it.name.toList==name.toList) with
     | false=>
      have HM:=hid (show lU kind.toList name.toList x.it=false by unfold lU;rw[hk1,hk2];rfl)
      go_wp2_with fail
      go_roundg (gk-1)
      case rel=>exact⟨k+1,by omega,by go_num,hid (fun j r hj hr=>by
       rcases Nat.lt_or_ge j k with h | h
       ·exact HA.out j r h hr
       ·rw[show j=k from by omega,Nl.out] at hr;simp at hr;subst hr;exact HM.out),hbel⟩
      case measure=>omega
     | true=>
      have HM:=hid (show lU kind.toList name.toList x.it=true by unfold lU;rw[hk1,hk2];rfl)
      go_wp2_with fail
      go_ret
      refine⟨hbw,Or.inr ⟨X.map (fun y=>y.it),k,x.it,.slice ba x.it.bases.length bc,by rw[HRR.out];exact HX.out,by rw[List.getElem?_map,Nl.out];rfl,HM.out,fun j r' hj hr=>?_,rfl,by rw[← HVB.out];exact HNB.out⟩⟩
      rw[List.getElem?_map] at hr
      obtain⟨y,hy,rfl⟩:=Option.map_eq_some_iff.1 hr
      exact HA.out j y hj hy
   ·have oM:¬ (k:Int)<(X.length:Int):=by omega
    go_wp2_with fail
    go_ret
    refine⟨hbw,Or.inl ⟨rfl,fun M hM j r hr=>?_⟩⟩
    rw[HRR.out,HX.out] at hM
    cases hM
    rw[List.getElem?_map] at hr
    obtain⟨y,hy,rfl⟩:=Option.map_eq_some_iff.1 hr
    exact HA.out j y (by have:=iR hy;omega) hy
open Go.Conc
structure HG where
 c:jY
 s:lH
 done:Value
 dn:List ByteArray
 ticks:Nat
structure HK where
 lo:Nat
 W:Int
 D:Int
 R:Nat
 schema:ByteArray
 H:Nat
 cx:Nat
 cs:Nat
abbrev nJ (K:HK) (G:HG):List Value:=[.string K.schema,.int .i64 K.W,.int .i64 K.D,.int .i64 K.R,.pointer (some ⟨K.cs,0,none⟩),.pointer (some ⟨K.cx,0,none⟩),.int .i64 G.c.last,.int .i64 G.s.last,.bool G.c.up,.bool G.s.up,.int .i64 G.c.last,.int .i64 G.s.last,.bool G.c.had,.bool G.s.had,.int .i64 G.ticks,G.done,.int .i64 G.c.Bs.length,.int .i64 G.c.Cs.length]
structure Wc (w:World) (K:HK) (N:Nat) (G:HG):Prop where
 x:aU w K.cx 54 [.pointer (some ⟨G.c.b,0,none⟩)]
 y:aU w K.cs 49 [.pointer (some ⟨G.s.b,0,none⟩)]
 d:w.ownsRow K.lo 9 1 G.done G.dn.length (G.dn.map aY)
 c:Cl w K.lo K.W K.D K.R G.c
 s:Sv w K.lo K.W K.D K.R G.s
 dq:G.c.q≠G.s.q
 dm:G.c.m≠G.s.m
 dms:G.c.m≠G.s.ms
 dmo:G.c.m≠G.s.mo
 dl:G.dn.length≤N
 tu:Jh G.s.Ts
 tr:G.s.Ts.map (fun t=>(t.name,t.base))=(G.s.X.filter (fun x=>x.it.kind==2)).map (fun x=>(x.it.name.text,cellText x.it.base))
 tl:∀ t∈G.s.Ts,K.lo≤t.blk
 env:Env w
 own:∀ k,K.lo≤k→Own k
 pa:bM K.schema 0 0
 ps:K.schema.size≤400
 pc:(dD K.schema).1=some (G.c.X.map (fun x=>x.it))
 px:(dD K.schema).1=some (G.s.X.map (fun x=>x.it))
 cw:1≤K.W∧K.W≤8
 cr:1≤K.R∧K.R≤16
 bH:K.lo≤K.H
 tk:G.ticks≤N
 sl:0≤G.c.silence∧G.c.silence≤N
 sn:G.s.N≤N
 nn:N≤100000000
structure Wd (w:World) (K:HK) (N:Nat) (G:HG):Prop extends Wc w K N G where
 fin:∀ t∈G.s.Ts,(t.fin=true↔∃ n∈G.dn,n.toList=t.name.toList)
structure Inv (w:World) (K:HK) (N:Nat) (G:HG):Prop where
 wd:Wd w K N G
 h:aU w K.H 33 (nJ K G)
theorem Wd.below {w w':World} {K:HK} {N:Nat} {G:HG} (h:Wd w K N G) (hb:Below w.heap.size w w'):Wd w' K N G :=
 {h with x:=h.x.below hb,y:=h.y.below hb,d:=au h.d (fun g hg=>hb.block g (h.d.lt g hg).2),c:=h.c.below hb,s:=h.s.below hb,env:=h.env.below hb }
theorem Inv.below {w w':World} {K:HK} {N:Nat} {G:HG} (h:Inv w K N G) (hb:Below w.heap.size w w'):Inv w' K N G:=⟨h.wd.below hb,h.h.below hb⟩
theorem Wd.more {w:World} {K:HK} {N:Nat} {G:HG} (h:Wd w K N G) (hn:N+1≤100000000):Wd w K (N+1) G :=
 {h with dl:=by have:=h.dl;omega,tk:=by have:=h.tk;omega,sl:=by have:=h.sl;omega,sn:=by have:=h.sn;omega,nn:=hn }
theorem Wd.cli {w w':World} {K:HK} {N:Nat} {G:HG} {c':jY} (h:Wd w K N G) (hc:Cl w' K.lo K.W K.D K.R c') (hg:aN (vG G.c) w w') (hs:GY w G.c c') (hsl:0≤c'.silence∧c'.silence≤N):Wd w' K N { G with c:=c' } ∧ (∀ hl,aU w K.H 33 hl→aU w' K.H 33 hl)∧Below K.lo w w':=by
 have ho:=h.c.only
 have hnt:∀ {k:Nat},(Tag w k 0∧G.c.q≠k)∨(Tag w k 1∧G.c.m≠k)→¬ vG G.c k:=fun {k} hk hf=>by
  rcases hk with⟨ht,hne⟩ | ⟨ht,hne⟩
  ·rcases hf with((((rfl | rfl) | rfl) | e) | e) | e
   ·have:=ht.uniq h.c.e.blk.tag;revert this;decide
   ·exact hne rfl
   ·have:=ht.uniq h.c.e.pO.tag;revert this;decide
   ·have:=ht.uniq (gJ h.c.a e);revert this;decide
   ·have:=ht.uniq (gJ h.c.s.row e);revert this;decide
   ·have:=ht.uniq (gJ h.c.c.row e);revert this;decide
  ·rcases hf with((((rfl | rfl) | rfl) | e) | e) | e
   ·have:=ht.uniq h.c.e.blk.tag;revert this;decide
   ·have:=ht.uniq h.c.e.oD.tag;revert this;decide
   ·exact hne rfl
   ·have:=ht.uniq (gJ h.c.a e);revert this;decide
   ·have:=ht.uniq (gJ h.c.s.row e);revert this;decide
   ·have:=ht.uniq (gJ h.c.c.row e);revert this;decide
 have hlo:K.lo≤w.heap.size:=by have:=h.c.lb;have:=h.c.e.blk.lt;omega
 have JC:=h.s.e.oD.lt
 have hml:=h.s.e.pO.lt
 have aks:=h.s.vs.lt
 have hol:=h.s.vo.lt
 refine⟨{ h with
  x:=by show aU w' K.cx _ [.pointer (some ⟨c'.b,0,none⟩)];rw[hs.b];exact h.x.only hg ho (by decide)
  y:=h.y.only hg ho (by decide)
  d:=jJ h.d hg ho (by decide)
  c:=hc
  s:=h.s.keep hg ho (by decide) (hnt (Or.inl ⟨h.s.e.oD.tag,h.dq⟩)) (hnt (Or.inr ⟨h.s.e.pO.tag,h.dm⟩)) (hnt (Or.inr ⟨h.s.vs.tag,h.dms⟩)) (hnt (Or.inr ⟨h.s.vo.tag,h.dmo⟩))
  dq:=by have:=h.dq;show c'.q≠G.s.q;rcases hs.q with e | e<;>omega
  dm:=by have:=h.dm;show c'.m≠G.s.m;rcases hs.m with e | e<;>omega
  dms:=by have:=h.dms;show c'.m≠G.s.ms;rcases hs.m with e | e<;>omega
  dmo:=by have:=h.dmo;show c'.m≠G.s.mo;rcases hs.m with e | e<;>omega
  env:=h.env.fZ hg (fun k hk=>h.own k (h.c.low hk))
  pc:=by show _=some (c'.X.map _);rw[hs.X];exact h.pc
  sl:=hsl },fun hl hb=>hb.only hg ho (by decide),hg.below hlo (fun k hk=>h.c.low hk)⟩
theorem Wc.srv {w w':World} {K:HK} {N:Nat} {G:HG} {s':lH} (h:Wc w K N G) (hc:Sv w' K.lo K.W K.D K.R s') (hg:aN (qB G.s) w w') (hs:GZ w G.s s') (htu:Jh s'.Ts) (htr:s'.Ts.map (fun t=>(t.name,t.base))=(s'.X.filter (fun x=>x.it.kind==2)).map (fun x=>(x.it.name.text,cellText x.it.base))) (htl:∀ t∈s'.Ts,K.lo≤t.blk) (hn:s'.N≤N):Wc w' K N { G with s:=s' } ∧ (∀ hl,aU w K.H 33 hl→aU w' K.H 33 hl)∧Below K.lo w w':=by
 have ho:=h.s.only
 have hnt:∀ {k:Nat},(Tag w k 0∧G.s.q≠k)∨(Tag w k 1∧G.s.m≠k)→¬ qB G.s k:=fun {k} hk hf=>by
  rcases hk with⟨ht,hne⟩ | ⟨ht,hne⟩
  ·rcases hf with((rfl | rfl) | rfl) | e | ⟨t,htt,rfl | e⟩
   ·have:=ht.uniq h.s.e.blk.tag;revert this;decide
   ·exact hne rfl
   ·have:=ht.uniq h.s.e.pO.tag;revert this;decide
   ·have:=ht.uniq (gJ h.s.t.row e);revert this;decide
   ·have:=ht.uniq (h.s.t.each t htt).tag;revert this;decide
   ·have:=ht.uniq (gJ (h.s.t.kept t htt).1 e);revert this;decide
  ·rcases hf with((rfl | rfl) | rfl) | e | ⟨t,htt,rfl | e⟩
   ·have:=ht.uniq h.s.e.blk.tag;revert this;decide
   ·have:=ht.uniq h.s.e.oD.tag;revert this;decide
   ·exact hne rfl
   ·have:=ht.uniq (gJ h.s.t.row e);revert this;decide
   ·have:=ht.uniq (h.s.t.each t htt).tag;revert this;decide
   ·have:=ht.uniq (gJ (h.s.t.kept t htt).1 e);revert this;decide
 have hlo:K.lo≤w.heap.size:=by have:=h.c.lb;have:=h.c.e.blk.lt;omega
 have JC:=h.c.e.oD.lt
 have hml:=h.c.e.pO.lt
 have Uj:∀ {k:Nat},qB G.s k→K.lo≤k:=fun {k} hk=>h.s.low h.tl hk
 refine⟨{ h with
  x:=h.x.only hg ho (by decide)
  y:=by show aU w' K.cs _ [.pointer (some ⟨s'.b,0,none⟩)];rw[hs.b];exact h.y.only hg ho (by decide)
  d:=jJ h.d hg ho (by decide)
  c:=h.c.keep hg ho (by decide) (hnt (Or.inl ⟨h.c.e.oD.tag,fun e=>h.dq e.symm⟩)) (hnt (Or.inr ⟨h.c.e.pO.tag,fun e=>h.dm e.symm⟩))
  s:=hc
  dq:=by have:=h.dq;show G.c.q≠s'.q;rcases hs.q with e | e<;>omega
  dm:=by have:=h.dm;show G.c.m≠s'.m;rcases hs.m with e | e<;>omega
  dms:=by show G.c.m≠s'.ms;rw[hs.ms];exact h.dms
  dmo:=by show G.c.m≠s'.mo;rw[hs.mo];exact h.dmo
  tu:=htu,tr:=htr,tl:=htl
  env:=h.env.fZ hg (fun k hk=>h.own k (Uj hk))
  px:=by show _=some (s'.X.map _);rw[hs.X];exact h.px
  sn:=hn },fun hl hb=>hb.only hg ho (by decide),hg.below hlo (fun k hk=>Uj hk)⟩
theorem Wd.srv {w w':World} {K:HK} {N:Nat} {G:HG} {s':lH} (h:Wd w K N G) (hc:Sv w' K.lo K.W K.D K.R s') (hg:aN (qB G.s) w w') (hs:GZ w G.s s') (hfin:∀ t∈s'.Ts,(t.fin=true↔∃ n∈G.dn,n.toList=t.name.toList)) (htu:Jh s'.Ts) (htr:s'.Ts.map (fun t=>(t.name,t.base))=(s'.X.filter (fun x=>x.it.kind==2)).map (fun x=>(x.it.name.text,cellText x.it.base))) (htl:∀ t∈s'.Ts,K.lo≤t.blk) (hn:s'.N≤N):Wd w' K N { G with s:=s' } ∧ (∀ hl,aU w K.H 33 hl→aU w' K.H 33 hl)∧Below K.lo w w' :=
 have r:=h.toWc.srv hc hg hs htu htr htl hn
 ⟨{ r.1 with fin:=hfin },r.2⟩
theorem Wc.done {w w':World} {K:HK} {N:Nat} {G:HG} {done':Value} {dn':List ByteArray} (h:Wc w K N G) {hl:List Value} (hh:aU w K.H 33 hl) (hc:aN (fun k=>k=K.H∨G.done.ownBlock=some k) w w') (hd:w'.ownsRow K.lo 9 1 done' dn'.length (dn'.map aY)) (hl':dn'.length≤N):Wc w' K N { G with done:=done',dn:=dn' } ∧ Below K.lo w w':=by
 have ho:Only w (fun k=>k=K.H∨G.done.ownBlock=some k) [33 + 2,9 + 2]:=(Only.nG hh.tag (by decide)).or (Only.own h.d (by decide))
 have hlo:K.lo≤w.heap.size:=by have:=h.c.lb;have:=h.c.e.blk.lt;omega
 have hnt:∀ {k t:Nat},Tag w k t→t∉[33 + 2,9 + 2]→¬ (k=K.H∨G.done.ownBlock=some k):=fun ht hne e=>hne (ho _ e _ ht)
 have Uj:∀ k,(k=K.H∨G.done.ownBlock=some k)→K.lo≤k:=fun k hk=>hk.elim (fun e=>by rw[e];exact h.bH) (fun e=>(h.d.lt k e).1)
 exact⟨{ h with
  x:=h.x.only hc ho (by decide)
  y:=h.y.only hc ho (by decide)
  d:=hd
  c:=h.c.keep hc ho (by decide) (hnt h.c.e.oD.tag (by decide)) (hnt h.c.e.pO.tag (by decide))
  s:=h.s.keep hc ho (by decide) (hnt h.s.e.oD.tag (by decide)) (hnt h.s.e.pO.tag (by decide)) (hnt h.s.vs.tag (by decide)) (hnt h.s.vo.tag (by decide))
  dl:=hl'
  env:=h.env.fZ hc (fun k hk=>h.own k (Uj k hk)) },hc.below hlo Uj⟩
theorem Wd.oL {w w':World} {K:HK} {N:Nat} {G:HG} (h:Wd w K N G) {hl:List Value} (hh:aU w K.H 33 hl) (hc:aN (fun k=>k=K.H) w w'):Wd w' K N G∧Below K.lo w w':=by
 have ho:Only w (fun k=>k=K.H) [33 + 2]:=Only.nG hh.tag (by decide)
 have hlo:K.lo≤w.heap.size:=by have:=h.c.lb;have:=h.c.e.blk.lt;omega
 have hnt:∀ {k t:Nat},Tag w k t→t ≠ 33 + 2→¬ k=K.H:=fun ht hne e=>hne (ht.uniq (e ▸ hh.tag))
 exact⟨{ h with
  x:=h.x.only hc ho (by decide)
  y:=h.y.only hc ho (by decide)
  d:=jJ h.d hc ho (by decide)
  c:=h.c.keep hc ho (by decide) (hnt h.c.e.oD.tag (by decide)) (hnt h.c.e.pO.tag (by decide))
  s:=h.s.keep hc ho (by decide) (hnt h.s.e.oD.tag (by decide)) (hnt h.s.e.pO.tag (by decide)) (hnt h.s.vs.tag (by decide)) (hnt h.s.vo.tag (by decide))
  env:=h.env.fZ hc (fun k hk=>h.own k (by rw[hk];exact h.bH)) },hc.below hlo (fun k hk=>by rw[hk];exact h.bH)⟩
def gX (w:World) (K:HK) (N:Nat) (e:Ending) (w':World):Prop:=e=.returned (.bool true)∧(∃ G',Inv w' K (N+1) G')∧Below K.lo w w'
def Js (dn:List ByteArray) (name:ByteArray):Bool:=dn.any (fun n=>n.toList==name.toList)
theorem ou (w:World) (lo H:Nat) (done:Value) (dn:List ByteArray) (hd:w.cell? ⟨H,15,none⟩=some done) (hH:H<w.heap.size) (ho:w.ownsRow lo 9 1 done dn.length (dn.map aY)) (hl:dn.length≤100000000) (name:ByteArray) :
  Calls Tryz.prog 43 #[.pointer (some ⟨H,0,none⟩),.string name] w (fun e w'=>e=.returned (.bool (Js dn name))∧Below w.heap.size w w'):=by
 obtain⟨da,dc,rfl⟩:∃ a c,done=.slice a dn.length c:=ak ho
 have HO:=hid ho
 clear ho
 go_enter func43,ntmps43
 go_wp2_with fail
 go_loopg [5] dn.length (fun gk i wr=>∃ k:Nat,k+gk=dn.length∧i=.int .i64 k∧Hid (∀ (j:Nat) (n:ByteArray),j<k→dn[j]? = some n→(n.toList==name.toList)=false)∧Below w.heap.size w wr)
 case atStart=>exact⟨0,by omega,rfl,hid (fun j n hj=>by omega),Below.refl _ _⟩
 case round=>
  obtain⟨k,hk,rfl,HA,hbel⟩:=hrel
  have hdr:wr.cell? ⟨H,15,none⟩=some (.slice da dn.length dc):=(hbel.cell (p:=⟨H,15,none⟩) hH).trans hd
  by_cases hlt:k<dn.length
  ·have oM:(k:Int)<(dn.length:Int):=by omega
   obtain⟨g,cap,hv,hgl,hgs⟩:=dM HO.out (by omega)
   obtain⟨rfl,rfl⟩:da=some ⟨g,0,none⟩∧dc=cap:=by simpa using hv
   have hck:wr.cell? ⟨g,k,none⟩=some (.string dn[k]):=by
    rw[hbel.cell (p:=⟨g,k,none⟩) hgs]
    have:=HO.out.cells (g:=g) rfl k (aY dn[k]) (by simp[List.getElem?_eq_getElem hlt])
    rw[jO _ _ rfl] at this
    simpa[aY] using this
   have HX:=hid (List.getElem?_eq_getElem hlt)
   generalize dn[k]=nk at *
   clear hv
   cases hm:(nk.toList==name.toList) with
   | false=>
    go_wp2_with fail
    go_roundg (gk-1)
    case rel=>exact⟨k+1,by omega,by go_num,hid (fun j n hj hn=>by
     rcases Nat.lt_or_ge j k with h | h
     ·exact HA.out j n h hn
     ·rw[show j=k from by omega,HX.out] at hn;simp at hn;subst hn;exact hm),hbel⟩
    case measure=>omega
   | true=>
    have HR:=hid (show Js dn name=true by
     unfold Js
     rw[List.any_eq_true]
     exact⟨nk,List.mem_of_getElem? HX.out,hm⟩)
    go_wp2_with fail
    go_ret
    exact⟨aG HR.out.symm,hbel⟩
  ·have oM:¬ (k:Int)<(dn.length:Int):=by omega
   have HR:=hid (show Js dn name=false by
    unfold Js
    rw[List.any_eq_false]
    intro n hn
    obtain⟨j,hj,rfl⟩:=List.getElem_of_mem hn
    have:=HA.out j _ (by omega) (List.getElem?_eq_getElem hj)
    simpa using this)
   go_wp2_with fail
   go_ret
   exact⟨aG HR.out.symm,hbel⟩
theorem EO (w:World) (H:Nat) (schema base v:ByteArray) (hd:w.cell? ⟨H,0,none⟩=some (.string schema)) (hs:schema.size≤400) (hv:v.size≤maxLen) (hE:Env w) (hO:∀ cb,w.heap.size≤cb→Own cb) :
  Calls Tryz.prog 44 #[.pointer (some ⟨H,0,none⟩),.string base,.string v] w (fun e w'=>∃ (E:Int) (b:List UInt8),e=.returned (.int .i64 E)∧zO schema base v E b∧Below w.heap.size w w'):=by
 have HE:=hid hE
 have HO:=hid hO
 clear hE hO
 go_enter func44,ntmps44
 go_wp2_with fail
 refine(FC schema base v w (by unfold maxLen;omega) hv HE.out HO.out).mono ?_
 rintro e w1 ⟨a,c,b,E,rfl,hb,_,hA⟩
 have HA:=hid hA
 clear hA
 go_wp2_with fail
 go_ret
 exact⟨E,b,rfl,HA.out,hb⟩
theorem WZ {s:ByteArray} {M:List iy} (h:(dD s).1=some M):∀ p∈M,p.kind≤3:=fun p hp=>by
 obtain⟨lo,hi⟩:=(vV h).1 p hp
 exact hi.k
theorem Jt (p:iy) (name:List UInt8):lU dV name (toR p)=iw 2 name p:=by
 unfold lU iw
 have h:((toR p).kind.toList==dV)=(p.kind==2):=by
  show ((oz p.kind).toList==dV)=_
  unfold oz
  by_cases h0:p.kind=0
  ·rw[if_pos h0,h0,ByteArray.toList_eq];decide
  ·by_cases h1:p.kind=1
   ·rw[if_neg h0,if_pos h1,h1,ByteArray.toList_eq];decide
   ·by_cases h2:p.kind=2
    ·rw[if_neg h0,if_neg h1,if_pos h2,h2,ByteArray.toList_eq];decide
    ·rw[if_neg h0,if_neg h1,if_neg h2,show (p.kind==2)=false by simpa using h2,ByteArray.toList_eq];decide
 rw[h];rfl
theorem PD (p:iy) (hk:p.kind≤3) (name:List UInt8):lU iE name (toR p)=iw 3 name p:=by
 unfold lU iw
 have h:((toR p).kind.toList==iE)=(p.kind==3):=by
  show ((oz p.kind).toList==iE)=_
  unfold oz
  by_cases h0:p.kind=0
  ·rw[if_pos h0,h0,ByteArray.toList_eq];decide
  ·by_cases h1:p.kind=1
   ·rw[if_neg h0,if_pos h1,h1,ByteArray.toList_eq];decide
   ·by_cases h2:p.kind=2
    ·rw[if_neg h0,if_neg h1,if_pos h2,h2,ByteArray.toList_eq];decide
    ·rw[if_neg h0,if_neg h1,if_neg h2,show (p.kind==3)=true by simp;omega,ByteArray.toList_eq];decide
 rw[h];rfl
def abe (X:List bY) (kd:Nat) (name:ByteArray) (w:World) (e:Ending) (w':World):Prop:=Below w.heap.size w w' ∧
 ((eY X kd name.toList (-1)∧e=.returned (.slice none 0 0))∨∃ (i:Nat) (x:bY) (g c n:Nat),eY X kd name.toList i∧X[i]? = some x∧e=.returned (.slice (some ⟨g,0,none⟩) n c)∧1≤n∧n≤2∧w.heap.size≤g∧g<w'.heap.size∧w'.cell? ⟨g,0,none⟩=some (.string (cellText x.it.base))∧Tag w' g (9 + 2))
theorem W9 {s kind name:ByteArray} {kd:Nat} {X:List bY} {w w':World} {e:Ending} (hk:(kind.toList=dV∧kd=2)∨(kind.toList=iE∧kd=3)) (hp:(dD s).1=some (X.map (fun x=>x.it))) (h:Hf s kind name w e w'):abe X kd name w e w':=by
 have hg:(pW s.size (fE s) [] 0).1=some ((X.map (fun x=>x.it)).map toR):=by rw[yI,hp]
 have hm:∀ x∈X,lU kind.toList name.toList (toR x.it)=iw kd name.toList x.it:=fun x hx=>by
  rcases hk with⟨h1,rfl⟩ | ⟨h1,rfl⟩
  ·rw[h1];exact Jt _ _
  ·rw[h1];exact PD _ (WZ hp _ (List.mem_map.2 ⟨x,hx,rfl⟩)) _
 have hat:∀ (j:Nat) (r:bI),((X.map (fun x=>x.it)).map toR)[j]? = some r→∃ x,X[j]? = some x∧r=toR x.it:=fun j r hr=>by
  rw[List.getElem?_map,List.getElem?_map] at hr
  obtain⟨p,hp',rfl⟩:=Option.map_eq_some_iff.1 hr
  obtain⟨x,hx,rfl⟩:=Option.map_eq_some_iff.1 hp'
  exact⟨x,hx,rfl⟩
 obtain⟨hb,h | ⟨M,i,r,v,hM,hi,hr,hall,rfl,ho⟩⟩:=h
 ·obtain⟨rfl,hno⟩:=h
  refine⟨hb,Or.inl ⟨eY.no (fun j y hy=>?_),rfl⟩⟩
  rw[← hm y (List.mem_of_getElem? hy)]
  exact hno _ hg j (toR y.it) (by rw[List.getElem?_map,List.getElem?_map,hy];rfl)
 ·rw[hg] at hM
  cases hM
  obtain⟨x,hx,rfl⟩:=hat i r hi
  have hf:eY X kd name.toList i:=eY.yes i x hx (by rw[← hm x (List.mem_of_getElem? hx)];exact hr) (fun j y hj hy=>by
   rw[← hm y (List.mem_of_getElem? hy)]
   exact hall j (toR y.it) hj (by rw[List.getElem?_map,List.getElem?_map,hy];rfl))
  have hkd:x.it.kind=kd:=by
   have:=hr
   rw[hm x (List.mem_of_getElem? hx)] at this
   unfold iw at this
   simp only[Bool.and_eq_true,beq_iff_eq] at this
   exact this.1
  have hbs:∃ l,(toR x.it).bases=cellText x.it.base::l∧l.length≤1:=by
   show ∃ l,(if x.it.kind=2 then [cellText x.it.base] else if x.it.kind=3 then [cellText x.it.base,cellText x.it.answer] else [])=_∧_
   rcases hk with⟨_,rfl⟩ | ⟨_,rfl⟩
   ·rw[if_pos hkd];exact⟨[],rfl,by simp⟩
   ·rw[if_neg (by omega),if_pos hkd];exact⟨[_],rfl,by simp⟩
  obtain⟨l,hl,hll⟩:=hbs
  rw[hl] at ho
  obtain⟨g,c,hv,h1,h2⟩:=dM ho (by simp)
  subst hv
  have hc:=ho.cells (g:=g) rfl 0 (aY (cellText x.it.base)) (by simp)
  rw[jO _ _ rfl] at hc
  exact⟨hb,Or.inr ⟨i,x,g,c,_,hf,hx,rfl,by simp,by simp;omega,h1,h2,by simpa[aY] using hc,gJ ho rfl⟩⟩
theorem eY.uniq {X:List bY} {k:Nat} {n:List UInt8} {a b:Int} (h:eY X k n a) (h':eY X k n b):a=b:=by
 cases h using eY.ind with
 | no hn=>cases h' using eY.ind with
  | no _=>rfl
  | yes j y hy hm _=>have:=hn j y hy;rw[hm] at this;cases this
 | yes i x hx hm hall=>cases h' using eY.ind with
  | no hn=>have:=hn i x hx;rw[hm] at this;cases this
  | yes j y hy hm' hall'=>
   rcases Nat.lt_trichotomy i j with h | h | h
   ·have:=hall' i x h hx;rw[hm] at this;cases this
   ·rw[h]
   ·have:=hall j y h hy;rw[hm'] at this;cases this
theorem eY.its {X Y:List bY} (h:X.map (fun x=>x.it)=Y.map (fun x=>x.it)) {k:Nat} {n:List UInt8} {a:Int} (hf:eY X k n a):eY Y k n a:=by
 have hat:∀ (j:Nat) (y:bY),Y[j]? = some y→∃ x,X[j]? = some x∧x.it=y.it:=fun j y hy=>by
  have e:(X.map (fun x=>x.it))[j]? = some y.it:=by rw[h,List.getElem?_map,hy];rfl
  rw[List.getElem?_map] at e
  obtain⟨x,hx,e⟩:=Option.map_eq_some_iff.1 e
  exact⟨x,hx,e⟩
 cases hf using eY.ind with
 | no hn=>exact eY.no (fun j y hy=>by obtain⟨x,hx,e⟩:=hat j y hy;rw[← e];exact hn j x hx)
 | yes i x hx hm hall=>
  have e:(Y.map (fun x=>x.it))[i]? = some x.it:=by rw[← h,List.getElem?_map,hx];rfl
  rw[List.getElem?_map] at e
  obtain⟨y,hy,e⟩:=Option.map_eq_some_iff.1 e
  refine eY.yes i y hy (by rw[e];exact hm) (fun j z hj hz=>?_)
  obtain⟨u,hu,e⟩:=hat j z hz
  rw[← e];exact hall j u hj hu
theorem Ju {α:Type} {R:α → α → Prop} {p:α → Bool}:∀ {l:List α},(l.filter p).Pairwise R→∀ {a b:Nat} {u v:α},a<b→l[a]? = some u→l[b]? = some v→p u=true→p v=true→R u v
 | [],_,a,b,u,v,_,hu,_,_,_=>by simp at hu
 | x::l,h,a,b,u,v,hab,hu,hv,pu,pv=>by
  cases a with
  | zero=>
   simp at hu;subst hu
   rw[List.filter_cons_of_pos pu,List.pairwise_cons] at h
   cases b with
   | zero=>omega
   | succ b=>
    simp at hv
    exact h.1 v (List.mem_filter.2 ⟨List.mem_of_getElem? hv,pv⟩)
  | succ a=>
   cases b with
   | zero=>omega
   | succ b=>
    simp at hu hv
    cases hx:p x with
    | true=>rw[List.filter_cons_of_pos hx,List.pairwise_cons] at h;exact Ju h.2 (by omega) hu hv pu pv
    | false=>rw[List.filter_cons_of_neg (by simp[hx])] at h;exact Ju h (by omega) hu hv pu pv
theorem Ba {X:List bY} {Ts:List dU} {name:ByteArray} {o:Option (Nat × dU)} (htr:Ts.map (fun t=>(t.name,t.base))=(X.filter (fun x=>x.it.kind==2)).map (fun x=>(x.it.name.text,cellText x.it.base))) (h:Named Ts name o) (hu:(X.filter (fun x=>x.it.kind==2)).Pairwise (fun a b=>a.it.name.text.toList≠b.it.name.text.toList)) :
  (o=none∧eY X 2 name.toList (-1))∨∃ (k:Nat) (t:dU) (i:Nat) (x:bY),o=some (k,t)∧Ts[k]? = some t∧t.name.toList=name.toList∧eY X 2 name.toList (i:Nat)∧X[i]? = some x∧cellText x.it.base=t.base:=by
 have hfl:∀ {i:Nat} {x:bY},X[i]? = some x→x.it.kind=2→∃ (k:Nat) (t:dU),Ts[k]? = some t∧t.name=x.it.name.text∧t.base=cellText x.it.base:=fun {i x} hx hk=>by
  have hm:x∈X.filter (fun x=>x.it.kind==2):=List.mem_filter.2 ⟨List.mem_of_getElem? hx,by simpa using hk⟩
  have hm2:(x.it.name.text,cellText x.it.base)∈Ts.map (fun t=>(t.name,t.base)):=by rw[htr];exact List.mem_map.2 ⟨x,hm,rfl⟩
  obtain⟨t,ht,e⟩:=List.mem_map.1 hm2
  obtain⟨k,hk',rfl⟩:=List.getElem_of_mem ht
  simp only[Prod.mk.injEq] at e
  exact⟨k,_,List.getElem?_eq_getElem hk',e.1,e.2⟩
 cases h using Named.ind with
 | no hno=>
  refine Or.inl ⟨rfl,eY.no (fun j y hy=>?_)⟩
  cases hc:iw 2 name.toList y.it with
  | false=>rfl
  | true=>
   unfold iw at hc
   simp only[Bool.and_eq_true,beq_iff_eq] at hc
   obtain⟨k,t,ht,hn,_⟩:=hfl hy hc.1
   exact absurd (by rw[hn];exact hc.2) (hno t (List.mem_of_getElem? ht))
 | yes k t hk hn=>
  refine Or.inr ⟨k,t,?_⟩
  have hm:(t.name,t.base)∈(X.filter (fun x=>x.it.kind==2)).map (fun x=>(x.it.name.text,cellText x.it.base)):=by rw[← htr];exact List.mem_map.2 ⟨t,List.mem_of_getElem? hk,rfl⟩
  obtain⟨x,hx,e⟩:=List.mem_map.1 hm
  simp only[Prod.mk.injEq] at e
  obtain⟨hxm,hxk⟩:=List.mem_filter.1 hx
  obtain⟨i,hi,rfl⟩:=List.getElem_of_mem hxm
  refine⟨i,X[i],rfl,hk,hn,eY.yes i X[i] (List.getElem?_eq_getElem hi) ?_ (fun j y hj hy=>?_),List.getElem?_eq_getElem hi,e.2⟩
  ·unfold iw
   rw[hxk,e.1,hn];simp
  ·cases hc:iw 2 name.toList y.it with
   | false=>rfl
   | true=>
    unfold iw at hc
    simp only[Bool.and_eq_true,beq_iff_eq] at hc
    -- two streams of one name
    have hne:∀ (a b:Nat) (u v:bY),a<b→X[a]? = some u→X[b]? = some v→u.it.kind=2→v.it.kind=2→u.it.name.text.toList≠v.it.name.text.toList:=fun a b u v hab hu' hv' ku kv=>Ju hu hab hu' hv' (by simpa using ku) (by simpa using kv)
    exact absurd (hc.2.trans (by rw[e.1,hn])) (hne j i y X[i] hj hy (List.getElem?_eq_getElem hi) hc.1 (by simpa using hxk))
def BQ (X:List bY) (kd:Nat) (name:ByteArray) (w w':World) (a:Option Addr) (n c:Nat):Prop :=
 (eY X kd name.toList (-1)∧a=none∧n=0∧c=0)∨∃ (i:Nat) (x:bY) (g:Nat),eY X kd name.toList i∧X[i]? = some x∧a=some ⟨g,0,none⟩∧1≤n∧n≤2∧g<w'.heap.size∧w'.cell? ⟨g,0,none⟩=some (.string (cellText x.it.base))∧Tag w' g (9 + 2)
theorem lV {s kind name:ByteArray} {kd:Nat} {X:List bY} (w:World) (hs:s.size≤400) (hk:(kind.toList=dV∧kd=2)∨(kind.toList=iE∧kd=3)) (hp:(dD s).1=some (X.map (fun x=>x.it))) :
  Calls Tryz.prog 41 #[.string s,.string kind,.string name] w (fun e w'=>∃ (a:Option Addr) (n c:Nat),e=.returned (.slice a n c)∧Below w.heap.size w w'∧BQ X kd name w w' a n c):=by
 refine(Jr s kind name w hs).mono ?_
 intro e w' h
 obtain⟨hb,⟨hf,rfl⟩ | ⟨i,x,g,c,n,hf,hx,rfl,h1,h2,_,h4,h5,h6⟩⟩:=W9 hk hp h
 ·exact⟨none,0,0,rfl,hb,Or.inl ⟨hf,rfl,rfl,rfl⟩⟩
 ·exact⟨_,n,c,rfl,hb,Or.inr ⟨i,x,g,hf,hx,rfl,h1,h2,h4,h5,h6⟩⟩
theorem mJ:(ByteArray.mk #[115,116,114,101,97,109]).toList=dV:=by rw[ByteArray.toList_eq];rfl
theorem TP:(ByteArray.mk #[99,97,108,108]).toList=iE:=by rw[ByteArray.toList_eq];rfl
theorem MX {Ts:List dU} {k:Nat} {t t':dU} (hk:Ts[k]? = some t) (hn:t'.name=t.name) (hb:t'.base=t.base):(Ts.set k t').map (fun t=>(t.name,t.base))=Ts.map (fun t=>(t.name,t.base)):=by
 rw[List.map_set,hn,hb]
 apply List.ext_getElem?
 intro j
 rw[List.getElem?_set]
 split
 ·rename_i e
  subst e
  rw[List.getElem?_map,hk]
  have:=iR hk
  simp[this]
 ·rfl
theorem Jv {Ts:List dU} {k:Nat} {t t':dU} {P:dU→Prop} (hk:Ts[k]? = some t) (h:∀ x∈Ts,P x) (ht:P t→P t'):∀ x∈Ts.set k t',P x:=fun x hx=>by
 rcases xX hx with rfl | ⟨j,_,hj⟩
 ·exact ht (h t (List.mem_of_getElem? hk))
 ·exact h x (List.mem_of_getElem? hj)
theorem Wc.abf {w w':World} {K:HK} {N:Nat} {G:HG} (h:Wc w K N G) (hb:Below w.heap.size w w'):Wc w' K N G :=
 {h with x:=h.x.below hb,y:=h.y.below hb,d:=au h.d (fun g hg=>hb.block g (h.d.lt g hg).2),c:=h.c.below hb,s:=h.s.below hb,env:=h.env.below hb }
theorem zk (w:World):(binOp .eql 31 (.slice none 0 0) (.slice none 0 0)).run Tryz.prog w=.ok (.bool true) w:=by
 have h1:∀ d:Nat,(Op.equalIn (d+1) 31 (.slice none 0 0) (.slice none 0 0)).run Tryz.prog w=.ok true w:=fun d=>by simp[Op.equalIn,run_underlying underlying31]
 have h2:(Op.equal 31 (.slice none 0 0) (.slice none 0 0)).run Tryz.prog w=.ok true w:=h1 9999
 simp[binOp,h2]
theorem sN (w:World) (a:Addr) (n c:Nat):(binOp .eql 31 (.slice (some a) n c) (.slice none 0 0)).run Tryz.prog w=.ok (.bool false) w:=by
 have h1:∀ d:Nat,(Op.equalIn (d+1) 31 (.slice (some a) n c) (.slice none 0 0)).run Tryz.prog w=.ok false w:=fun d=>by simp[Op.equalIn,run_underlying underlying31]
 have h2:(Op.equal 31 (.slice (some a) n c) (.slice none 0 0)).run Tryz.prog w=.ok false w:=h1 9999
 simp[binOp,h2]
theorem MZ {dn:List ByteArray} {name:ByteArray}:Js dn name=true↔∃ n∈dn,n.toList=name.toList:=by
 unfold Js
 rw[List.any_eq_true]
 constructor
 ·rintro⟨n,hn,h⟩;exact⟨n,hn,by simpa using h⟩
 ·rintro⟨n,hn,h⟩;exact⟨n,hn,by simpa using h⟩
end Go.Proofs.YtgalebcpagmohaaGreatDoor
