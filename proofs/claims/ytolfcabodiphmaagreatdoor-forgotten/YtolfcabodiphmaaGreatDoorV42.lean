/- Five arguments that came in. -/
import Derived.Test.YtolfcabodiphmaaGreatDoorV00
import Derived.ProofKit
import Derived.OpenShut
import Derived.Carry
import Derived.Test.YtolfcabodiphmaaGreatDoorV05
import Derived.Test.YtolfcabodiphmaaGreatDoorCards
import Derived.LaidMore
import Derived.Lay
import Derived.SevenTiedAt
import Derived.Stop.Joined
import Derived.Deep.Slices
import Derived.Test.YtolfcabodiphmaaGreatDoorV11
import Derived.Lib.LaidTab
set_option linter.unusedSimpArgs false
set_option linter.unusedVariables false
namespace Go.Proofs.YtolfcabodiphmaaGreatDoor
open Go.Proofs.Tryz
open Go.ChangeShapes Go.WideShapes Go.ChangeAt Go.RowKit
section
variable {H:Type} {enc:TypeId × Value→H} {P:Program} {w:World} {base:Nat} {spare:Nat→Bool} {held:Bool}
theorem IG{t0 t1 t2 t3 t4:TypeId}{args:Array Value}{ds:List (DataW H)}{ps:List MemPlace}(h:DataW.TrodAll enc P w base spare held [t0,t1,t2,t3,t4] args.toList ds ps):
  ∃ v0 v1 v2 v3 v4 d0 d1 d2 d3 d4 p0 p1 p2 p3 p4,args=#[v0,v1,v2,v3,v4]∧ds=[d0,d1,d2,d3,d4]∧ps=p0++(p1++(p2++(p3++p4)))∧DataW.Trod enc P w base spare held t0 v0 d0 p0∧DataW.Trod enc P w base spare held t1 v1 d1 p1∧DataW.Trod enc P w base spare held t2 v2 d2 p2∧DataW.Trod enc P w base spare held t3 v3 d3 p3∧DataW.Trod enc P w base spare held t4 v4 d4 p4:=by
 obtain⟨v0,vs0,d0,ds0,p0,q0,e0,f0,g0,h0,r0⟩:=trodAll_cons h
 obtain⟨v1,vs1,d1,ds1,p1,q1,e1,f1,g1,h1,r1⟩:=trodAll_cons r0
 obtain⟨v2,vs2,d2,ds2,p2,q2,e2,f2,g2,h2,r2⟩:=trodAll_cons r1
 obtain⟨v3,vs3,d3,ds3,p3,q3,e3,f3,g3,h3,r3⟩:=trodAll_cons r2
 obtain⟨v4,vs4,d4,ds4,p4,q4,e4,f4,g4,h4,r4⟩:=trodAll_cons r3
 obtain⟨e6,f6,g6⟩:=trodAll_nil r4
 subst e6 f6 g6 e4 f4 g4 e3 f3 g3 e2 f2 g2 e1 f1 g1 f0 g0
 exact⟨v0,v1,v2,v3,v4,d0,d1,d2,d3,d4,p0,p1,p2,p3,p4,by rw[← Array.toArray_toList (xs:=args),e0],rfl,by simp,h0,h1,h2,h3,h4⟩
theorem La{t0 t1 t2 t3 t4:TypeId}{v0 v1 v2 v3 v4:Value}{d0 d1 d2 d3 d4:DataW H}{p0 p1 p2 p3 p4:List MemPlace}(h0:DataW.Trod enc P w base spare held t0 v0 d0 p0)(h1:DataW.Trod enc P w base spare held t1 v1 d1 p1)(h2:DataW.Trod enc P w base spare held t2 v2 d2 p2)(h3:DataW.Trod enc P w base spare held t3 v3 d3 p3)(h4:DataW.Trod enc P w base spare held t4 v4 d4 p4):
  DataW.TrodAll enc P w base spare held [t0,t1,t2,t3,t4] [v0,v1,v2,v3,v4] [d0,d1,d2,d3,d4] (p0++(p1++(p2++(p3++p4)))) :=
 trodAll_cons_mk h0 (trodAll_cons_mk h1 (trodAll_cons_mk h2 (trodAll_cons_mk h3 (trodAll_mk1 h4))))
end
end Go.Proofs.YtolfcabodiphmaaGreatDoor
namespace Go.Proofs.YtolfcabodiphmaaGreatDoor
open Go.Proofs.Tryz
open Go.ChangeShapes Go.WideShapes Go.ChangeAt Go.RowKit Go.Deep
theorem DL{P:Program}{w:World}:∀ {l:List (String × DataW Unit)} {ps:List MemPlace},DataW.LaidVars P w l ps→∀ x∈l,∃ g t cs fuel p,P.globalNamed x.1=some g∧(P.globals[g]?).map (·.type)=some t∧w.var? P x.1=some cs∧DataW.trod (fun _=>()) P w 0 (fun _=>true) false fuel t cs.toList=some (x.2,p)
 | [],_,_,x,hx=>by simp at hx
 | (n,d)::r,ps,h,x,hx=>by
  obtain⟨g,t,cs,fuel,p,q,h1,h2,h3,h4,h5,_⟩:=h
  rcases List.mem_cons.1 hx with rfl | hx
  ·exact⟨g,t,cs,fuel,p,h1,h2,h3,h4⟩
  ·exact DL h5 x hx
theorem DN{P:Program}{w:World}{l:List (String × DataW Unit)}{n s:String}{d:DataW Unit}{g:Nat}{t:TypeId}{ms:Array (String × TypeId)}(h:laidMet P l w)(hx:(n,DataW.iface s d)∈l)(hg:P.globalNamed n=some g)(ht:(P.globals[g]?).map (·.type)=some t)(hu:P.underlying t=some (.interface ms)):
  ∃ te pe,w.cell? ⟨g,0,none⟩=some (.iface te pe):=by
 obtain⟨ps,hl,_⟩:=h
 obtain⟨g',t',cs,fuel,p,h1,h2,h3,h4⟩:=DL hl _ hx
 obtain rfl:=Option.some.inj (hg.symm.trans h1)
 obtain rfl:=Option.some.inj (ht.symm.trans h2)
 have hc:=World.var?_cell h1 h3 0
 obtain⟨l⟩:=cs
 cases fuel with
 | zero=>simp[DataW.trod] at h4
 | succ fuel=>
  simp only[DataW.trod,hu] at h4
  match l,h4,hc with
  | [.iface u v],_,hc=>exact⟨u,v,by simpa using hc⟩
  | [.nilIface],h4,_=>simp at h4
theorem Z8:Tryz.prog.globalNamed "strconv.ErrSyntax" = some 3:=by kernel_rfl
theorem ac1:Tryz.prog.globalNamed "strconv.ErrRange" = some 4:=by kernel_rfl
theorem Z9:(Tryz.prog.globals[3]?).map (·.type)=some 232:=by kernel_rfl
theorem ac2:(Tryz.prog.globals[4]?).map (·.type)=some 232:=by kernel_rfl
theorem aac{W:World}{l:List (String × DataW Unit)}{s1 s2:String}{d1 d2:DataW Unit}(h:laidMet Tryz.prog l W)(h1:("strconv.ErrSyntax",DataW.iface s1 d1)∈l)(h2:("strconv.ErrRange",DataW.iface s2 d2)∈l):Vars W:=by
 obtain⟨te,pe,hs⟩:=DN h h1 Z8 Z9 underlying232
 obtain⟨tf,pf,hr⟩:=DN h h2 ac1 ac2 underlying232
 exact⟨⟨te,pe,hs⟩,⟨tf,pf,hr⟩,World.block_lt_of_cell? _ _ hs,World.block_lt_of_cell? _ _ hr⟩
theorem akG:(Tryz.prog.globals[0]?).map (·.type)=some 283:=by kernel_rfl
theorem Xn:Tryz.prog.cellsOf 283 = 20:=by kernel_rfl
theorem Xo:Tryz.prog.cellsOf 55 = 1:=by kernel_rfl
theorem ac3{W:World}{l:List (String × DataW Unit)}{s1 s2:String}{d1 d2:DataW Unit}(h:laidMet Tryz.prog l W)(h1:("strconv.ErrSyntax",DataW.iface s1 d1)∈l)(h2:("strconv.ErrRange",DataW.iface s2 d2)∈l)(h3:("internal/strconv.uint64pow10",Lib.tabData .u64 Lib.pow10Tab)∈l):Env W:=by
 have hv:=aac h h1 h2
 obtain⟨ps,hl,_⟩:=h
 obtain⟨g',t',cs,fuel,p,e1,e2,e3,e4⟩:=DL hl _ h3
 obtain rfl:=Option.some.inj (gTab.symm.trans e1)
 obtain rfl:=Option.some.inj (akG.symm.trans e2)
 have hcs:=Lib.cells_of_tab underlying283 underlying55 Xo Xn e4
 have hc:=World.var?_cell e1 e3 0
 refine⟨hv,?_,?_⟩
 ·unfold Lib.TabIs
  rw[e3,← hcs]
 ·have hc1:W.cell? ⟨0,0,none⟩=some (.int .u64 1):=by rw[hc,← Array.getElem?_toList,hcs];rfl
  exact World.block_lt_of_cell? _ _ hc1
theorem Env.own{w:World}(h:Env w):∀ cb,w.heap.size≤cb→Own cb:=fun cb hcb=>by
 have h1:=h.v.X6
 have h2:=h.v.X7
 have h3:=h.lt
 exact⟨by omega,by omega,by omega⟩
end Go.Proofs.YtolfcabodiphmaaGreatDoor
