/- What a row's list of laid variables gives. -/
import Derived.Test.YtgalebcpagmohaaGreatDoorMProgScan
import Derived.Test.YtgalebcpagmohaaGreatDoorCards
import Derived.ProofKit
import Derived.OpenShut
import Derived.LaidMore
import Derived.Lay
import Derived.SevenTiedAt
import Derived.Stop.Joined
import Derived.Carry
import Derived.Deep.Slices
import Derived.Test.YtgalebcpagmohaaGreatDoorMEncT
import Derived.Lib.LaidTab
namespace Go.Proofs.YtgalebcpagmohaaGreatDoor
open Go.Proofs.Tryz
open Go.ChangeShapes Go.WideShapes Go.ChangeAt Go.RowKit Go.Deep
theorem EP {P:Program} {w:World}:∀ {l:List (String × DataW Unit)} {ps:List MemPlace},DataW.LaidVars P w l ps→∀ x∈l,∃ g t cs fuel p,P.globalNamed x.1=some g∧(P.globals[g]?).map (·.type)=some t∧w.var? P x.1=some cs∧DataW.trod (fun _=>()) P w 0 (fun _=>true) false fuel t cs.toList=some (x.2,p)
 | [],_,_,x,hx=>by simp at hx
 | (n,d)::r,ps,h,x,hx=>by
  obtain⟨g,t,cs,fuel,p,q,h1,h2,h3,h4,h5,_⟩:=h
  rcases List.mem_cons.1 hx with rfl | hx
  ·exact⟨g,t,cs,fuel,p,h1,h2,h3,h4⟩
  ·exact EP h5 x hx
theorem ER {P:Program} {w:World} {l:List (String × DataW Unit)} {n s:String} {d:DataW Unit} {g:Nat} {t:TypeId} {ms:Array (String × TypeId)} (h:laidMet P l w) (hx:(n,DataW.iface s d)∈l) (hg:P.globalNamed n=some g) (ht:(P.globals[g]?).map (·.type)=some t) (hu:P.underlying t=some (.interface ms)) :
  ∃ te pe,w.cell? ⟨g,0,none⟩=some (.iface te pe):=by
 obtain⟨ps,hl,_⟩:=h
 obtain⟨g',t',cs,fuel,p,h1,h2,h3,h4⟩:=EP hl _ hx
 obtain rfl:=Option.some.inj (hg.symm.trans h1)
 obtain rfl:=Option.some.inj (ht.symm.trans h2)
 have hc:=World.var?_cell h1 h3 0
 obtain⟨l⟩:=cs
 cases fuel with
 | zero=>simp[DataW.trod] at h4
 | succ fuel=>
  simp only[DataW.trod,hu] at h4
  match l,h4,hc with
  | [.iface u v],_,hc=>exact⟨u,v,by simpa using hc⟩
  | [.nilIface],h4,_=>simp at h4
theorem Zj:Tryz.prog.globalNamed "strconv.ErrSyntax" = some 0:=by kernel_rfl
theorem abE:Tryz.prog.globalNamed "strconv.ErrRange" = some 1:=by kernel_rfl
theorem Zk:(Tryz.prog.globals[0]?).map (·.type)=some 141:=by kernel_rfl
theorem abG:(Tryz.prog.globals[1]?).map (·.type)=some 141:=by kernel_rfl
theorem Zl {W:World} {l:List (String × DataW Unit)} {s1 s2:String} {d1 d2:DataW Unit} (h:laidMet Tryz.prog l W) (h1:("strconv.ErrSyntax",DataW.iface s1 d1)∈l) (h2:("strconv.ErrRange",DataW.iface s2 d2)∈l):Vars W:=by
 obtain⟨te,pe,hs⟩:=ER h h1 Zj Zk underlying141
 obtain⟨tf,pf,hr⟩:=ER h h2 abE abG underlying141
 exact⟨⟨te,pe,hs⟩,⟨tf,pf,hr⟩,World.block_lt_of_cell? _ _ hs,World.block_lt_of_cell? _ _ hr⟩
theorem ahe:(Tryz.prog.globals[2]?).map (·.type)=some 356:=by kernel_rfl
theorem Xz:Tryz.prog.cellsOf 356 = 20:=by kernel_rfl
theorem XA:Tryz.prog.cellsOf 22 = 1:=by kernel_rfl
theorem abH {W:World} {l:List (String × DataW Unit)} {s1 s2:String} {d1 d2:DataW Unit} (h:laidMet Tryz.prog l W) (h1:("strconv.ErrSyntax",DataW.iface s1 d1)∈l) (h2:("strconv.ErrRange",DataW.iface s2 d2)∈l) (h3:("internal/strconv.uint64pow10",Lib.tabData .u64 Lib.pow10Tab)∈l):Env W:=by
 have hv:=Zl h h1 h2
 obtain⟨ps,hl,_⟩:=h
 obtain⟨g',t',cs,fuel,p,e1,e2,e3,e4⟩:=EP hl _ h3
 obtain rfl:=Option.some.inj (gTab.symm.trans e1)
 obtain rfl:=Option.some.inj (ahe.symm.trans e2)
 have hcs:=Lib.cells_of_tab underlying356 underlying22 XA Xz e4
 have hc:=World.var?_cell e1 e3 0
 refine⟨hv,?_,?_⟩
 ·unfold Lib.TabIs
  rw[e3,← hcs]
 ·have hc1:W.cell? ⟨2,0,none⟩=some (.int .u64 1):=by rw[hc,← Array.getElem?_toList,hcs];rfl
  exact World.block_lt_of_cell? _ _ hc1
theorem Env.own {w:World} (h:Env w):∀ cb,w.heap.size≤cb→Own cb:=fun cb hcb=>by
 have h1:=h.v.X7
 have h2:=h.v.X8
 have h3:=h.lt
 exact⟨by omega,by omega,by omega⟩
end Go.Proofs.YtgalebcpagmohaaGreatDoor
