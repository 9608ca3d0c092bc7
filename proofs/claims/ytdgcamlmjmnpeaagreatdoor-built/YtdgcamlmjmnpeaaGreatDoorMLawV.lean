/- What a row's list of laid variables gives. -/
import Derived.Test.YtdgcamlmjmnpeaaGreatDoorMProgScan
import Derived.Test.YtdgcamlmjmnpeaaGreatDoorCards
import Derived.ProofKit
import Derived.OpenShut
import Derived.LaidMore
import Derived.Lay
import Derived.SevenTiedAt
import Derived.Stop.Joined
import Derived.Carry
import Derived.Deep.Slices
import Derived.Test.YtdgcamlmjmnpeaaGreatDoorMEncT
import Derived.Lib.LaidTab
namespace Go.Proofs.YtdgcamlmjmnpeaaGreatDoor
open Go.ChangeShapes Go.WideShapes Go.ChangeAt Go.RowKit Go.Deep
theorem laid_mem {P:Program} {w:World}:∀ {l:List (String × DataW Unit)} {ps:List MemPlace},DataW.LaidVars P w l ps → ∀ x ∈ l,∃ g t cs fuel p,P.globalNamed x.1 = some g ∧ (P.globals[g]?).map (·.type) = some t ∧ w.var? P x.1 = some cs ∧ DataW.trod (fun _=>()) P w 0 (fun _=>true) false fuel t cs.toList = some (x.2,p)
 | [],_,_,x,hx=>by simp at hx
 | (n,d) :: r,ps,h,x,hx=>by
  obtain ⟨g,t,cs,fuel,p,q,h1,h2,h3,h4,h5,_⟩:=h
  rcases List.mem_cons.1 hx with rfl | hx
  ·exact ⟨g,t,cs,fuel,p,h1,h2,h3,h4⟩
  ·exact laid_mem h5 x hx
theorem laid_iface {P:Program} {w:World} {l:List (String × DataW Unit)} {n s:String} {d:DataW Unit} {g:Nat} {t:TypeId} {ms:Array (String × TypeId)} (h:laidMet P l w) (hx:(n,DataW.iface s d) ∈ l) (hg:P.globalNamed n = some g) (ht:(P.globals[g]?).map (·.type) = some t) (hu:P.underlying t = some (.interface ms)) :
  ∃ te pe,w.cell? ⟨g,0,none⟩ = some (.iface te pe):=by
 obtain ⟨ps,hl,_⟩:=h
 obtain ⟨g',t',cs,fuel,p,h1,h2,h3,h4⟩:=laid_mem hl _ hx
 obtain rfl:=Option.some.inj (hg.symm.trans h1)
 obtain rfl:=Option.some.inj (ht.symm.trans h2)
 have hc:=World.var?_cell h1 h3 0
 obtain ⟨l⟩:=cs
 cases fuel with
 | zero=>simp [DataW.trod] at h4
 | succ fuel =>
  simp only [DataW.trod,hu] at h4
  match l,h4,hc with
  | [.iface u v],_,hc=>exact ⟨u,v,by simpa using hc⟩
  | [.nilIface],h4,_=>simp at h4
theorem gSyntax:Tryz.prog.globalNamed "strconv.ErrSyntax" = some 1:=by kernel_rfl
theorem gRange:Tryz.prog.globalNamed "strconv.ErrRange" = some 2:=by kernel_rfl
theorem tSyntax:(Tryz.prog.globals[1]?).map (·.type) = some 164:=by kernel_rfl
theorem tRange:(Tryz.prog.globals[2]?).map (·.type) = some 164:=by kernel_rfl
theorem vars_in {W:World} {l:List (String × DataW Unit)} {s1 s2:String} {d1 d2:DataW Unit} (h:laidMet Tryz.prog l W) (h1:("strconv.ErrSyntax",DataW.iface s1 d1) ∈ l) (h2:("strconv.ErrRange",DataW.iface s2 d2) ∈ l):Vars W:=by
 obtain ⟨te,pe,hs⟩:=laid_iface h h1 gSyntax tSyntax Tryz.underlying164
 obtain ⟨tf,pf,hr⟩:=laid_iface h h2 gRange tRange Tryz.underlying164
 exact ⟨⟨te,pe,hs⟩,⟨tf,pf,hr⟩,World.block_lt_of_cell? _ _ hs,World.block_lt_of_cell? _ _ hr⟩
end Go.Proofs.YtdgcamlmjmnpeaaGreatDoor
namespace Go.Proofs.YtdgcamlmjmnpeaaGreatDoor
open Go.ChangeShapes Go.WideShapes Go.ChangeAt Go.RowKit Go.Deep
theorem tTab:(Tryz.prog.globals[0]?).map (·.type) = some 248:=by kernel_rfl
theorem cellsTab:Tryz.prog.cellsOf 248 = 20:=by kernel_rfl
theorem cellsU64:Tryz.prog.cellsOf 167 = 1:=by kernel_rfl
theorem env_in {W:World} {l:List (String × DataW Unit)} {s1 s2:String} {d1 d2:DataW Unit} (h:laidMet Tryz.prog l W) (h1:("strconv.ErrSyntax",DataW.iface s1 d1) ∈ l) (h2:("strconv.ErrRange",DataW.iface s2 d2) ∈ l) (h3:("internal/strconv.uint64pow10",Lib.tabData .u64 Lib.pow10Tab) ∈ l):Env W:=by
 have hv:=vars_in h h1 h2
 obtain ⟨ps,hl,_⟩:=h
 obtain ⟨g',t',cs,fuel,p,e1,e2,e3,e4⟩:=laid_mem hl _ h3
 obtain rfl:=Option.some.inj (gTab.symm.trans e1)
 obtain rfl:=Option.some.inj (tTab.symm.trans e2)
 have hcs:=Lib.cells_of_tab Tryz.underlying248 Tryz.underlying167 cellsU64 cellsTab e4
 have hc:=World.var?_cell e1 e3 0
 refine ⟨hv,?_,?_⟩
 ·unfold Lib.TabIs
  rw [e3,← hcs]
 ·have hc1:W.cell? ⟨0,0,none⟩ = some (.int .u64 1):=by rw [hc,← Array.getElem?_toList,hcs];rfl
  exact World.block_lt_of_cell? _ _ hc1
theorem Env.own {w:World} (h:Env w):∀ cb,w.heap.size ≤ cb → Own cb:=fun cb hcb=>by
 have h1:=h.v.lt1
 have h2:=h.v.lt2
 have h3:=h.lt
 exact ⟨by omega,by omega,by omega⟩
end Go.Proofs.YtdgcamlmjmnpeaaGreatDoor
