/- What a row's list of laid variables gives. -/
import Derived.Test.YtkpfplbmmglkkaaGreatDoorCards
import Derived.Test.YtkpfplbmmglkkaaGreatDoorV47
import Derived.Test.YtkpfplbmmglkkaaGreatDoorTie
import Derived.LaidMore
import Derived.Lay
import Derived.SevenTiedAt
import Derived.Stop.Joined
import Derived.Deep.Slices
import Derived.Lib.LaidTab
set_option linter.all false
set_option maxRecDepth 100000
namespace Go.Proofs.YtkpfplbmmglkkaaGreatDoor
open Go.Proofs.Tryz
open Go.ChangeShapes Go.WideShapes Go.ChangeAt Go.RowKit Go.Deep
theorem BA{P:Program}{w:World}:∀ {l:List (String × DataW Unit)} {ps:List MemPlace},DataW.LaidVars P w l ps→∀ x∈l,∃ g t cs yE p,P.globalNamed x.1=some g∧(P.globals[g]?).map (·.type)=some t∧w.var? P x.1=some cs∧DataW.trod (fun _=>()) P w 0 (fun _=>true) false yE t cs.toList=some (x.2,p)
 | [],_,_,x,hx=>by simp at hx
 | (n,d)::r,ps,h,x,hx=>by
  obtain⟨g,t,cs,yE,p,q,h1,h2,h3,h4,h5,_⟩:=h
  rcases List.mem_cons.1 hx with rfl | hx
  ·exact⟨g,t,cs,yE,p,h1,h2,h3,h4⟩
  ·exact BA h5 x hx
theorem BC{P:Program}{w:World}{l:List (String × DataW Unit)}{n s:String}{d:DataW Unit}{g:Nat}{t:TypeId}{ms:Array (String × TypeId)}(h:laidMet P l w)(hx:(n,DataW.iface s d)∈l)(hg:P.globalNamed n=some g)(ht:(P.globals[g]?).map (·.type)=some t)(hu:P.underlying t=some (.interface ms)):
  ∃ te pe,w.cell? ⟨g,0,none⟩=some (.iface te pe):=by
 obtain⟨ps,hl,_⟩:=h;obtain⟨g',t',cs,yE,p,h1,h2,h3,h4⟩:=BA hl _ hx;obtain rfl:=Option.some.inj (hg.symm.trans h1);obtain rfl:=Option.some.inj (ht.symm.trans h2);have hc:=World.var?_cell h1 h3 0;obtain⟨l⟩:=cs
 cases yE with
 | zero=>simp[DataW.trod] at h4
 | succ yE=>
  simp only[DataW.trod,hu] at h4
  match l,h4,hc with
  | [.iface u v],_,hc=>exact⟨u,v,by simpa using hc⟩
  | [.nilIface],h4,_=>simp at h4
theorem Yg:Tryz.prog.globalNamed "strconv.ErrSyntax" = some 1:=by kernel_rfl
theorem ac4:Tryz.prog.globalNamed "strconv.ErrRange" = some 2:=by kernel_rfl
theorem Yh:(Tryz.prog.globals[1]?).map (·.type)=some 167:=by kernel_rfl
theorem ac5:(Tryz.prog.globals[2]?).map (·.type)=some 167:=by kernel_rfl
theorem Yi{W:World}{l:List (String × DataW Unit)}{s1 s2:String}{d1 d2:DataW Unit}(h:laidMet Tryz.prog l W)(h1:("strconv.ErrSyntax",DataW.iface s1 d1)∈l)(h2:("strconv.ErrRange",DataW.iface s2 d2)∈l):Vars W:=by
 obtain⟨te,pe,hs⟩:=BC h h1 Yg Yh underlying167;obtain⟨tf,pf,hr⟩:=BC h h2 ac4 ac5 underlying167;exact⟨⟨te,pe,hs⟩,⟨tf,pf,hr⟩,World.block_lt_of_cell? _ _ hs,World.block_lt_of_cell? _ _ hr⟩
theorem an6:(Tryz.prog.globals[0]?).map (·.type)=some 254:=by kernel_rfl
theorem UU:Tryz.prog.cellsOf 254=20:=by kernel_rfl
theorem UW:Tryz.prog.cellsOf 52=1:=by kernel_rfl
theorem ac6{W:World}{l:List (String × DataW Unit)}{s1 s2:String}{d1 d2:DataW Unit}(h:laidMet Tryz.prog l W)(h1:("strconv.ErrSyntax",DataW.iface s1 d1)∈l)(h2:("strconv.ErrRange",DataW.iface s2 d2)∈l)(h3:("internal/strconv.uint64pow10",Lib.tabData .u64 Lib.pow10Tab)∈l):mR W:=by
 have hv:=Yi h h1 h2;obtain⟨ps,hl,_⟩:=h;obtain⟨g',t',cs,yE,p,e1,e2,e3,e4⟩:=BA hl _ h3;obtain rfl:=Option.some.inj (V5.symm.trans e1);obtain rfl:=Option.some.inj (an6.symm.trans e2);have BF:=Lib.cells_of_tab underlying254 underlying52 UW UU e4;have hc:=World.var?_cell e1 e3 0;refine⟨hv,?_,?_⟩
 ·unfold Lib.TabIs
  rw[e3,← BF]
 ·have jk:W.cell? ⟨0,0,none⟩=some (.int .u64 1):=by rw[hc,← Array.getElem?_toList,BF];rfl
  exact World.block_lt_of_cell? _ _ jk
theorem mR.own{w:World}(h:mR w):∀ cb,w.heap.size≤cb→KK cb:=fun cb yR=>by
 have h1:=h.v.lt1;have h2:=h.v.lt2;have h3:=h.lt;exact⟨by omega,by omega,by omega⟩
end Go.Proofs.YtkpfplbmmglkkaaGreatDoor
namespace Go.Proofs.YtkpfplbmmglkkaaGreatDoor.cursored
open Go.Proofs.Tryz
open Go.ChangeShapes Go.WideShapes Go.ChangeAt Go.RowKit Go.Deep
theorem UX:ownKnob Tryz.prog.godebug=none:=by kernel_rfl
theorem DY:(Rows.cursoredRow.laid.all fun x=>x.2.handleName?.isNone)=true:=by kernel_rfl
theorem ac7{W:World}(h:laidMetH Tryz.prog Rows.cursoredRow.laid W):mR W:=by
 rw[MakeChecks.laidMetH_plain _ _ _ DY] at h;exact ac6 h (by unfold Rows.cursoredRow;simp only[List.mem_cons];repeat (first | exact Or.inl rfl | refine Or.inr ?_)) (by unfold Rows.cursoredRow;simp only[List.mem_cons];repeat (first | exact Or.inl rfl | refine Or.inr ?_)) (by unfold Rows.cursoredRow;simp only[List.mem_cons];repeat (first | exact Or.inl rfl | refine Or.inr ?_))
theorem ac8(os:Os)(started:os.Started)(H:Type)(enc:TypeId × Value→H):
  ReturnsInHanded {} Tryz.checked os 3 .any (fun w args=>(Rows.cursoredSpec.pre enc Tryz.prog Tryz.f3 Rows.cursoredRow.domain false w args∧laidMetH Tryz.prog Rows.cursoredRow.laid w)∧sizedMet enc Tryz.prog Tryz.f3 (OpenSpec.ofChange Rows.cursoredSpec) false w args)
   (Rows.cursoredSpec.post enc Tryz.prog Tryz.f3 false true false false):=by
 refine returnsInHanded_of_change_and (C:=Tryz.checked) (X:=fun w _=>laidMetH Tryz.prog Rows.cursoredRow.laid w) (fun _ _ _ hh h=>h.of_heap hh) UX started (by kernel_rfl) func3
  (ChangeSpec.witness_shaped (enc:=enc) (C:=Tryz.checked) (os:=os) (X:=fun w _=>laidMetH Tryz.prog Rows.cursoredRow.laid w) false (World.laidAll Tryz.prog os Rows.cursoredRow.laid) #[.int .i64 0,.int .i64 0,.int .i64 0,.int .i64 0,.int .i64 0,.bool false] 8 (World.laidAll_os _ _ _)
   (World.shaped_of_ZipB (by kernel_rfl) (by kernel_rfl)) (by kernel_rfl) (by kernel_rfl) (by kernel_rfl)
   (by rw[MakeChecks.laidMetH_plain _ _ _ DY];exact laidMet_laidAll _ (by kernel_rfl) (by kernel_rfl))) ?_
 intro W base args ds gs bz ah6 hW _ _ hL _;have hW':=hW;obtain⟨p,q,hA0,hV,rfl,_,_⟩:=hW;have hA:DataW.TrodAll enc Tryz.prog W 0 (fun _=>true) true Tryz.f3.params.toList args.toList ds p:=hA0;have ou:∀ (j:Nat) t v,Tryz.f3.params[j]? = some t→args[j]? = some v→Value.okWide Tryz.prog W .any base t v:=ah6
 rw[params3] at hA ou;obtain⟨v0,v1,v2,v3,v4,v5,d0,d1,d2,d3,d4,d5,p0,p1,p2,p3,p4,p5,rfl,rfl,rfl,h0,h1,h2,h3,h4,h5⟩:=Gc hA;obtain⟨rfl,rfl⟩:=trodVars_none hV;obtain⟨wi,rfl,rfl,rfl,bwi⟩:=open_int underlying3 (ou 0 3 v0 rfl rfl) h0;obtain⟨re,rfl,rfl,rfl,bre⟩:=open_int underlying3 (ou 1 3 v1 rfl rfl) h1;obtain⟨co,rfl,rfl,rfl,bco⟩:=open_int underlying3 (ou 2 3 v2 rfl rfl) h2;obtain⟨ta,rfl,rfl,rfl,bta⟩:=open_int underlying3 (ou 3 3 v3 rfl rfl) h3;obtain⟨mo,rfl,rfl,rfl,bmo⟩:=open_int underlying3 (ou 4 3 v4 rfl rfl) h4;obtain⟨rs,rfl,rfl,rfl⟩:=open_bool underlying4 (ou 5 4 v5 rfl rfl) h5;simp only[List.append_nil] at hW';refine(FL wi re co ta mo rs (bounds_i64 bwi) (bounds_i64 bre) (bounds_i64 bco) (bounds_i64 bta) (bounds_i64 bmo) W (ac7 hL)).mono fun e W' ⟨he,hb⟩=>?_
 subst he;exact⟨_,rfl,⟨_,_,_,[],([]++([]++([]++([]++([]++[]))))),[],hW',trodAll_mk1 (shut_bool underlying4 _),Gd (shut_int underlying3 bwi) (shut_int underlying3 bre) (shut_int underlying3 bco) (shut_int underlying3 bta) (shut_int underlying3 bmo) (shut_bool underlying4 rs),rfl,hb.frame _,fun h=>by cases h⟩⟩
end Go.Proofs.YtkpfplbmmglkkaaGreatDoor.cursored
