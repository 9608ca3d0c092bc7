/- What a row's list of laid variables gives. -/
import Derived.Test.YtopcgnjocklcoaaGreatDoorMProgScan
import Derived.Test.YtopcgnjocklcoaaGreatDoorCards
import Derived.ProofKit
import Derived.OpenShut
import Derived.LaidMore
import Derived.Lay
import Derived.SevenTiedAt
import Derived.Stop.Joined
import Derived.Carry
import Derived.Deep.Slices
import Derived.Test.YtopcgnjocklcoaaGreatDoorMEncT
import Derived.Lib.LaidTab
import Derived.Test.YtopcgnjocklcoaaGreatDoorMFrA
namespace Go.Proofs.YtopcgnjocklcoaaGreatDoor
open Go.ChangeShapes Go.WideShapes Go.ChangeAt Go.RowKit Go.Deep
theorem laid_mem {P:Program} {w:World}:∀ {l:List (String × DataW Unit)} {ps:List MemPlace},DataW.LaidVars P w l ps → ∀ x ∈ l,∃ g t cs fuel p,P.globalNamed x.1 = some g ∧ (P.globals[g]?).map (·.type) = some t ∧ w.var? P x.1 = some cs ∧ DataW.trod (fun _=>()) P w 0 (fun _=>true) false fuel t cs.toList = some (x.2,p)
 | [],_,_,x,hx=>by simp at hx
 | (n,d) :: r,ps,h,x,hx=>by
  obtain ⟨g,t,cs,fuel,p,q,h1,h2,h3,h4,h5,_⟩:=h
  rcases List.mem_cons.1 hx with rfl | hx
  ·exact ⟨g,t,cs,fuel,p,h1,h2,h3,h4⟩
  ·exact laid_mem h5 x hx
theorem laid_iface {P:Program} {w:World} {l:List (String × DataW Unit)} {n s:String} {d:DataW Unit} {g:Nat} {t:TypeId} {ms:Array (String × TypeId)} (h:laidMet P l w) (hx:(n,DataW.iface s d) ∈ l) (hg:P.globalNamed n = some g) (ht:(P.globals[g]?).map (·.type) = some t) (hu:P.underlying t = some (.interface ms)) :
  ∃ te pe,w.cell? ⟨g,0,none⟩ = some (.iface te pe):=by
 obtain ⟨ps,hl,_⟩:=h
 obtain ⟨g',t',cs,fuel,p,h1,h2,h3,h4⟩:=laid_mem hl _ hx
 obtain rfl:=Option.some.inj (hg.symm.trans h1)
 obtain rfl:=Option.some.inj (ht.symm.trans h2)
 have hc:=World.var?_cell h1 h3 0
 obtain ⟨l⟩:=cs
 cases fuel with
 | zero=>simp [DataW.trod] at h4
 | succ fuel =>
  simp only [DataW.trod,hu] at h4
  match l,h4,hc with
  | [.iface u v],_,hc=>exact ⟨u,v,by simpa using hc⟩
  | [.nilIface],h4,_=>simp at h4
theorem gSyntax:Tryz.prog.globalNamed "strconv.ErrSyntax" = some 1:=by kernel_rfl
theorem gRange:Tryz.prog.globalNamed "strconv.ErrRange" = some 2:=by kernel_rfl
theorem tSyntax:(Tryz.prog.globals[1]?).map (·.type) = some 162:=by kernel_rfl
theorem tRange:(Tryz.prog.globals[2]?).map (·.type) = some 162:=by kernel_rfl
theorem vars_in {W:World} {l:List (String × DataW Unit)} {s1 s2:String} {d1 d2:DataW Unit} (h:laidMet Tryz.prog l W) (h1:("strconv.ErrSyntax",DataW.iface s1 d1) ∈ l) (h2:("strconv.ErrRange",DataW.iface s2 d2) ∈ l):Vars W:=by
 obtain ⟨te,pe,hs⟩:=laid_iface h h1 gSyntax tSyntax Tryz.underlying162
 obtain ⟨tf,pf,hr⟩:=laid_iface h h2 gRange tRange Tryz.underlying162
 exact ⟨⟨te,pe,hs⟩,⟨tf,pf,hr⟩,World.block_lt_of_cell? _ _ hs,World.block_lt_of_cell? _ _ hr⟩
end Go.Proofs.YtopcgnjocklcoaaGreatDoor
namespace Go.Proofs.YtopcgnjocklcoaaGreatDoor
open Go.ChangeShapes Go.WideShapes Go.ChangeAt Go.RowKit Go.Deep
theorem tTab:(Tryz.prog.globals[0]?).map (·.type) = some 250:=by kernel_rfl
theorem cellsTab:Tryz.prog.cellsOf 250 = 20:=by kernel_rfl
theorem cellsU64:Tryz.prog.cellsOf 113 = 1:=by kernel_rfl
theorem env_in {W:World} {l:List (String × DataW Unit)} {s1 s2:String} {d1 d2:DataW Unit} (h:laidMet Tryz.prog l W) (h1:("strconv.ErrSyntax",DataW.iface s1 d1) ∈ l) (h2:("strconv.ErrRange",DataW.iface s2 d2) ∈ l) (h3:("internal/strconv.uint64pow10",Lib.tabData .u64 Lib.pow10Tab) ∈ l):Env W:=by
 have hv:=vars_in h h1 h2
 obtain ⟨ps,hl,_⟩:=h
 obtain ⟨g',t',cs,fuel,p,e1,e2,e3,e4⟩:=laid_mem hl _ h3
 obtain rfl:=Option.some.inj (gTab.symm.trans e1)
 obtain rfl:=Option.some.inj (tTab.symm.trans e2)
 have hcs:=Lib.cells_of_tab Tryz.underlying250 Tryz.underlying113 cellsU64 cellsTab e4
 have hc:=World.var?_cell e1 e3 0
 refine ⟨hv,?_,?_⟩
 ·unfold Lib.TabIs
  rw [e3,← hcs]
 ·have hc1:W.cell? ⟨0,0,none⟩ = some (.int .u64 1):=by rw [hc,← Array.getElem?_toList,hcs];rfl
  exact World.block_lt_of_cell? _ _ hc1
theorem Env.own {w:World} (h:Env w):∀ cb,w.heap.size ≤ cb → Own cb:=fun cb hcb=>by
 have h1:=h.v.lt1
 have h2:=h.v.lt2
 have h3:=h.lt
 exact ⟨by omega,by omega,by omega⟩
end Go.Proofs.YtopcgnjocklcoaaGreatDoor
namespace Go.Proofs.YtopcgnjocklcoaaGreatDoor
open Go.RowKit
structure OpV where
 K:Int
 A:Int
 B:Int
 C:Int
 D:Int
 S:ByteArray
 T:ByteArray
 V:ByteArray
structure OpAt (w:World) (b o:Nat) (x:OpV):Prop where
 c0:w.cell? ⟨b,o,none⟩ = some (.int .i64 x.K)
 c1:w.cell? ⟨b,o + 1,none⟩ = some (.int .i64 x.A)
 c2:w.cell? ⟨b,o + 2,none⟩ = some (.int .i64 x.B)
 c3:w.cell? ⟨b,o + 3,none⟩ = some (.int .i64 x.C)
 c4:w.cell? ⟨b,o + 4,none⟩ = some (.int .i64 x.D)
 c5:w.cell? ⟨b,o + 5,none⟩ = some (.string x.S)
 c6:w.cell? ⟨b,o + 6,none⟩ = some (.string x.T)
 c7:w.cell? ⟨b,o + 7,none⟩ = some (.string x.V)
 s:x.S.size ≤ maxLen
 t:x.T.size ≤ maxLen
 v:x.V.size ≤ maxLen
theorem OpAt.below {w w':World} {b o:Nat} {x:OpV} {B:Nat} (h:OpAt w b o x) (hb:Below B w w') (hB:b < B):OpAt w' b o x :=
 ⟨(hb.cell hB).trans h.c0,(hb.cell hB).trans h.c1,(hb.cell hB).trans h.c2,(hb.cell hB).trans h.c3,(hb.cell hB).trans h.c4,(hb.cell hB).trans h.c5,(hb.cell hB).trans h.c6,(hb.cell hB).trans h.c7,h.s,h.t,h.v⟩
structure Scr (w:World) (sa:Option Addr) (L:List OpV):Prop where
 at_:0 < L.length → ∃ b off,sa = some ⟨b,off,none⟩ ∧ b < w.heap.size ∧ ∀ k (hk:k < L.length),OpAt w b (off + k * 8) L[k]
 a:∀ x ∈ L,-9223372036854775808 ≤ x.A ∧ x.A ≤ 9223372036854775807
 sum:(L.map fun x=>x.V.size + 1).sum ≤ 3000000
theorem Scr.below {w w':World} {sa:Option Addr} {L:List OpV} (h:Scr w sa L) (hb:Below w.heap.size w w'):Scr w' sa L :=
 ⟨fun h0=>by
  obtain ⟨b,off,e,hbl,hall⟩:=h.at_ h0
  exact ⟨b,off,e,Nat.lt_of_lt_of_le hbl hb.size,fun k hk=>(hall k hk).below hb hbl⟩,h.a,h.sum⟩
def soFar (L:List OpV) (k:Nat):Nat:=((L.take k).map fun x=>x.V.size + 1).sum
theorem soFar_succ (L:List OpV) (k:Nat) (hk:k < L.length):soFar L (k + 1) = soFar L k + (L[k].V.size + 1):=by
 unfold soFar
 rw [List.take_succ_eq_append_getElem hk,List.map_append,List.sum_append];simp
theorem sum_take_le:∀ (l:List Nat) (k:Nat),(l.take k).sum ≤ l.sum
 | [],k=>by simp
 | x :: r,0=>by simp
 | x :: r,k + 1=>by have:=sum_take_le r k;simp;omega
theorem soFar_le (L:List OpV) (k:Nat):soFar L k ≤ (L.map fun x=>x.V.size + 1).sum:=by
 unfold soFar;rw [List.map_take];exact sum_take_le _ _
end Go.Proofs.YtopcgnjocklcoaaGreatDoor
namespace Go.Proofs.YtopcgnjocklcoaaGreatDoor
open Go.ChangeShapes Go.WideShapes Go.ChangeAt Go.RowKit Go.Deep
theorem bulk_part {H:Type} {d:DataW H} {l:List (DataW H)} (h:d ∈ l):Rows.uptoBulk d ≤ Rows.uptoBulkAll l:=by
 induction l with
 | nil=>cases h
 | cons x r ih =>
  simp only [Rows.uptoBulkAll]
  cases List.mem_cons.1 h with
  | inl e=>subst e;omega
  | inr e=>have:=ih e;omega
theorem bulk_all {H:Type}:∀ (l:List (DataW H)) (L:List OpV),l.length = L.length → (∀ (i:Nat) (d:DataW H) (x:OpV),l[i]? = some d → L[i]? = some x → x.V.size + 1 ≤ Rows.uptoBulk d) → (L.map fun x=>x.V.size + 1).sum ≤ Rows.uptoBulkAll l
 | [],[],_,_=>by simp [Rows.uptoBulkAll]
 | d :: r,x :: R,hl,h=>by
  have h0:=h 0 d x rfl rfl
  have h1:=bulk_all r R (by simpa using hl) (fun i d' x' hd hx=>h (i + 1) d' x' (by simpa using hd) (by simpa using hx))
  simp only [Rows.uptoBulkAll,List.map_cons,List.sum_cons]
  omega
 | [],x :: R,hl,_=>by simp at hl
 | d :: r,[],hl,_=>by simp at hl
section
variable {H:Type} {enc:TypeId × Value → H}
theorem cells8:Tryz.prog.cellsOf 34 = 8:=by kernel_rfl
theorem cells1I:Tryz.prog.cellsOf 3 = 1:=by kernel_rfl
theorem cells1S:Tryz.prog.cellsOf 9 = 1:=by kernel_rfl
theorem int_in {W:World} {k:Nat} {v:Value} {y:DataW H × List MemPlace} (h:DataW.trod enc Tryz.prog W 0 (fun _=>true) true k 3 [v] = some y):∃ z,v = .int .i64 z ∧ -9223372036854775808 ≤ z ∧ z ≤ 9223372036854775807:=by
 obtain ⟨z,e,_,hz⟩:=DataW.trod_int Tryz.underlying3 h
 exact ⟨z,by simpa using e,bounds_i64 hz⟩
theorem str_in {W:World} {k:Nat} {v:Value} {y:DataW H × List MemPlace} (h:DataW.trod enc Tryz.prog W 0 (fun _=>true) true k 9 [v] = some y):∃ s:ByteArray,v = .string s ∧ s.size ≤ maxLen ∧ y.1 = .lit (.string s.data.toList):=by
 obtain ⟨s,e,e2,hs⟩:=DataW.trod_string Tryz.underlying9 h
 exact ⟨s,by simpa using e,hs,by rw [e2]⟩
set_option maxRecDepth 100000 in
theorem op_in {W:World} {b o k:Nat} {cs:List Value} {d:DataW H} {p:List MemPlace} (hl:cs.length = 8) (hc:∀ j,j < 8 → W.cell? ⟨b,o + j,none⟩ = cs[j]?) (h:DataW.trod enc Tryz.prog W 0 (fun _=>true) true k 34 cs = some (d,p)) :
  ∃ x,OpAt W b o x ∧ (-9223372036854775808 ≤ x.A ∧ x.A ≤ 9223372036854775807) ∧ x.V.size + 1 ≤ Rows.uptoBulk d:=by
 obtain ⟨xs,k',_,hx,_,hxl,hf⟩:=DataW.trod_struct Tryz.underlying34 h
 match cs,hl with
 | [v0,v1,v2,v3,v4,v5,v6,v7],_ =>
  have hxl8:xs.length = 8:=hxl
  match xs,hxl8 with
  | [y0,y1,y2,y3,y4,y5,y6,y7],_ =>
   have g0:=hf 0 _ rfl
   have g1:=hf 1 _ rfl
   have g2:=hf 2 _ rfl
   have g3:=hf 3 _ rfl
   have g4:=hf 4 _ rfl
   have g5:=hf 5 _ rfl
   have g6:=hf 6 _ rfl
   have g7:=hf 7 _ rfl
   simp [cells1I,cells1S] at g0 g1 g2 g3 g4 g5 g6 g7
   obtain ⟨z0,rfl,_⟩:=int_in g0
   obtain ⟨z1,rfl,hz1⟩:=int_in g1
   obtain ⟨z2,rfl,_⟩:=int_in g2
   obtain ⟨z3,rfl,_⟩:=int_in g3
   obtain ⟨z4,rfl,_⟩:=int_in g4
   obtain ⟨s5,rfl,h5,_⟩:=str_in g5
   obtain ⟨s6,rfl,h6,_⟩:=str_in g6
   obtain ⟨s7,rfl,h7,e7⟩:=str_in g7
   refine ⟨⟨z0,z1,z2,z3,z4,s5,s6,s7⟩,⟨hc 0 (by omega),hc 1 (by omega),hc 2 (by omega),hc 3 (by omega),hc 4 (by omega),hc 5 (by omega),hc 6 (by omega),hc 7 (by omega),h5,h6,h7⟩,hz1,?_⟩
   simp only [Prod.mk.injEq] at hx
   rw [hx.1]
   have hm:y7.1 ∈ [y0,y1,y2,y3,y4,y5,y6,y7].map (·.1):=by simp
   have h1:=bulk_part hm
   rw [e7] at h1
   simp only [Rows.uptoBulk,Array.length_toList] at h1 ⊢
   show s7.size + 1 ≤ _
   have h2:s7.data.size = s7.size:=rfl
   omega
set_option maxRecDepth 100000 in
theorem scr_in {W:World} {v:Value} {d:DataW H} {p:List MemPlace} (h:∃ n,DataW.trod enc Tryz.prog W 0 (fun _=>true) true n 22 [v] = some (d,p)) (hd:Rows.uptoBulk d ≤ 1048576):∃ sa L cap,v = .slice sa L.length cap ∧ L.length ≤ 3000000 ∧ Scr W sa L:=by
 obtain ⟨n,h⟩:=h
 rcases open_slice Tryz.underlying22 h with ⟨hc,_⟩ | ⟨a,len,cap,m,k,D,Pl,hc,_,hl,hm,hmm,hx,hall⟩
 ·simp only [List.cons.injEq,and_true] at hc
  exact ⟨none,[],0,hc,by simp,⟨fun h0=>absurd h0 (by simp),fun x hx=>by simp at hx,by simp⟩⟩
 ·simp only [List.cons.injEq,and_true] at hc
  simp only [if_true] at hmm
  subst hmm
  rw [cells8] at hall
  have each:∀ i,i < m → ∃ cs',W.cells? 0 (a.add (i * 8)) 8 = some cs' ∧ DataW.trod enc Tryz.prog W 0 (fun _=>true) true k 34 cs' = some (D i,Pl i):=hall
  clear hall
  obtain ⟨b,off,spot⟩:=a
  simp only [Prod.mk.injEq] at hx
  rw [hx.1] at hd
  simp only [Rows.uptoBulk] at hd
  have hspot:0 < m → spot = none:=fun h0=>by
   obtain ⟨cs',h1,_⟩:=each 0 h0
   obtain ⟨_,hlen,hcell⟩:=World.cells?_some h1
   have:=hcell 0 (by omega)
   rw [Addr.add,if_pos (by simp),Addr.add,if_pos (by simp)] at this
   exact World.cell?_spot (this.trans (List.getElem?_eq_getElem (by omega)))
  have hone:∀ i,i < len → ∃ x,(spot = none → OpAt W b (off + i * 8) x) ∧ (-9223372036854775808 ≤ x.A ∧ x.A ≤ 9223372036854775807) ∧ x.V.size + 1 ≤ Rows.uptoBulk (D i):=fun i hi=>by
   obtain ⟨cs',h1,h2⟩:=each i (by omega)
   obtain ⟨_,hlen,hcell⟩:=World.cells?_some h1
   have hs:=hspot (by omega)
   subst hs
   rw [add_plain] at hcell
   obtain ⟨x,hx1,hx2,hx3⟩:=op_in (b:=b) (o:=off + i * 8) hlen (fun j hj=>by
    have:=hcell j hj
    rw [add_plain] at this
    exact this) h2
   exact ⟨x,fun _=>hx1,hx2,hx3⟩
  haveI:Inhabited OpV:=⟨⟨0,0,0,0,0,ByteArray.empty,ByteArray.empty,ByteArray.empty⟩⟩
  obtain ⟨f,hf⟩:=choose_lt (n:=len) (p:=fun i x=>(spot = none → OpAt W b (off + i * 8) x) ∧ (-9223372036854775808 ≤ x.A ∧ x.A ≤ 9223372036854775807) ∧ x.V.size + 1 ≤ Rows.uptoBulk (D i)) hone
  have hsum:(((List.range len).map f).map fun x=>x.V.size + 1).sum ≤ Rows.uptoBulkAll ((List.range len).map D):=bulk_all _ _ (by simp) (fun i d x hd hx=>by
   have hi:i < len:=by
    have:=(List.getElem?_eq_some_iff.1 hd).1
    simpa using this
   rw [List.getElem?_map,List.getElem?_range hi] at hd hx
   simp only [Option.map_some,Option.some.injEq] at hd hx
   rw [← hd,← hx]
   exact (hf i hi).2.2)
  have hlenle:len ≤ (((List.range len).map f).map fun x=>x.V.size + 1).sum:=by
   have:∀ (l:List OpV),l.length ≤ (l.map fun x=>x.V.size + 1).sum:=fun l=>by
    induction l with
    | nil=>simp
    | cons x r ih=>simp;omega
   have h1:=this ((List.range len).map f)
   simpa using h1
  refine ⟨some ⟨b,off,spot⟩,(List.range len).map f,m,by rw [hc];simp,by simp;omega,⟨fun h0=>?_,fun x hx=>?_,by omega⟩⟩
  ·have hl0:0 < len:=by simpa using h0
   have hs:=hspot (by omega)
   subst hs
   refine ⟨b,off,rfl,World.block_lt_of_cell? _ _ ((hf 0 hl0).1 rfl).c0,fun i hi=>?_⟩
   have hi':i < len:=by simpa using hi
   have e:((List.range len).map f)[i] = f i:=by simp
   rw [e]
   exact (hf i hi').1 rfl
  ·obtain ⟨i,hi,rfl⟩:=List.mem_map.1 hx
   exact (hf i (by simpa using hi)).2.1
end
end Go.Proofs.YtopcgnjocklcoaaGreatDoor
