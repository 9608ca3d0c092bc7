/- A script of knocks that came in: what its reading gives. -/
import Derived.Test.YtgalebcpagmohaaGreatDoorMDDoors
import Derived.Test.YtgalebcpagmohaaGreatDoorMFrA
import Derived.ProofKit
import Derived.OpenShut
import Derived.Carry
import Derived.Deep.Slices
set_option linter.unusedSimpArgs false
set_option linter.unusedVariables false
set_option maxRecDepth 100000
namespace Go.Proofs.YtgalebcpagmohaaGreatDoor
open Go.Proofs.Tryz
open Go.ChangeShapes Go.WideShapes Go.ChangeAt Go.RowKit Go.Deep
theorem xI {H:Type} {d:DataW H} {l:List (DataW H)} (h:d∈l):Rows.uptoBulk d≤Rows.uptoBulkAll l:=by
 induction l with
 | nil=>cases h
 | cons x r ih=>
  simp only[Rows.uptoBulkAll]
  cases List.mem_cons.1 h with
  | inl e=>subst e;omega
  | inr e=>have:=ih e;omega
theorem Ht {H:Type}:∀ (l:List (DataW H)) (L:List ZL),l.length=L.length→(∀ (i:Nat) (d:DataW H) (x:ZL),l[i]? = some d→L[i]? = some x→x.S.size+1≤Rows.uptoBulk d)→(L.map fun x=>x.S.size+1).sum≤Rows.uptoBulkAll l
 | [],[],_,_=>by simp[Rows.uptoBulkAll]
 | d::r,x::R,hl,h=>by
  have h0:=h 0 d x rfl rfl
  have h1:=Ht r R (by simpa using hl) (fun i d' x' hd hx=>h (i+1) d' x' (by simpa using hd) (by simpa using hx))
  simp only[Rows.uptoBulkAll,List.map_cons,List.sum_cons]
  omega
 | [],x::R,hl,_=>by simp at hl
 | d::r,[],hl,_=>by simp at hl
section
variable {H:Type} {enc:TypeId × Value→H}
theorem Zh:Tryz.prog.cellsOf 43 = 4:=by kernel_rfl
theorem Xx:Tryz.prog.cellsOf 3 = 1:=by kernel_rfl
theorem Xy:Tryz.prog.cellsOf 9 = 1:=by kernel_rfl
theorem QG {W:World} {k:Nat} {v:Value} {y:DataW H × List MemPlace} (h:DataW.trod enc Tryz.prog W 0 (fun _=>true) true k 3 [v]=some y):∃ z,v=.int .i64 z ∧ -9223372036854775808≤z∧z≤9223372036854775807:=by
 obtain⟨z,e,_,hz⟩:=DataW.trod_int underlying3 h
 exact⟨z,by simpa using e,bounds_i64 hz⟩
theorem QI {W:World} {k:Nat} {v:Value} {y:DataW H × List MemPlace} (h:DataW.trod enc Tryz.prog W 0 (fun _=>true) true k 9 [v]=some y):∃ s:ByteArray,v=.string s∧s.size≤maxLen∧y.1=.lit (.string s.data.toList):=by
 obtain⟨s,e,e2,hs⟩:=DataW.trod_string underlying9 h
 exact⟨s,by simpa using e,hs,by rw[e2]⟩
theorem adT {W:World} {b o k:Nat} {cs:List Value} {d:DataW H} {p:List MemPlace} (hl:cs.length=4) (hc:∀ j,j<4→W.cell? ⟨b,o+j,none⟩=cs[j]?) (h:DataW.trod enc Tryz.prog W 0 (fun _=>true) true k 43 cs=some (d,p)) (hd:Rows.uptoBulk d≤1048576) :
  ∃ x,PW W b o x∧x.S.size+1≤Rows.uptoBulk d:=by
 obtain⟨xs,k',_,hx,_,hxl,hf⟩:=DataW.trod_struct underlying43 h
 match cs,hl with
 | [v0,v1,v2,v3],_=>
  have ahc:xs.length=4:=hxl
  match xs,ahc with
  | [y0,y1,y2,y3],_=>
   have g0:=hf 0 _ rfl
   have g1:=hf 1 _ rfl
   have g2:=hf 2 _ rfl
   have g3:=hf 3 _ rfl
   simp[Xx,Xy] at g0 g1 g2 g3
   obtain⟨z0,rfl,_⟩:=QG g0
   obtain⟨z1,rfl,_⟩:=QG g1
   obtain⟨s2,rfl,_,e2⟩:=QI g2
   obtain⟨s3,rfl,_,e3⟩:=QI g3
   simp only[Prod.mk.injEq] at hx
   have hm2:y2.1∈[y0,y1,y2,y3].map (·.1):=by simp
   have QW:y3.1∈[y0,y1,y2,y3].map (·.1):=by simp
   have h2:=xI hm2
   have h3:=xI QW
   rw[e2] at h2
   rw[e3] at h3
   rw[hx.1] at hd ⊢
   simp only[Rows.uptoBulk,Array.length_toList] at h2 h3 hd ⊢
   have f2:s2.data.size=s2.size:=rfl
   have f3:s3.data.size=s3.size:=rfl
   exact⟨⟨z0,z1,s2,s3⟩,⟨hc 0 (by omega),hc 1 (by omega),hc 2 (by omega),hc 3 (by omega),by show s2.size≤1900000;omega,by show s3.size≤1900000;omega⟩,by show s2.size+1≤_;omega⟩
theorem Zi {W:World} {v:Value} {d:DataW H} {p:List MemPlace} (h:∃ n,DataW.trod enc Tryz.prog W 0 (fun _=>true) true n 23 [v]=some (d,p)) (hd:Rows.uptoBulk d≤1048576):∃ sa L cap,v=.slice sa L.length cap∧L.length≤3000000∧adQ W sa L:=by
 obtain⟨n,h⟩:=h
 rcases open_slice underlying23 h with⟨hc,_⟩ | ⟨a,len,cap,m,k,D,Pl,hc,_,hl,hm,hmm,hx,hall⟩
 ·simp only[List.cons.injEq,and_true] at hc
  exact⟨none,[],0,hc,by simp,fun h0=>absurd h0 (by simp)⟩
 ·simp only[List.cons.injEq,and_true] at hc
  simp only[if_true] at hmm
  subst hmm
  rw[Zh] at hall
  have each:∀ i,i<m→∃ cs',W.cells? 0 (a.add (i*4)) 4=some cs'∧DataW.trod enc Tryz.prog W 0 (fun _=>true) true k 43 cs'=some (D i,Pl i):=hall
  clear hall
  obtain⟨b,off,spot⟩:=a
  simp only[Prod.mk.injEq] at hx
  rw[hx.1] at hd
  simp only[Rows.uptoBulk] at hd
  have hspot:0<m→spot=none:=fun h0=>by
   obtain⟨cs',h1,_⟩:=each 0 h0
   obtain⟨_,hlen,hcell⟩:=World.cells?_some h1
   have:=hcell 0 (by omega)
   rw[Addr.add,if_pos (by simp),Addr.add,if_pos (by simp)] at this
   exact World.cell?_spot (this.trans (List.getElem?_eq_getElem (by omega)))
  have hone:∀ i,i<len→∃ x,(spot=none→PW W b (off+i*4) x)∧x.S.size+1≤Rows.uptoBulk (D i):=fun i hi=>by
   obtain⟨cs',h1,h2⟩:=each i (by omega)
   obtain⟨_,hlen,hcell⟩:=World.cells?_some h1
   have hs:=hspot (by omega)
   subst hs
   rw[add_plain] at hcell
   obtain⟨x,hx1,hx3⟩:=adT (b:=b) (o:=off+i*4) hlen (fun j hj=>by
    have:=hcell j hj
    rw[add_plain] at this
    exact this) h2 (Nat.le_trans (xI (List.mem_map.2 ⟨i,List.mem_range.2 (by omega),rfl⟩)) (by omega))
   exact⟨x,fun _=>hx1,hx3⟩
  haveI:Inhabited ZL:=⟨⟨0,0,ByteArray.empty,ByteArray.empty⟩⟩
  obtain⟨f,hf⟩:=choose_lt (n:=len) (p:=fun i x=>(spot=none→PW W b (off+i*4) x)∧x.S.size+1≤Rows.uptoBulk (D i)) hone
  have hsum:(((List.range len).map f).map fun x=>x.S.size+1).sum≤Rows.uptoBulkAll ((List.range len).map D):=Ht _ _ (by simp) (fun i d x hd hx=>by
   have hi:i<len:=by
    have:=(List.getElem?_eq_some_iff.1 hd).1
    simpa using this
   rw[List.getElem?_map,List.getElem?_range hi] at hd hx
   simp only[Option.map_some,Option.some.injEq] at hd hx
   rw[← hd,← hx]
   exact(hf i hi).2)
  have ahd:len≤(((List.range len).map f).map fun x=>x.S.size+1).sum:=by
   have:∀ (l:List ZL),l.length≤(l.map fun x=>x.S.size+1).sum:=fun l=>by
    induction l with
    | nil=>simp
    | cons x r ih=>simp;omega
   have h1:=this ((List.range len).map f)
   simpa using h1
  refine⟨some ⟨b,off,spot⟩,(List.range len).map f,m,by rw[hc];simp,by simp;omega,fun h0=>?_⟩
  ·have hl0:0<len:=by simpa using h0
   have hs:=hspot (by omega)
   subst hs
   refine⟨b,off,rfl,World.block_lt_of_cell? _ _ ((hf 0 hl0).1 rfl).c0,fun i hi=>?_⟩
   have hi':i<len:=by simpa using hi
   have e:((List.range len).map f)[i]=f i:=by simp
   rw[e]
   exact(hf i hi').1 rfl
end
end Go.Proofs.YtgalebcpagmohaaGreatDoor
