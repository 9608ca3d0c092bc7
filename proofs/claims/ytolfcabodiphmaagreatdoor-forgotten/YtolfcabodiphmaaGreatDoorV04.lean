/- A deframer in memory, and one byte more for it. -/
import Derived.Test.YtolfcabodiphmaaGreatDoorV00
import Derived.Deep.MidRow
import Derived.Deep.RegionWith
import Derived.Test.YtolfcabodiphmaaGreatDoorV03
import Derived.Test.YtolfcabodiphmaaGreatDoorShelfD
set_option linter.unusedSimpArgs false
set_option linter.unusedVariables false
set_option maxHeartbeats 4000000
set_option maxRecDepth 100000
namespace Go.Proofs.YtolfcabodiphmaaGreatDoor
open Go.Proofs.Tryz
open Go.RowKit
theorem pR{b:Nat}{T:TypeId}:∀ (vs:List Value) (o:Nat) (w:World) (cur:Array Value),w.heap[b]? = some (.cells cur T (0,0))→o+vs.length≤cur.size →
  ∃ cur',(w.setCells b o vs).heap[b]? = some (.cells cur' T (0,0))∧cur'.toList=cur.toList.take o++vs++cur.toList.drop (o+vs.length)
 | [],o,w,cur,h,_=>⟨cur,h,by simp⟩
 | v::r,o,w,cur,h,hl=>by
  simp only[List.length_cons] at hl
  obtain⟨cur',h1,h2⟩:=pR r (o+1) (w.setCell ⟨b,o,none⟩ v) (cur.setIfInBounds o v) (heap_setCell_same w b o cur T v h) (by simp;omega)
  refine⟨cur',h1,?_⟩
  rw[h2,Array.toList_setIfInBounds]
  have e1:(cur.toList.set o v).take (o+1)=cur.toList.take o++[v]:=by
   rw[List.take_succ_eq_append_getElem (by simp;omega),List.take_set_of_le (Nat.le_refl _)]
   simp
  rw[e1,List.drop_set_of_lt (by omega),show o+1+r.length=o+(v::r).length by rw[List.length_cons];omega]
  simp
theorem mV{b:Nat}:∀ (vs:List Value) (o:Nat) (w:World) (k:Nat),k≠b→(w.setCells b o vs).heap[k]? = w.heap[k]?
 | [],_,_,_,_=>rfl
 | v::r,o,w,k,hk=>(mV r (o+1) (w.setCell ⟨b,o,none⟩ v) k hk).trans (Below.heap_setCell _ _ _ _ hk)
theorem ou{b:Nat}:∀ (vs:List Value) (o:Nat) (w:World),(w.setCells b o vs).os=w.os∧(w.setCells b o vs).tape=w.tape∧(w.setCells b o vs).output=w.output∧(w.setCells b o vs).heap.size=w.heap.size
 | [],_,_=>⟨rfl,rfl,rfl,rfl⟩
 | v::r,o,w=>by
  obtain⟨h1,h2,h3,h4⟩:=ou (b:=b) r (o+1) (w.setCell ⟨b,o,none⟩ v)
  exact⟨h1,h2,h3,h4.trans (by simp[World.setCell])⟩
theorem gZ.lower{w:World}{lo lo':Nat}{v:Value}{L:List UInt8}(h:gZ w lo v L)(hl:lo'≤lo):gZ w lo' v L:=by
 obtain⟨h1,h2⟩:=h
 refine⟨h1,?_⟩
 rcases h2 with h2 | ⟨g,cap,cur,hv,hg,r⟩
 ·exact Or.inl h2
 ·exact Or.inr ⟨g,cap,cur,hv,Nat.le_trans hl hg,r⟩
theorem gZ.grown{w w':World}{lo b:Nat}{v:Value}{L:List UInt8}(h:gZ w lo v L)(hg:w.grownBy w' (some b))(hb:b<lo):gZ w' lo v L :=
 aC h (fun g hg'=>hg.block g (h.lt g hg').2 (fun e=>by have:=(h.lt g hg').1;cases e;omega))
open Go.Conc
def eu(w:World)(lo:Nat)(v:Value)(l:List aP):Prop:=w.ownsRow lo 124 6 v l.length (dD l)
theorem eu.at{w:World}{lo:Nat}{v:Value}{l:List aP}(h:eu w lo v l){k:Nat}(hk:k<l.length):∃ ga c,v=.slice (some ⟨ga,0,none⟩) l.length c∧lo≤ga∧ga<w.heap.size∧∀ j v,(pc l[k])[j]? = some v→w.cell? ⟨ga,k*6+j,none⟩=some v:=by
 rcases h.2 with⟨_,e⟩ | ⟨ga,c,cur,hv,r⟩
 ·omega
 ·refine⟨ga,c,hv,(h.lt ga (by rw[hv];rfl)).1,(h.lt ga (by rw[hv];rfl)).2,fun j v hj=>?_⟩
  have hj6:j<6:=by
   rcases Nat.lt_or_ge j 6 with h | h
   ·exact h
   ·rw[Array.getElem?_eq_none (by simp[pc];omega)] at hj;cases hj
  have:=h.cells (g:=ga) (by rw[hv];rfl) (k*6+j) v (wK _ k j v hk hj hj6)
  rw[fE _ _ rfl] at this
  simpa using this
theorem eu.dB{F:Nat→Prop}{w w':World}{lo:Nat}{v:Value}{l:List aP}(h:eu w lo v l)(hc:aG F w w')(hf:∀ g,v.ownBlock=some g→¬ F g):eu w' lo v l:=hc.own h hf
theorem eu.below{w w':World}{lo:Nat}{v:Value}{l:List aP}(h:eu w lo v l)(hb:Below w.heap.size w w'):eu w' lo v l:=aC h (fun g hg=>hb.block g (h.lt g hg).2)
def wL(l:List aP)(f:aP→Bool)(i:Nat):Bool:=match l[i]? with | some p=>f p | none=>false
theorem XU(w:World)(lo:Nat)(v:Value)(l:List aP)(cb:Nat)(f:aP→Bool)(h:eu w lo v l)(hl:l.length≤1000)
  (hcl:∀ wr,aG (fun k=>v.ownBlock=some k) w wr→∀ p∈l,Calls Tryz.prog 201 #[.agg #[.int .u8 p.kind,.int .u64 p.token,.int .u64 p.session,.int .u64 p.number,.int .u64 p.position,.string p.data],.pointer (some ⟨cb,0,none⟩)] wr (fun e w'=>e=.returned (.bool (f p))∧Below wr.heap.size wr w')) :
  Calls Tryz.prog 212 #[v,.func (Fn.func 201) #[] #[.pointer (some ⟨cb,0,none⟩)]] w (fun e w'=>∃ z:Int,e=.returned (.int .i64 z)∧wH l.length (wL l f) z∧Below w.heap.size w w'):=by
 obtain⟨la,lc,rfl⟩:=ay h
 have HH:=hid h
 have HC:=hid hcl
 clear h hcl
 go_enter func212,ntmps212
 go_wp2_with fail
 go_loopg [5,8] l.length (fun gk t i wr=>∃ k:Nat,k+gk=l.length∧i=.int .i64 k∧Hid (∀ j,j<k→wL l f j=false)∧Below w.heap.size w wr)
 case atStart=>exact⟨0,by omega,rfl,hid (fun j hj=>by omega),Below.refl _ _⟩
 case round=>
  obtain⟨k,hk,rfl,HA,hbel⟩:=hrel
  by_cases hlt:k<l.length
  ·obtain⟨g,cap,hv,hlo,hgs,hcell⟩:=(HH.out.below hbel).at hlt
   obtain⟨rfl,rfl⟩:la=some ⟨g,0,none⟩∧lc=cap:=by simpa using hv
   have c0:wr.cell? ⟨g,k*6,none⟩=some (.int .u8 l[k].kind):=hcell 0 _ rfl
   have c1:wr.cell? ⟨g,k*6+1,none⟩=some (.int .u64 l[k].token):=hcell 1 _ rfl
   have c2:wr.cell? ⟨g,k*6+2,none⟩=some (.int .u64 l[k].session):=hcell 2 _ rfl
   have c3:wr.cell? ⟨g,k*6+3,none⟩=some (.int .u64 l[k].number):=hcell 3 _ rfl
   have c4:wr.cell? ⟨g,k*6+4,none⟩=some (.int .u64 l[k].position):=hcell 4 _ rfl
   have c5:wr.cell? ⟨g,k*6+5,none⟩=some (.string l[k].data):=hcell 5 _ rfl
   have fO:(k:Int)<(l.length:Int):=by omega
   have HF:=hid (show wL l f k=f l[k] by unfold wL;rw[List.getElem?_eq_getElem hlt])
   have HM:=hid (List.getElem_mem hlt)
   generalize l[k]=p at *
   clear hv hcell
   go_wp2_with fail
   refine(HC.out _ (aG.of_below hbel) p HM.out).mono ?_;rintro e w1 ⟨rfl,hb1⟩
   have hb2:=hbel.trans (hb1.mono hbel.size)
   clear hb1 c0 c1 c2 c3 c4 c5
   cases hm:f p with
   | false=>
    go_wp2_with fail
    go_roundg (gk-1)
    case rel=>exact⟨k+1,by omega,by go_num,hid (fun j hj=>by
     rcases Nat.lt_or_ge j k with h | h
     ·exact HA.out j h
     ·rw[show j=k from by omega];exact HF.out.trans hm),hb2⟩
    case measure=>omega
   | true=>
    go_wp2_with fail
    go_ret
    exact⟨k,rfl,Or.inl ⟨k,hlt,HF.out.trans hm,HA.out,rfl⟩,hb2⟩
  ·have fO:¬ (k:Int)<(l.length:Int):=by omega
   go_wp2_with fail
   go_ret
   exact⟨-1,rfl,Or.inr ⟨fun j hj=>HA.out j (by omega),rfl⟩,hbel⟩
theorem XV(w:World)(lo:Nat)(v:Value)(l:List aP)(cb:Nat)(f:aP→Bool)(h:eu w lo v l)(hl:l.length≤1000)
  (hcl:∀ wr,aG (fun k=>v.ownBlock=some k) w wr→∀ p∈l,Calls Tryz.prog 177 #[.agg #[.int .u8 p.kind,.int .u64 p.token,.int .u64 p.session,.int .u64 p.number,.int .u64 p.position,.string p.data],.pointer (some ⟨cb,0,none⟩)] wr (fun e w'=>e=.returned (.bool (f p))∧Below wr.heap.size wr w')) :
  Calls Tryz.prog 212 #[v,.func (Fn.func 177) #[] #[.pointer (some ⟨cb,0,none⟩)]] w (fun e w'=>∃ z:Int,e=.returned (.int .i64 z)∧wH l.length (wL l f) z∧Below w.heap.size w w'):=by
 obtain⟨la,lc,rfl⟩:=ay h
 have HH:=hid h
 have HC:=hid hcl
 clear h hcl
 go_enter func212,ntmps212
 go_wp2_with fail
 go_loopg [5,8] l.length (fun gk t i wr=>∃ k:Nat,k+gk=l.length∧i=.int .i64 k∧Hid (∀ j,j<k→wL l f j=false)∧Below w.heap.size w wr)
 case atStart=>exact⟨0,by omega,rfl,hid (fun j hj=>by omega),Below.refl _ _⟩
 case round=>
  obtain⟨k,hk,rfl,HA,hbel⟩:=hrel
  by_cases hlt:k<l.length
  ·obtain⟨g,cap,hv,hlo,hgs,hcell⟩:=(HH.out.below hbel).at hlt
   obtain⟨rfl,rfl⟩:la=some ⟨g,0,none⟩∧lc=cap:=by simpa using hv
   have c0:wr.cell? ⟨g,k*6,none⟩=some (.int .u8 l[k].kind):=hcell 0 _ rfl
   have c1:wr.cell? ⟨g,k*6+1,none⟩=some (.int .u64 l[k].token):=hcell 1 _ rfl
   have c2:wr.cell? ⟨g,k*6+2,none⟩=some (.int .u64 l[k].session):=hcell 2 _ rfl
   have c3:wr.cell? ⟨g,k*6+3,none⟩=some (.int .u64 l[k].number):=hcell 3 _ rfl
   have c4:wr.cell? ⟨g,k*6+4,none⟩=some (.int .u64 l[k].position):=hcell 4 _ rfl
   have c5:wr.cell? ⟨g,k*6+5,none⟩=some (.string l[k].data):=hcell 5 _ rfl
   have fO:(k:Int)<(l.length:Int):=by omega
   have HF:=hid (show wL l f k=f l[k] by unfold wL;rw[List.getElem?_eq_getElem hlt])
   have HM:=hid (List.getElem_mem hlt)
   generalize l[k]=p at *
   clear hv hcell
   go_wp2_with fail
   refine(HC.out _ (aG.of_below hbel) p HM.out).mono ?_;rintro e w1 ⟨rfl,hb1⟩
   have hb2:=hbel.trans (hb1.mono hbel.size)
   clear hb1 c0 c1 c2 c3 c4 c5
   cases hm:f p with
   | false=>
    go_wp2_with fail
    go_roundg (gk-1)
    case rel=>exact⟨k+1,by omega,by go_num,hid (fun j hj=>by
     rcases Nat.lt_or_ge j k with h | h
     ·exact HA.out j h
     ·rw[show j=k from by omega];exact HF.out.trans hm),hb2⟩
    case measure=>omega
   | true=>
    go_wp2_with fail
    go_ret
    exact⟨k,rfl,Or.inl ⟨k,hlt,HF.out.trans hm,HA.out,rfl⟩,hb2⟩
  ·have fO:¬ (k:Int)<(l.length:Int):=by omega
   go_wp2_with fail
   go_ret
   exact⟨-1,rfl,Or.inr ⟨fun j hj=>HA.out j (by omega),rfl⟩,hbel⟩
theorem xZ:∀ (l:List aP) (i:Nat) (p:aP),i<l.length→dD (l.set i p)=((((((dD l).set (i*6) (.int .u8 p.kind)).set (i*6+1) (.int .u64 p.token)).set (i*6+2) (.int .u64 p.session)).set (i*6+3) (.int .u64 p.number)).set (i*6+4) (.int .u64 p.position)).set (i*6+5) (.string p.data)
 | [],i,p,h=>by simp at h
 | a::r,0,p,_=>by simp[dD,pc]
 | a::r,i+1,p,h=>by
  have ih:=xZ r i p (by simpa using h)
  show (pc a).toList++dD (r.set i p)=_
  rw[ih]
  show _=(((((((pc a).toList++dD r).set ((i+1)*6) _).set _ _).set _ _).set _ _).set _ _).set _ _
  have e:(pc a).toList.length=6:=by simp[pc]
  rw[List.set_append_right _ _ (by omega),List.set_append_right _ _ (by omega),List.set_append_right _ _ (by omega),List.set_append_right _ _ (by omega),List.set_append_right _ _ (by omega),List.set_append_right _ _ (by omega),e]
  simp only[show (i+1)*6-6=i*6 by omega,show (i+1)*6+1-6=i*6+1 by omega,show (i+1)*6+2-6=i*6+2 by omega,show (i+1)*6+3-6=i*6+3 by omega,show (i+1)*6+4-6=i*6+4 by omega,show (i+1)*6+5-6=i*6+5 by omega]
theorem Og{w:World}{lo g n c:Nat}{e:TypeId}{size:Nat}{xs:List Value}(h:w.ownsRow lo e size (.slice (some ⟨g,0,none⟩) n c) n xs):n≤c:=by
 rcases h.2 with⟨hv,_⟩ | ⟨g',cap,cur,hv,_,_,h3,_⟩
 ·simp at hv
 ·obtain⟨rfl,rfl⟩:g=g'∧c=cap:=by simpa using hv
  exact h3
theorem iD{w:World}{lo g n c:Nat}{e:TypeId}{size:Nat}{xs:List Value}(h:w.ownsRow lo e size (.slice (some ⟨g,0,none⟩) n c) n xs)(i:Nat):w.frozen? ⟨g,i,none⟩=false:=by
 rcases h.2 with⟨hv,_⟩ | ⟨g',cap,cur,hv,_,hh,_⟩
 ·simp at hv
 ·obtain⟨rfl,rfl⟩:g=g'∧c=cap:=by simpa using hv
  simp[World.frozen?,hh]
theorem iE{w:World}{lo g n c o:Nat}{e:TypeId}{size:Nat}{xs:List Value}(h:w.ownsRow lo e size (.slice (some ⟨g,0,none⟩) n c) n xs)(u:Value):(w.setCell ⟨g,o,none⟩ u).ownsRow lo e size (.slice (some ⟨g,0,none⟩) n c) n (xs.set o u):=by
 obtain⟨h1,h2⟩:=h
 refine⟨by rw[List.length_set];exact h1,?_⟩
 rcases h2 with⟨hv,_⟩ | ⟨g',cap,cur,hv,hl,hh,h3,h4,h5,h6⟩
 ·simp at hv
 ·obtain⟨rfl,rfl⟩:g=g'∧c=cap:=by simpa using hv
  refine Or.inr ⟨g,c,cur.setIfInBounds o u,rfl,hl,heap_setCell_same w g o cur e u hh,h3,h4,by simp[h5],?_⟩
  rw[Array.toList_setIfInBounds,List.take_set,h6]
theorem AU(l:List aP)(i:Nat):(dD l).take (i*6)=dD (l.take i):=by
 induction l generalizing i with
 | nil=>simp[dD]
 | cons p r ih=>
  cases i with
  | zero=>simp[dD]
  | succ i=>
   show ((pc p).toList++dD r).take ((i+1)*6)=(pc p).toList++dD (r.take i)
   rw[List.take_append,← ih i]
   have e:(pc p).toList.length=6:=by simp[pc]
   rw[List.take_of_length_le (by omega),e,show (i+1)*6-6=i*6 by omega]
theorem EH{w:World}{lo g n c i:Nat}{xs:List Value}(h:w.ownsRow lo 124 6 (.slice (some ⟨g,0,none⟩) n c) n xs)(hi:i<n):∃ w',(∀ ty c',(Builtin.clear_ #[92] ty #[.slice (some ⟨g,i*6,none⟩) (n-i) c']).run Tryz.prog w=.ok (.tuple #[]) w')∧w'.ownsRow lo 124 6 (.slice (some ⟨g,0,none⟩) i c) i (xs.take (i*6))∧aG (fun k=>k=g) w w':=by
 obtain⟨h1,h2⟩:=h
 rcases h2 with⟨hv,_⟩ | ⟨g',cap,cur,hv,hl,hh,h3,h4,h5,h6⟩
 ·simp at hv
 ·obtain⟨rfl,rfl⟩:g=g'∧c=cap:=by simpa using hv
  obtain⟨m,hm⟩:∃ m,n-i=m+1:=⟨n-i-1,by omega⟩
  obtain⟨Z,hZ⟩:∃ Z,Z=(Builtin.zeroCells #[.int .u8 0,.int .u64 0,.int .u64 0,.int .u64 0,.int .u64 0,.string ⟨#[]⟩] (m+1)).toList:=⟨_,rfl⟩
  have hZl:Z.length=(m+1)*6:=by rw[hZ];simp[Builtin.zeroCells]
  have hlen:i*6+Z.length≤cur.size:=by rw[hZl,h5];omega
  have hst:=run_storeCells_cells (P:=Tryz.prog) g (i*6) Z 0 w (fun j hj=>by
   have:i*6+(0+j)<cur.size:=by omega
   simp[World.cell?,hh]
   omega) (fun j hj=>by simp[World.frozen?,hh]) (fun v hv=>by
   rw[hZ] at hv
   simp only[Builtin.zeroCells,Array.toList_map,List.mem_map] at hv
   obtain⟨q,_,rfl⟩:=hv
   have h6:q % 6<6:=Nat.mod_lt _ (by omega)
   show Value.oneCell' ((#[Value.int .u8 0,.int .u64 0,.int .u64 0,.int .u64 0,.int .u64 0,.string ⟨#[]⟩]:Array Value)[q % 6]!)=true
   generalize q % 6=r at h6
   match r,h6 with
   | 0,_=>rfl
   | 1,_=>rfl
   | 2,_=>rfl
   | 3,_=>rfl
   | 4,_=>rfl
   | 5,_=>rfl)
  simp only[Nat.add_zero] at hst
  obtain⟨cur',hc1,hc2⟩:=pR (b:=g) (T:=124) Z (i*6) w cur hh hlen
  obtain⟨r1,r2,r3,r4⟩:=ou (b:=g) Z (i*6) w
  refine⟨w.setCells g (i*6) Z,fun ty c'=>?_,⟨by rw[List.length_take,h1];omega,Or.inr ⟨g,c,cur',rfl,hl,hc1,by omega,h4,?_,?_⟩⟩,⟨r1,r2,r3,by rw[r4];exact Nat.le_refl _,fun k _ hk=>mV Z (i*6) w k hk⟩⟩
  ·rw[hm]
   simp[Builtin.clear_,run_underlying underlying92,Value.cells,← hZ,hst,Result.andThen]
  ·have:cur'.toList.length=cur.toList.length:=by rw[hc2];simp;omega
   simpa[h5] using this
  ·rw[hc2,← h6,List.take_take,List.append_assoc,List.take_append_of_le_length (by simp;omega),List.take_take]
   congr 1
   omega
structure I8(l:List aP)(f:aP→Bool)(w:World)(lo:Nat)(v:Value)(i j:Nat)(wr:World):Prop where
 row:∃ M:List aP,M.length=l.length∧M.take i=(l.take j).filter (fun p=>!f p)∧M.drop j=l.drop j∧w.heap.size≤wr.heap.size∧wr.ownsRow lo 124 6 v l.length (dD M)
 dB:aG (fun k=>v.ownBlock=some k) w wr
theorem qZ{l:List aP}{f:aP→Bool}:∀ {k:Nat},(∀ j,j<k→wL l f j=false)→k≤l.length→(l.take k).filter (fun p=>!f p)=l.take k
 | 0,_,_=>by simp
 | k+1,h,hk=>by
  have hlt:k<l.length:=by omega
  rw[List.take_add_one,List.getElem?_eq_getElem hlt,List.filter_append,qZ (fun j hj=>h j (by omega)) (by omega)]
  have:=h k (by omega)
  unfold wL at this
  rw[List.getElem?_eq_getElem hlt] at this
  simp at this
  simp[this]
theorem filter_none{l:List aP}{f:aP→Bool}(h:∀ j,j<l.length→wL l f j=false):l.filter (fun p=>!f p)=l:=by
 have:=qZ h (Nat.le_refl _)
 rwa [List.take_length] at this
theorem I8.start{l:List aP}{f:aP→Bool}{w w1:World}{lo:Nat}{v:Value}{k:Nat}(h:eu w lo v l)(hb:Below w.heap.size w w1)(hk:k<l.length)(hf:wL l f k=true)(hn:∀ j,j<k→wL l f j=false):I8 l f w lo v k (k+1) w1 :=
 ⟨⟨l,rfl,by
  rw[List.take_add_one,List.getElem?_eq_getElem hk,List.filter_append,qZ hn (by omega)]
  unfold wL at hf
  rw[List.getElem?_eq_getElem hk] at hf
  simp at hf
  simp[hf],rfl,hb.size,h.below hb⟩,aG.of_below hb⟩
theorem XW(w:World)(lo:Nat)(v:Value)(l:List aP)(cb:Nat)(f:aP→Bool)(h:eu w lo v l)(hl:l.length≤1000)
  (hcl:∀ wr,aG (fun k=>v.ownBlock=some k) w wr→∀ p∈l,Calls Tryz.prog 201 #[.agg #[.int .u8 p.kind,.int .u64 p.token,.int .u64 p.session,.int .u64 p.number,.int .u64 p.position,.string p.data],.pointer (some ⟨cb,0,none⟩)] wr (fun e w'=>e=.returned (.bool (f p))∧Below wr.heap.size wr w')) :
  Calls Tryz.prog 176 #[v,.func (Fn.func 201) #[] #[.pointer (some ⟨cb,0,none⟩)]] w (fun e w'=>∃ v',e=.returned v'∧eu w' lo v' (l.filter (fun p=>!f p))∧aG (fun k=>v.ownBlock=some k) w w'∧v'.ownBlock=v.ownBlock):=by
 obtain⟨la,lc,rfl⟩:=ay h
 have HH:=hid h
 have HC:=hid hcl
 clear h hcl
 go_enter func176,ntmps176
 go_wp2_with fail
 refine(XU w lo _ l cb f HH.out hl HC.out).mono ?_;rintro e w1 ⟨z,rfl,hz,hb1⟩
 rcases hz with⟨k,hk,hf,TT,rfl⟩ | ⟨hno,rfl⟩
 ·have hkm:((k:Int) == -1)=false:=by simp
  have hst:I8 l f w lo (.slice la l.length lc) k (k+1) w1:=I8.start HH.out hb1 hk hf TT
  have HST:=hid hst
  clear hst hf TT
  obtain⟨g,hla,ahs,hgw⟩:∃ g,la=some ⟨g,0,none⟩∧lo≤g∧g<w.heap.size:=by
   obtain⟨g,c,hv,h1,h2,_⟩:=HH.out.at hk
   exact⟨g,(by simpa using hv:la=some ⟨g,0,none⟩∧lc=c).1,h1,h2⟩
  subst hla
  go_wp2_with fail
  go_loopg [5,6,7] l.length (fun gk x y z wr=>∃ i j:Nat,j+gk=l.length+(k+1)∧j≤l.length∧x=.int .i64 i∧y=.int .i64 j∧i<j∧Hid (I8 l f w lo (.slice (some ⟨g,0,none⟩) l.length lc) i j wr))
  case atStart=>exact⟨k,k+1,by omega,by omega,rfl,by first | rfl | go_num,by omega,HST⟩
  case round=>
   obtain⟨i,j,hj,hjl,rfl,rfl,hij,HI⟩:=hrel
   by_cases hlt:j<l.length
   ·have fO:(j:Int)<(l.length:Int):=by omega
    obtain⟨M,hM1,hM2,TU,hsz,hrow⟩:=HI.out.row
    have hMj:M[j]? = l[j]?:=by
     have h1:(M.drop j)[0]? = (l.drop j)[0]?:=by rw[TU]
     simpa using h1
    have HMJ:=hid hMj
    have hPr:eu wr lo (.slice (some ⟨g,0,none⟩) l.length lc) M:=by unfold eu;rw[hM1];exact hrow
    have hjM:j<M.length:=by omega
    have hiM:i<M.length:=by omega
    obtain⟨p,hp⟩:∃ p,l[j]? = some p:=⟨l[j],List.getElem?_eq_getElem hlt⟩
    have hpj:M[j]=p:=by
     rw[List.getElem?_eq_getElem hjM,hp] at hMj
     simpa using hMj
    have hcj:=hPr.at hjM
    have hci:=hPr.at hiM
    rw[hpj] at hcj
    obtain⟨ga,_,hv1,_,_,hcj⟩:=hcj
    obtain⟨gb,_,hv2,_,_,hci⟩:=hci
    have ea:g=ga:=by simp at hv1;exact hv1.1
    have eb:g=gb:=by simp at hv2;exact hv2.1
    subst ea
    subst eb
    have c0:wr.cell? ⟨g,j*6,none⟩=some (.int .u8 p.kind):=hcj 0 _ rfl
    have c1:wr.cell? ⟨g,j*6+1,none⟩=some (.int .u64 p.token):=hcj 1 _ rfl
    have c2:wr.cell? ⟨g,j*6+2,none⟩=some (.int .u64 p.session):=hcj 2 _ rfl
    have c3:wr.cell? ⟨g,j*6+3,none⟩=some (.int .u64 p.number):=hcj 3 _ rfl
    have c4:wr.cell? ⟨g,j*6+4,none⟩=some (.int .u64 p.position):=hcj 4 _ rfl
    have c5:wr.cell? ⟨g,j*6+5,none⟩=some (.string p.data):=hcj 5 _ rfl
    have HP:=hid hp
    have HPM:=hid (List.mem_of_getElem? hp)
    have I9:=hid hrow
    have HM:=hid (And.intro hM1 (And.intro hM2 TU))
    have HCI:=hid hci
    clear hcj hci hv1 hv2 hpj hMj hPr hrow hM2 TU hp
    go_wp2_with fail
    refine(HC.out _ (HI.out.dB.alloc _) p HPM.out).mono ?_;rintro e w2 ⟨rfl,hb2⟩
    have hBv:aK w2 wr.heap.size 124 [.int .u8 p.kind,.int .u64 p.token,.int .u64 p.session,.int .u64 p.number,.int .u64 p.position,.string p.data]:=aK.below (heap_alloc_new wr _) hb2
    have hbw:Below wr.heap.size wr w2:=((Below.refl _ wr).alloc (Nat.le_refl _) _).trans (hb2.mono (by simp))
    have HC2:=hid (HI.out.dB.pI hbw)
    have HR2:=hid (aC I9.out (fun q hq=>hbw.block q (I9.out.lt q hq).2))
    have HZ2:=hid (Nat.le_trans hsz hbw.size)
    have PZ:=hid hBv
    have Hbw:=hid hbw
    clear c0 c1 c2 c3 c4 c5 hb2 hBv hbw
    cases hm:f p with
    | true=>
     go_wp2_with fail
     go_roundg (gk-1)
     case rel=>exact⟨i,j+1,by omega,by omega,rfl,by go_num,by omega,hid ⟨⟨M,HM.out.1,by rw[List.take_add_one,HP.out,List.filter_append,HM.out.2.1];simp[hm],by rw[← List.drop_drop,← List.drop_drop,HM.out.2.2],HZ2.out,HR2.out⟩,HC2.out⟩⟩
     case measure=>omega
    | false=>
     have v0:w2.cell? ⟨wr.heap.size,0,none⟩=some (.int .u8 p.kind):=PZ.out.cell 0
     have v1:w2.cell? ⟨wr.heap.size,1,none⟩=some (.int .u64 p.token):=PZ.out.cell 1
     have v2:w2.cell? ⟨wr.heap.size,2,none⟩=some (.int .u64 p.session):=PZ.out.cell 2
     have v3:w2.cell? ⟨wr.heap.size,3,none⟩=some (.int .u64 p.number):=PZ.out.cell 3
     have v4:w2.cell? ⟨wr.heap.size,4,none⟩=some (.int .u64 p.position):=PZ.out.cell 4
     have v5:w2.cell? ⟨wr.heap.size,5,none⟩=some (.string p.data):=PZ.out.cell 5
     have hgr:g<wr.heap.size:=by omega
     have hdi:∀ q v,(pc M[i])[q]? = some v→w2.cell? ⟨g,i*6+q,none⟩=some v:=fun q v hq=>(Hbw.out.cell (p:=⟨g,i*6+q,none⟩) hgr).trans (HCI.out q v hq)
     have d0:w2.cell? ⟨g,i*6,none⟩=some _:=hdi 0 _ rfl
     have d1:w2.cell? ⟨g,i*6+1,none⟩=some _:=hdi 1 _ rfl
     have d2:w2.cell? ⟨g,i*6+2,none⟩=some _:=hdi 2 _ rfl
     have d3:w2.cell? ⟨g,i*6+3,none⟩=some _:=hdi 3 _ rfl
     have d4:w2.cell? ⟨g,i*6+4,none⟩=some _:=hdi 4 _ rfl
     have d5:w2.cell? ⟨g,i*6+5,none⟩=some _:=hdi 5 _ rfl
     have hfz:=iD HR2.out
     have f0:=hfz (i*6)
     have f1:=hfz (i*6+1)
     have f2:=hfz (i*6+2)
     have f3:=hfz (i*6+3)
     have f4:=hfz (i*6+4)
     have f5:=hfz (i*6+5)
     have uS:(i:Int)<(l.length:Int):=by omega
     have hM6:i*6+6≤(dD M).length:=by rw[EF,HM.out.1];omega
     have HR3:=hid (iE (o:=i*6+5) (iE (o:=i*6+4) (iE (o:=i*6+3) (iE (o:=i*6+2) (iE (o:=i*6+1) (iE (o:=i*6) HR2.out (.int .u8 p.kind)) (.int .u64 p.token)) (.int .u64 p.session)) (.int .u64 p.number)) (.int .u64 p.position)) (.string p.data))
     rw[← xZ M i p (by rw[HM.out.1];omega)] at HR3
     have Ja:=hid ((((((HC2.out.setCell ⟨g,i*6,none⟩ (.int .u8 p.kind) (fun _=>rfl)).setCell ⟨g,i*6+1,none⟩ (.int .u64 p.token) (fun _=>rfl)).setCell ⟨g,i*6+2,none⟩ (.int .u64 p.session) (fun _=>rfl)).setCell ⟨g,i*6+3,none⟩ (.int .u64 p.number) (fun _=>rfl)).setCell ⟨g,i*6+4,none⟩ (.int .u64 p.position) (fun _=>rfl)).setCell ⟨g,i*6+5,none⟩ (.string p.data) (fun _=>rfl))
     clear hdi hfz hM6
     go_wp2_with fail
     go_roundg (gk-1)
     case rel=>exact⟨i+1,j+1,by omega,by omega,by go_num,by go_num,by omega,hid ⟨⟨M.set i p,by rw[List.length_set];exact HM.out.1,by
      have e1:(l.take (j+1)).filter (fun p=>!f p)=(l.take j).filter (fun p=>!f p)++[p]:=by
       rw[List.take_add_one,HP.out,List.filter_append]
       simp[hm]
      rw[e1,← HM.out.2.1,List.take_add_one,List.getElem?_set_self (by rw[HM.out.1];omega),List.take_set_of_le (Nat.le_refl _)]
      rfl,by
      rw[List.drop_set_of_lt (by omega),← List.drop_drop,← List.drop_drop,HM.out.2.2],Ja.out.size,HR3.out⟩,Ja.out⟩⟩
     case measure=>omega
   ·have fO:¬ (j:Int)<(l.length:Int):=by omega
    obtain⟨M,hM1,hM2,TU,hsz,hrow⟩:=HI.out.row
    obtain⟨w3,hcl,hrow3,hc3⟩:=EH hrow (show i<l.length by omega)
    have HCL:=hid (HI.out.dB)
    have ahx:(i:Int)≤(l.length:Int):=by omega
    have ahy:(i:Int)<(lc:Int):=by have:=Og hrow;omega
    have ahz:¬ lc=i:=by omega
    have ahA:¬ i=lc:=by omega
    have HM:=hid (show (dD M).take (i*6)=dD (l.filter (fun p=>!f p))∧i=(l.filter (fun p=>!f p)).length by
     have e:l.take j=l:=List.take_of_length_le (by omega)
     rw[e] at hM2
     rw[← hM2,AU]
     exact⟨rfl,by simp;omega⟩)
    have HR3:=hid hrow3
    clear hrow hrow3 hM2 TU HI
    go_wp2_with fail
    go_ret
    refine⟨_,rfl,?_,HCL.out.same (hc3.mono (fun q _ e=>by rw[e];rfl)),rfl⟩
    unfold eu
    rw[← HM.out.1,← HM.out.2]
    exact HR3.out
 ·go_wp2_with fail
  go_ret
  exact⟨_,rfl,by rw[filter_none hno];exact HH.out.below hb1,aG.of_below hb1,rfl⟩
theorem XY(w:World)(lo:Nat)(v:Value)(l:List aP)(cb:Nat)(f:aP→Bool)(h:eu w lo v l)(hl:l.length≤1000)
  (hcl:∀ wr,aG (fun k=>v.ownBlock=some k) w wr→∀ p∈l,Calls Tryz.prog 177 #[.agg #[.int .u8 p.kind,.int .u64 p.token,.int .u64 p.session,.int .u64 p.number,.int .u64 p.position,.string p.data],.pointer (some ⟨cb,0,none⟩)] wr (fun e w'=>e=.returned (.bool (f p))∧Below wr.heap.size wr w')) :
  Calls Tryz.prog 176 #[v,.func (Fn.func 177) #[] #[.pointer (some ⟨cb,0,none⟩)]] w (fun e w'=>∃ v',e=.returned v'∧eu w' lo v' (l.filter (fun p=>!f p))∧aG (fun k=>v.ownBlock=some k) w w'∧v'.ownBlock=v.ownBlock):=by
 obtain⟨la,lc,rfl⟩:=ay h
 have HH:=hid h
 have HC:=hid hcl
 clear h hcl
 go_enter func176,ntmps176
 go_wp2_with fail
 refine(XV w lo _ l cb f HH.out hl HC.out).mono ?_;rintro e w1 ⟨z,rfl,hz,hb1⟩
 rcases hz with⟨k,hk,hf,TT,rfl⟩ | ⟨hno,rfl⟩
 ·have hkm:((k:Int) == -1)=false:=by simp
  have hst:I8 l f w lo (.slice la l.length lc) k (k+1) w1:=I8.start HH.out hb1 hk hf TT
  have HST:=hid hst
  clear hst hf TT
  obtain⟨g,hla,ahs,hgw⟩:∃ g,la=some ⟨g,0,none⟩∧lo≤g∧g<w.heap.size:=by
   obtain⟨g,c,hv,h1,h2,_⟩:=HH.out.at hk
   exact⟨g,(by simpa using hv:la=some ⟨g,0,none⟩∧lc=c).1,h1,h2⟩
  subst hla
  go_wp2_with fail
  go_loopg [5,6,7] l.length (fun gk x y z wr=>∃ i j:Nat,j+gk=l.length+(k+1)∧j≤l.length∧x=.int .i64 i∧y=.int .i64 j∧i<j∧Hid (I8 l f w lo (.slice (some ⟨g,0,none⟩) l.length lc) i j wr))
  case atStart=>exact⟨k,k+1,by omega,by omega,rfl,by first | rfl | go_num,by omega,HST⟩
  case round=>
   obtain⟨i,j,hj,hjl,rfl,rfl,hij,HI⟩:=hrel
   by_cases hlt:j<l.length
   ·have fO:(j:Int)<(l.length:Int):=by omega
    obtain⟨M,hM1,hM2,TU,hsz,hrow⟩:=HI.out.row
    have hMj:M[j]? = l[j]?:=by
     have h1:(M.drop j)[0]? = (l.drop j)[0]?:=by rw[TU]
     simpa using h1
    have HMJ:=hid hMj
    have hPr:eu wr lo (.slice (some ⟨g,0,none⟩) l.length lc) M:=by unfold eu;rw[hM1];exact hrow
    have hjM:j<M.length:=by omega
    have hiM:i<M.length:=by omega
    obtain⟨p,hp⟩:∃ p,l[j]? = some p:=⟨l[j],List.getElem?_eq_getElem hlt⟩
    have hpj:M[j]=p:=by
     rw[List.getElem?_eq_getElem hjM,hp] at hMj
     simpa using hMj
    have hcj:=hPr.at hjM
    have hci:=hPr.at hiM
    rw[hpj] at hcj
    obtain⟨ga,_,hv1,_,_,hcj⟩:=hcj
    obtain⟨gb,_,hv2,_,_,hci⟩:=hci
    have ea:g=ga:=by simp at hv1;exact hv1.1
    have eb:g=gb:=by simp at hv2;exact hv2.1
    subst ea
    subst eb
    have c0:wr.cell? ⟨g,j*6,none⟩=some (.int .u8 p.kind):=hcj 0 _ rfl
    have c1:wr.cell? ⟨g,j*6+1,none⟩=some (.int .u64 p.token):=hcj 1 _ rfl
    have c2:wr.cell? ⟨g,j*6+2,none⟩=some (.int .u64 p.session):=hcj 2 _ rfl
    have c3:wr.cell? ⟨g,j*6+3,none⟩=some (.int .u64 p.number):=hcj 3 _ rfl
    have c4:wr.cell? ⟨g,j*6+4,none⟩=some (.int .u64 p.position):=hcj 4 _ rfl
    have c5:wr.cell? ⟨g,j*6+5,none⟩=some (.string p.data):=hcj 5 _ rfl
    have HP:=hid hp
    have HPM:=hid (List.mem_of_getElem? hp)
    have I9:=hid hrow
    have HM:=hid (And.intro hM1 (And.intro hM2 TU))
    have HCI:=hid hci
    clear hcj hci hv1 hv2 hpj hMj hPr hrow hM2 TU hp
    go_wp2_with fail
    refine(HC.out _ (HI.out.dB.alloc _) p HPM.out).mono ?_;rintro e w2 ⟨rfl,hb2⟩
    have hBv:aK w2 wr.heap.size 124 [.int .u8 p.kind,.int .u64 p.token,.int .u64 p.session,.int .u64 p.number,.int .u64 p.position,.string p.data]:=aK.below (heap_alloc_new wr _) hb2
    have hbw:Below wr.heap.size wr w2:=((Below.refl _ wr).alloc (Nat.le_refl _) _).trans (hb2.mono (by simp))
    have HC2:=hid (HI.out.dB.pI hbw)
    have HR2:=hid (aC I9.out (fun q hq=>hbw.block q (I9.out.lt q hq).2))
    have HZ2:=hid (Nat.le_trans hsz hbw.size)
    have PZ:=hid hBv
    have Hbw:=hid hbw
    clear c0 c1 c2 c3 c4 c5 hb2 hBv hbw
    cases hm:f p with
    | true=>
     go_wp2_with fail
     go_roundg (gk-1)
     case rel=>exact⟨i,j+1,by omega,by omega,rfl,by go_num,by omega,hid ⟨⟨M,HM.out.1,by rw[List.take_add_one,HP.out,List.filter_append,HM.out.2.1];simp[hm],by rw[← List.drop_drop,← List.drop_drop,HM.out.2.2],HZ2.out,HR2.out⟩,HC2.out⟩⟩
     case measure=>omega
    | false=>
     have v0:w2.cell? ⟨wr.heap.size,0,none⟩=some (.int .u8 p.kind):=PZ.out.cell 0
     have v1:w2.cell? ⟨wr.heap.size,1,none⟩=some (.int .u64 p.token):=PZ.out.cell 1
     have v2:w2.cell? ⟨wr.heap.size,2,none⟩=some (.int .u64 p.session):=PZ.out.cell 2
     have v3:w2.cell? ⟨wr.heap.size,3,none⟩=some (.int .u64 p.number):=PZ.out.cell 3
     have v4:w2.cell? ⟨wr.heap.size,4,none⟩=some (.int .u64 p.position):=PZ.out.cell 4
     have v5:w2.cell? ⟨wr.heap.size,5,none⟩=some (.string p.data):=PZ.out.cell 5
     have hgr:g<wr.heap.size:=by omega
     have hdi:∀ q v,(pc M[i])[q]? = some v→w2.cell? ⟨g,i*6+q,none⟩=some v:=fun q v hq=>(Hbw.out.cell (p:=⟨g,i*6+q,none⟩) hgr).trans (HCI.out q v hq)
     have d0:w2.cell? ⟨g,i*6,none⟩=some _:=hdi 0 _ rfl
     have d1:w2.cell? ⟨g,i*6+1,none⟩=some _:=hdi 1 _ rfl
     have d2:w2.cell? ⟨g,i*6+2,none⟩=some _:=hdi 2 _ rfl
     have d3:w2.cell? ⟨g,i*6+3,none⟩=some _:=hdi 3 _ rfl
     have d4:w2.cell? ⟨g,i*6+4,none⟩=some _:=hdi 4 _ rfl
     have d5:w2.cell? ⟨g,i*6+5,none⟩=some _:=hdi 5 _ rfl
     have hfz:=iD HR2.out
     have f0:=hfz (i*6)
     have f1:=hfz (i*6+1)
     have f2:=hfz (i*6+2)
     have f3:=hfz (i*6+3)
     have f4:=hfz (i*6+4)
     have f5:=hfz (i*6+5)
     have uS:(i:Int)<(l.length:Int):=by omega
     have hM6:i*6+6≤(dD M).length:=by rw[EF,HM.out.1];omega
     have HR3:=hid (iE (o:=i*6+5) (iE (o:=i*6+4) (iE (o:=i*6+3) (iE (o:=i*6+2) (iE (o:=i*6+1) (iE (o:=i*6) HR2.out (.int .u8 p.kind)) (.int .u64 p.token)) (.int .u64 p.session)) (.int .u64 p.number)) (.int .u64 p.position)) (.string p.data))
     rw[← xZ M i p (by rw[HM.out.1];omega)] at HR3
     have Ja:=hid ((((((HC2.out.setCell ⟨g,i*6,none⟩ (.int .u8 p.kind) (fun _=>rfl)).setCell ⟨g,i*6+1,none⟩ (.int .u64 p.token) (fun _=>rfl)).setCell ⟨g,i*6+2,none⟩ (.int .u64 p.session) (fun _=>rfl)).setCell ⟨g,i*6+3,none⟩ (.int .u64 p.number) (fun _=>rfl)).setCell ⟨g,i*6+4,none⟩ (.int .u64 p.position) (fun _=>rfl)).setCell ⟨g,i*6+5,none⟩ (.string p.data) (fun _=>rfl))
     clear hdi hfz hM6
     go_wp2_with fail
     go_roundg (gk-1)
     case rel=>exact⟨i+1,j+1,by omega,by omega,by go_num,by go_num,by omega,hid ⟨⟨M.set i p,by rw[List.length_set];exact HM.out.1,by
      have e1:(l.take (j+1)).filter (fun p=>!f p)=(l.take j).filter (fun p=>!f p)++[p]:=by
       rw[List.take_add_one,HP.out,List.filter_append]
       simp[hm]
      rw[e1,← HM.out.2.1,List.take_add_one,List.getElem?_set_self (by rw[HM.out.1];omega),List.take_set_of_le (Nat.le_refl _)]
      rfl,by
      rw[List.drop_set_of_lt (by omega),← List.drop_drop,← List.drop_drop,HM.out.2.2],Ja.out.size,HR3.out⟩,Ja.out⟩⟩
     case measure=>omega
   ·have fO:¬ (j:Int)<(l.length:Int):=by omega
    obtain⟨M,hM1,hM2,TU,hsz,hrow⟩:=HI.out.row
    obtain⟨w3,hcl,hrow3,hc3⟩:=EH hrow (show i<l.length by omega)
    have HCL:=hid (HI.out.dB)
    have ahx:(i:Int)≤(l.length:Int):=by omega
    have ahy:(i:Int)<(lc:Int):=by have:=Og hrow;omega
    have ahz:¬ lc=i:=by omega
    have ahA:¬ i=lc:=by omega
    have HM:=hid (show (dD M).take (i*6)=dD (l.filter (fun p=>!f p))∧i=(l.filter (fun p=>!f p)).length by
     have e:l.take j=l:=List.take_of_length_le (by omega)
     rw[e] at hM2
     rw[← hM2,AU]
     exact⟨rfl,by simp;omega⟩)
    have HR3:=hid hrow3
    clear hrow hrow3 hM2 TU HI
    go_wp2_with fail
    go_ret
    refine⟨_,rfl,?_,HCL.out.same (hc3.mono (fun q _ e=>by rw[e];rfl)),rfl⟩
    unfold eu
    rw[← HM.out.1,← HM.out.2]
    exact HR3.out
 ·go_wp2_with fail
  go_ret
  exact⟨_,rfl,by rw[filter_none hno];exact HH.out.below hb1,aG.of_below hb1,rfl⟩
theorem DZ(p:aP)(below:Nat)(cb:Nat)(w:World)(hc:w.cell? ⟨cb,0,none⟩=some (.int .u64 below))(hcb:cb<w.heap.size):
  Calls Tryz.prog 201 #[.agg #[.int .u8 p.kind,.int .u64 p.token,.int .u64 p.session,.int .u64 p.number,.int .u64 p.position,.string p.data],.pointer (some ⟨cb,0,none⟩)] w (fun e w'=>e=.returned (.bool (decide (p.number<below)))∧Below w.heap.size w w'):=by
 have hbw0:Below w.heap.size w (w.alloc (.cells #[.int .u8 p.kind,.int .u64 p.token,.int .u64 p.session,.int .u64 p.number,.int .u64 p.position,.string p.data] 124)):=(Below.refl _ _).alloc (Nat.le_refl _) _
 have au:aK (w.alloc (.cells #[.int .u8 p.kind,.int .u64 p.token,.int .u64 p.session,.int .u64 p.number,.int .u64 p.position,.string p.data] 124)) w.heap.size 124 [.int .u8 p.kind,.int .u64 p.token,.int .u64 p.session,.int .u64 p.number,.int .u64 p.position,.string p.data]:=heap_alloc_new w _
 obtain⟨w0,dw⟩:∃ w0,w.alloc (.cells #[.int .u8 p.kind,.int .u64 p.token,.int .u64 p.session,.int .u64 p.number,.int .u64 p.position,.string p.data] 124)=w0:=⟨_,rfl⟩
 rw[dw] at hbw0 au
 have e0:w0.cell? ⟨w.heap.size,0,none⟩=some (.int .u8 p.kind):=au.cell 0
 have e1:w0.cell? ⟨w.heap.size,1,none⟩=some (.int .u64 p.token):=au.cell 1
 have e2:w0.cell? ⟨w.heap.size,2,none⟩=some (.int .u64 p.session):=au.cell 2
 have e3:w0.cell? ⟨w.heap.size,3,none⟩=some (.int .u64 p.number):=au.cell 3
 have e4:w0.cell? ⟨w.heap.size,4,none⟩=some (.int .u64 p.position):=au.cell 4
 have e5:w0.cell? ⟨w.heap.size,5,none⟩=some (.string p.data):=au.cell 5
 have d:w0.cell? ⟨cb,0,none⟩=some (.int .u64 below):=(hbw0.cell (p:=⟨cb,0,none⟩) hcb).trans hc
 clear au
 go_enter func201,ntmps201
 go_wp2_with fail
 go_ret
 exact⟨rfl,hbw0⟩
theorem Oh{lo:Nat}{w:World}{g:CG}(h:Cli lo w g)(ha:g.asked.length≤1000)(below:Nat):
  Calls Tryz.prog 160 #[.pointer (some ⟨g.b,0,none⟩),.int .u64 below] w (fun e w'=>e=.returned (.tuple #[])∧∃ g',gG lo w g (g.st.forget below) w' g'):=by
 have hbw0:Below w.heap.size w (w.alloc (.cells #[.int .u64 below] 55)):=(Below.refl _ _).alloc (Nat.le_refl _) _
 have au:aK (w.alloc (.cells #[.int .u64 below] 55)) w.heap.size 55 [.int .u64 below]:=heap_alloc_new w _
 obtain⟨w0,dw⟩:∃ w0,w.alloc (.cells #[.int .u64 below] 55)=w0:=⟨_,rfl⟩
 rw[dw] at hbw0 au
 have e0:w0.cell? ⟨w.heap.size,0,none⟩=some (.int .u64 below):=au.cell 0
 have fe0:=au.frozen 0
 have h0:=h.below hbw0
 have hlt:=h.blk.lt
 obtain⟨aa,ac,hav⟩:=h.ra.slice
 have d13:w0.cell? ⟨g.b,13,none⟩=some (.slice aa g.asked.length ac):=(show w0.cell? ⟨g.b,13,none⟩=some g.av from h0.blk.cell 13).trans (by rw[hav])
 have hP:eu w0 lo (.slice aa g.asked.length ac) g.asked:=by unfold eu;rw[← hav];exact h0.asked
 have hnb:=h0.blk.dF h0.asked (by decide)
 have hsz:w.heap.size<w0.heap.size:=au.lt
 have hap:∀ k,(Value.slice aa g.asked.length ac).ownBlock=some k→g.av.ownBlock=some k:=fun k hk=>by rw[hav];exact hk
 have HCL:Hid (∀ wr,aG (fun k=>(Value.slice aa g.asked.length ac).ownBlock=some k) w0 wr→∀ p∈g.asked,Calls Tryz.prog 201 #[.agg #[.int .u8 p.kind,.int .u64 p.token,.int .u64 p.session,.int .u64 p.number,.int .u64 p.position,.string p.data],.pointer (some ⟨w.heap.size,0,none⟩)] wr (fun e w'=>e=.returned (.bool (decide (p.number<below)))∧Below wr.heap.size wr w')):=fun wr hwr p _=>by
  have hne:(Value.slice aa g.asked.length ac).ownBlock≠some w.heap.size:=fun e=>by have:=(h.asked.lt _ (hap _ e)).2;omega
  exact DZ p below w.heap.size wr ((hwr.cell (p:=⟨w.heap.size,0,none⟩) hsz hne).trans e0) (Nat.lt_of_lt_of_le hsz hwr.size)
 have H:=hid h
 have H0:=hid h0
 have HP:=hid hP
 have XP:=hid hav
 have XZ:=hid hap
 have HNB:=hid hnb
 have Hb:=hid hbw0
 clear h h0 hP hav hap hnb au hbw0
 go_enter func160,ntmps160
 go_wp2_with fail
 refine(XW w0 lo _ g.asked w.heap.size _ HP.out ha HCL.out).mono ?_;rintro e w1 ⟨v',rfl,hrow,hc1,hob⟩
 obtain⟨a',c',rfl⟩:=ay hrow
 have hc1':aG (fun k=>g.av.ownBlock=some k) w0 w1:=hc1.mono (fun k _ hk=>XZ.out k hk)
 have hB1:=H0.out.blk.dB hc1' HNB.out
 have k13:w1.cell? ⟨g.b,13,none⟩=some (.slice aa g.asked.length ac):=(show w1.cell? ⟨g.b,13,none⟩=some g.av from hB1.cell 13).trans (by rw[XP.out])
 have g13:=hB1.frozen 13
 have hB2:aK (w1.setCell ⟨g.b,13,none⟩ (.slice a' (g.asked.filter (fun p=>!decide (p.number<below))).length c')) g.b 96 ({ g with av:=.slice a' (g.asked.filter (fun p=>!decide (p.number<below))).length c',asked:=g.asked.filter (fun p=>!decide (p.number<below)) }:CG).cells:=hB1.set 13 _
 have hc2:aG (fun k=>k=g.b) w1 (w1.setCell ⟨g.b,13,none⟩ (.slice a' (g.asked.filter (fun p=>!decide (p.number<below))).length c')):=(aG.refl _ _).setCell _ _ (fun _=>rfl)
 have adS:=hB1.dF hrow (by decide)
 have HF:=hid (H.out.EG (g':={ g with av:=.slice a' (g.asked.filter (fun p=>!decide (p.number<below))).length c',asked:=g.asked.filter (fun p=>!decide (p.number<below)) })
  (((aG.of_below Hb.out).same (hc1'.mono (G:=fun k=>k=g.b∨g.av.ownBlock=some k) (fun k _ hk=>Or.inr hk))).same (hc2.mono (fun k _ hk=>Or.inl hk))) hB2 (hc2.own hrow (fun k hk e=>adS (e ▸ hk))) (fun k hk=>Or.inl (XZ.out k (hob ▸ hk))) rfl rfl rfl rfl ⟨rfl,rfl,rfl⟩ H.out.rs H.out.rc H.out.rv)
 clear hrow hc1 hc1' hB1 hB2 hc2 hob adS
 go_wp2_with fail
 go_end0
 exact⟨rfl,_,HF.out⟩
theorem Has.part{lo:Nat}{w:World}{A B:List fM}(h:Has lo w (A++B)):Has lo w A:=(aA.1 h).1
theorem Has.mem{lo:Nat}{w:World}{A G:List fM}(h:Has lo w G)(hs:∃ R,G.Perm (A++R)):Has lo w A:=by
 obtain⟨R,hR⟩:=hs
 exact(h.perm hR).part
theorem Cli.lK{lo:Nat}{w w':World}{g:CG}{l1 l2:List kZ}{m m':kZ}(h:Cli lo w g)(hs:g.streams=l1++m::l2)(hb:m'.blk=m.blk)(hm:Has lo w' m'.res)(hg:Grow w m.res w' m'.res)(hv:eX 1 m'.vv m'.s.values.length (lg m'.s.values)):
  gG lo w g ({ g with streams:=l1++m'::l2 }:CG).st w' { g with streams:=l1++m'::l2 }:=by
 have e1:(l1++m'::l2).map (fun m=>aJ m.blk)=g.streams.map (fun m=>aJ m.blk):=by rw[hs];simp[hb]
 have e2:(l1++m'::l2).length=g.streams.length:=by rw[hs];simp
 have p1:g.res.Perm (m.res++(g.aU++(g.aQ++(g.rowA++(dh 161 1 g.sv g.streams.length (g.streams.map (fun m=>aJ m.blk))++(l1.flatMap kZ.res++(l2.flatMap kZ.res++(dh 125 1 g.cv g.calls.length (g.calls.map (fun m=>aJ m.blk))++g.calls.flatMap jE.res)))))))):=aY (fun p=>by
  unfold CG.res CG.rest CG.rowA
  have e3:g.streams.flatMap kZ.res=l1.flatMap kZ.res++(m.res++l2.flatMap kZ.res):=by rw[hs];simp
  rw[e3]
  simp only[aH]
  omega)
 have p2:(m'.res++(g.aU++(g.aQ++(g.rowA++(dh 161 1 g.sv g.streams.length (g.streams.map (fun m=>aJ m.blk))++(l1.flatMap kZ.res++(l2.flatMap kZ.res++(dh 125 1 g.cv g.calls.length (g.calls.map (fun m=>aJ m.blk))++g.calls.flatMap jE.res)))))))).Perm ({ g with streams:=l1++m'::l2 }:CG).res:=aY (fun p=>by
  show _=cnt p (g.aU++(g.aQ++(g.rowA++(dh 161 1 g.sv (l1++m'::l2).length ((l1++m'::l2).map (fun m=>aJ m.blk))++((l1++m'::l2).flatMap kZ.res++(dh 125 1 g.cv g.calls.length (g.calls.map (fun m=>aJ m.blk))++g.calls.flatMap jE.res))))))
  rw[e1,e2,List.flatMap_append,List.flatMap_cons]
  simp only[aH]
  omega)
 refine⟨⟨((h.has.perm p1).swap hm hg).perm p2,h.ra,?_,h.rc,fun x hx=>?_⟩,rfl,hg.swap.perm p1.symm p2,rfl,rfl,rfl,rfl,rfl⟩
 ·show eX 1 g.sv (l1++m'::l2).length ((l1++m'::l2).map (fun m=>aJ m.blk))
  rw[e1,e2]
  exact h.rs
 ·have hx':x∈l1++m'::l2:=hx
  rcases List.mem_append.1 hx' with hx | hx
  ·exact h.rv x (by rw[hs];exact List.mem_append_left _ hx)
  ·rcases List.mem_cons.1 hx with rfl | hx
   ·exact hv
   ·exact h.rv x (by rw[hs];exact List.mem_append_right _ (List.mem_cons_of_mem _ hx))
theorem Cli.stream{lo:Nat}{w:World}{g:CG}{l1 l2:List kZ}{m:kZ}(h:Cli lo w g)(hs:g.streams=l1++m::l2):Has lo w m.res :=
 h.has.mem ⟨g.aU++(g.aQ++(g.rowA++(dh 161 1 g.sv g.streams.length (g.streams.map (fun m=>aJ m.blk))++(l1.flatMap kZ.res++(l2.flatMap kZ.res++(dh 125 1 g.cv g.calls.length (g.calls.map (fun m=>aJ m.blk))++g.calls.flatMap jE.res)))))),aY (fun p=>by
  unfold CG.res CG.rest CG.rowA
  have e3:g.streams.flatMap kZ.res=l1.flatMap kZ.res++(m.res++l2.flatMap kZ.res):=by rw[hs];simp
  rw[e3]
  simp only[aH]
  omega)⟩
theorem kZ.ru{lo:Nat}{w:World}{m:kZ}(h:Has lo w m.res):aK w m.blk 194 (mQ m):=h.blk (List.mem_append_left _ (List.mem_singleton.2 rfl))
theorem kZ.turn{lo:Nat}{w w':World}{m m':kZ}(h:Has lo w m.res)(hc:aG (fun k=>k=m.blk) w w')(hB:aK w' m.blk 194 (mQ m'))(hb:m'.blk=m.blk)(hv:m'.vv=m.vv)(hs:m'.s.values=m.s.values):Has lo w' m'.res∧Grow w m.res w' m'.res:=by
 have e:m'.res=[iO m'.blk 194 (mQ m')]++dh 9 1 m.vv m.s.values.length (lg m.s.values):=by unfold kZ.res;rw[hv,hs]
 have hl:lo≤m.blk:=(h.lt ⟨_,List.mem_append_left _ (List.mem_singleton.2 rfl),rfl⟩).1
 have hg:Grow w [iO m.blk 194 (mQ m)] w' [iO m'.blk 194 (mQ m')]:=⟨hc.mono (fun i _ hi=>Key.one.2 hi),fun k hk=>Or.inl (Key.one.2 ((Key.one.1 hk).trans hb))⟩
 rw[e]
 exact⟨Has.swap h (by rw[hb];exact dH hl hB (by decide)) hg,hg.swap⟩
theorem TV{lo:Nat}{w:World}{m:kZ}(h:Has lo w m.res)(k:Nat):
  Calls Tryz.prog 79 #[aJ m.blk,.int .i64 k] w (fun e w'=>e=.returned (.tuple #[])∧Has lo w' ({ m with s:=m.s.finish k }:kZ).res∧Grow w m.res w' ({ m with s:=m.s.finish k }:kZ).res):=by
 unfold aJ
 have hB:=kZ.ru h
 have d14:w.cell? ⟨m.blk,14,none⟩=some (.int .i64 m.s.fin):=hB.cell 14
 have g14:=hB.frozen 14
 by_cases hf:m.s.fin=0
 ·have b1:((m.s.fin:Int)==0)=true:=by simp[hf]
  have e:m.s.finish k = { m.s with fin:=k }:=by unfold F8.finish;rw[if_pos hf]
  have hB':aK (w.setCell ⟨m.blk,14,none⟩ (.int .i64 k)) m.blk 194 (mQ { m with s:=m.s.finish k }):=by rw[e];exact hB.set 14 _
  have HT:=hid (kZ.turn (m':={ m with s:=m.s.finish k }) h ((aG.refl _ w).setCell ⟨m.blk,14,none⟩ (.int .i64 k) (fun _=>rfl)) hB' rfl rfl (by rw[e]))
  clear h hB hB' hf e
  go_enter func79,ntmps79
  go_wp2_with fail
  go_end0
  exact⟨rfl,HT.out⟩
 ·have b1:((m.s.fin:Int)==0)=false:=by simp;omega
  have HE:=hid (show m.s.finish k=m.s by unfold F8.finish;rw[if_neg hf])
  have HH:=hid h
  clear h hB hf
  go_enter func79,ntmps79
  go_wp2_with fail
  go_end0
  exact⟨rfl,by rw[HE.out];exact⟨HH.out,Grow.refl _ _⟩⟩
theorem Cli.Oi{g:CG}{l1 l2:List jE}{m:jE}(hs:g.calls=l1++m::l2):g.res.Perm (m.res++(g.aU++(g.aQ++(g.rowA++(dh 161 1 g.sv g.streams.length (g.streams.map (fun m=>aJ m.blk))++(g.streams.flatMap kZ.res++(dh 125 1 g.cv g.calls.length (g.calls.map (fun m=>aJ m.blk))++(l1.flatMap jE.res++l2.flatMap jE.res)))))))):=aY (fun p=>by
 unfold CG.res CG.rest CG.rowA
 have e3:g.calls.flatMap jE.res=l1.flatMap jE.res++(m.res++l2.flatMap jE.res):=by rw[hs];simp
 rw[e3]
 simp only[aH]
 omega)
theorem Cli.oL{lo:Nat}{w w':World}{g:CG}{l1 l2:List jE}{m m':jE}(h:Cli lo w g)(hs:g.calls=l1++m::l2)(hb:m'.blk=m.blk)(hm:Has lo w' m'.res)(hg:Grow w m.res w' m'.res):
  gG lo w g ({ g with calls:=l1++m'::l2 }:CG).st w' { g with calls:=l1++m'::l2 }:=by
 have e1:(l1++m'::l2).map (fun m=>aJ m.blk)=g.calls.map (fun m=>aJ m.blk):=by rw[hs];simp[hb]
 have e2:(l1++m'::l2).length=g.calls.length:=by rw[hs];simp
 have p2:(m'.res++(g.aU++(g.aQ++(g.rowA++(dh 161 1 g.sv g.streams.length (g.streams.map (fun m=>aJ m.blk))++(g.streams.flatMap kZ.res++(dh 125 1 g.cv g.calls.length (g.calls.map (fun m=>aJ m.blk))++(l1.flatMap jE.res++l2.flatMap jE.res)))))))).Perm ({ g with calls:=l1++m'::l2 }:CG).res:=aY (fun p=>by
  show _=cnt p (g.aU++(g.aQ++(g.rowA++(dh 161 1 g.sv g.streams.length (g.streams.map (fun m=>aJ m.blk))++(g.streams.flatMap kZ.res++(dh 125 1 g.cv (l1++m'::l2).length ((l1++m'::l2).map (fun m=>aJ m.blk))++(l1++m'::l2).flatMap jE.res))))))
  rw[e1,e2,List.flatMap_append,List.flatMap_cons]
  simp only[aH]
  omega)
 refine⟨⟨((h.has.perm (Cli.Oi hs)).swap hm hg).perm p2,h.ra,h.rs,?_,h.rv⟩,rfl,hg.swap.perm (Cli.Oi hs).symm p2,rfl,rfl,rfl,rfl,rfl⟩
 show eX 1 g.cv (l1++m'::l2).length ((l1++m'::l2).map (fun m=>aJ m.blk))
 rw[e1,e2]
 exact h.rc
theorem Cli.call{lo:Nat}{w:World}{g:CG}{l1 l2:List jE}{m:jE}(h:Cli lo w g)(hs:g.calls=l1++m::l2):Has lo w m.res:=h.has.mem ⟨_,Cli.Oi hs⟩
theorem jE.ru{lo:Nat}{w:World}{m:jE}(h:Has lo w m.res):aK w m.blk 129 (nP m):=h.blk (List.mem_singleton.2 rfl)
theorem jE.turn{lo:Nat}{w w':World}{m m':jE}(h:Has lo w m.res)(hc:aG (fun k=>k=m.blk) w w')(hB:aK w' m.blk 129 (nP m'))(hb:m'.blk=m.blk):Has lo w' m'.res∧Grow w m.res w' m'.res:=by
 have hl:lo≤m.blk:=(h.lt ⟨_,List.mem_singleton.2 rfl,rfl⟩).1
 refine⟨?_,⟨hc.mono (fun i _ hi=>Key.one.2 hi),fun k hk=>Or.inl (Key.one.2 ((Key.one.1 hk).trans hb))⟩⟩
 unfold jE.res
 rw[hb]
 exact dH hl hB (by decide)
theorem Jb{lo:Nat}{w:World}{m:jE}(h:Has lo w m.res)(k:Nat)(v:ByteArray):
  Calls Tryz.prog 80 #[aJ m.blk,.agg #[.int .i64 k,.string v,.string ⟨#[]⟩]] w (fun e w'=>e=.returned (.tuple #[])∧Has lo w' ({ m with c:=m.c.finish k v }:jE).res∧Grow w m.res w' ({ m with c:=m.c.finish k v }:jE).res):=by
 unfold aJ
 have hbw0:Below w.heap.size w (w.alloc (.cells #[.int .i64 k,.string v,.string ⟨#[]⟩] 127)):=(Below.refl _ _).alloc (Nat.le_refl _) _
 have au:aK (w.alloc (.cells #[.int .i64 k,.string v,.string ⟨#[]⟩] 127)) w.heap.size 127 [.int .i64 k,.string v,.string ⟨#[]⟩]:=heap_alloc_new w _
 obtain⟨w0,dw⟩:∃ w0,w.alloc (.cells #[.int .i64 k,.string v,.string ⟨#[]⟩] 127)=w0:=⟨_,rfl⟩
 rw[dw] at hbw0 au
 have e0:w0.cell? ⟨w.heap.size,0,none⟩=some (.int .i64 k):=au.cell 0
 have e1:w0.cell? ⟨w.heap.size,1,none⟩=some (.string v):=au.cell 1
 have e2:w0.cell? ⟨w.heap.size,2,none⟩=some (.string ⟨#[]⟩):=au.cell 2
 have hlt:=(jE.ru h).lt
 have h0:=h.below hbw0
 have hB:=jE.ru h0
 have d3:w0.cell? ⟨m.blk,3,none⟩=some (.int .i64 m.c.kind):=hB.cell 3
 have d4:w0.cell? ⟨m.blk,4,none⟩=some (.string m.c.value):=hB.cell 4
 have d5:w0.cell? ⟨m.blk,5,none⟩=some (.string ⟨#[]⟩):=hB.cell 5
 have g3:=hB.frozen 3
 have g4:=hB.frozen 4
 have g5:=hB.frozen 5
 by_cases hf:m.c.kind=0
 ·have b1:((m.c.kind:Int)==0)=true:=by simp[hf]
  have e:m.c.finish k v = { m.c with kind:=k,value:=v }:=by unfold Ti.finish;rw[if_pos hf]
  have hB':aK (((w0.setCell ⟨m.blk,3,none⟩ (.int .i64 k)).setCell ⟨m.blk,4,none⟩ (.string v)).setCell ⟨m.blk,5,none⟩ (.string ⟨#[]⟩)) m.blk 129 (nP { m with c:=m.c.finish k v }):=by rw[e];exact((hB.set 3 _).set 4 _).set 5 _
  have HT:=hid (jE.turn (m':={ m with c:=m.c.finish k v }) h ((((aG.of_below (F:=fun k=>k=m.blk) hbw0).setCell ⟨m.blk,3,none⟩ (.int .i64 k) (fun _=>rfl)).setCell ⟨m.blk,4,none⟩ (.string v) (fun _=>rfl)).setCell ⟨m.blk,5,none⟩ (.string ⟨#[]⟩) (fun _=>rfl)) hB' rfl)
  clear h h0 hB hB' hf e au
  go_enter func80,ntmps80
  go_wp2_with fail
  go_end0
  exact⟨rfl,HT.out⟩
 ·have b1:((m.c.kind:Int)==0)=false:=by simp;omega
  have HE:=hid (show m.c.finish k v=m.c by unfold Ti.finish;rw[if_neg hf])
  have HH:=hid h0
  have Hb:=hid hbw0
  clear h h0 hB hf au hbw0
  go_enter func80,ntmps80
  go_wp2_with fail
  go_end0
  exact⟨rfl,by rw[HE.out];exact⟨HH.out,Grow.of_below Hb.out⟩⟩
def jo(g:CG)(k:Nat):List kZ:=(g.streams.take k).map (fun m=>{ m with s:=m.s.finish 3 })++g.streams.drop k
def jF(g:CG)(k:Nat):List jE:=(g.calls.take k).map (fun m=>{ m with c:=m.c.finish 3 ⟨#[]⟩ })++g.calls.drop k
theorem P8(g:CG){k:Nat}(hk:k<g.streams.length):jo g k=(g.streams.take k).map (fun m=>{ m with s:=m.s.finish 3 })++g.streams[k]::g.streams.drop (k+1)∧jo g (k+1)=(g.streams.take k).map (fun m=>{ m with s:=m.s.finish 3 }) ++ { g.streams[k] with s:=g.streams[k].s.finish 3 } :: g.streams.drop (k+1):=by
 unfold jo
 rw[List.take_add_one,List.getElem?_eq_getElem hk,List.drop_eq_getElem_cons hk]
 refine⟨rfl,?_⟩
 simp only[Option.toList_some,List.map_append,List.map_cons,List.map_nil,List.append_assoc,List.cons_append,List.nil_append]
theorem P9(g:CG){k:Nat}(hk:k<g.calls.length):jF g k=(g.calls.take k).map (fun m=>{ m with c:=m.c.finish 3 ⟨#[]⟩ })++g.calls[k]::g.calls.drop (k+1)∧jF g (k+1)=(g.calls.take k).map (fun m=>{ m with c:=m.c.finish 3 ⟨#[]⟩ }) ++ { g.calls[k] with c:=g.calls[k].c.finish 3 ⟨#[]⟩ } :: g.calls.drop (k+1):=by
 unfold jF
 rw[List.take_add_one,List.getElem?_eq_getElem hk,List.drop_eq_getElem_cons hk]
 refine⟨rfl,?_⟩
 simp only[Option.toList_some,List.map_append,List.map_cons,List.map_nil,List.append_assoc,List.cons_append,List.nil_append]
theorem Cli.TW{lo:Nat}{w:World}{g:CG}(h:Cli lo w g){k:Nat}(hk:k<g.streams.length):∃ ga c,g.sv=.slice (some ⟨ga,0,none⟩) g.streams.length c∧ga<w.heap.size∧w.cell? ⟨ga,k,none⟩=some (aJ g.streams[k].blk):=by
 have ho:w.ownsRow lo 161 1 g.sv g.streams.length (g.streams.map (fun m=>aJ m.blk)):=h.has.own h.rs (fun p hp=>by unfold CG.res CG.rest;simp only[List.mem_append];exact Or.inr (Or.inr (Or.inr (Or.inl hp))))
 rcases ho.2 with⟨_,e⟩ | ⟨ga,c,cur,hv,r⟩
 ·omega
 ·refine⟨ga,c,hv,(ho.lt ga (by rw[hv];rfl)).2,?_⟩
  have:=ho.cells (g:=ga) (by rw[hv];rfl) k (aJ g.streams[k].blk) (by simp[List.getElem?_eq_getElem hk])
  rw[fE _ _ rfl] at this
  simpa using this
theorem Cli.eY{lo:Nat}{w:World}{g:CG}(h:Cli lo w g){k:Nat}(hk:k<g.calls.length):∃ ga c,g.cv=.slice (some ⟨ga,0,none⟩) g.calls.length c∧ga<w.heap.size∧w.cell? ⟨ga,k,none⟩=some (aJ g.calls[k].blk):=by
 have ho:w.ownsRow lo 125 1 g.cv g.calls.length (g.calls.map (fun m=>aJ m.blk)):=h.has.own h.rc (fun p hp=>by unfold CG.res CG.rest;simp only[List.mem_append];exact Or.inr (Or.inr (Or.inr (Or.inr (Or.inr (Or.inl hp))))))
 rcases ho.2 with⟨_,e⟩ | ⟨ga,c,cur,hv,r⟩
 ·omega
 ·refine⟨ga,c,hv,(ho.lt ga (by rw[hv];rfl)).2,?_⟩
  have:=ho.cells (g:=ga) (by rw[hv];rfl) k (aJ g.calls[k].blk) (by simp[List.getElem?_eq_getElem hk])
  rw[fE _ _ rfl] at this
  simpa using this
theorem TY{lo:Nat}{w:World}{g:CG}(h:Cli lo w g)(hlo:lo≤w.heap.size)(hn1:g.streams.length≤1000)(hn2:g.calls.length≤1000)(hat:g.attempt≤1000000000000):
  Calls Tryz.prog 57 #[.pointer (some ⟨g.b,0,none⟩)] w (fun e w'=>e=.returned (.tuple #[])∧∃ g',gG lo w g g.st.leave w' g'):=by
 obtain⟨sa,sc,hsv⟩:=h.rs.slice
 obtain⟨ca,cc,hcv⟩:=h.rc.slice
 have d15:w.cell? ⟨g.b,15,none⟩=some (.slice sa g.streams.length sc):=(show w.cell? ⟨g.b,15,none⟩=some g.sv from h.blk.cell 15).trans (by rw[hsv])
 have H0:Hid (gG lo w g ({ g with streams:=jo g 0 }:CG).st w { g with streams:=jo g 0 }):=by
  have e:jo g 0=g.streams:=by unfold jo;simp
  rw[e]
  exact gG.refl h (Below.refl _ _)
 have LG:=hid hsv
 have uI:=hid hcv
 clear h hsv hcv
 go_enter func57,ntmps57
 go_wp2_with fail
 go_loopg [3,11] g.streams.length (fun gk x i wr=>∃ k:Nat,k+gk=g.streams.length∧i=.int .i64 k∧Hid (gG lo w g ({ g with streams:=jo g k }:CG).st wr { g with streams:=jo g k }))
 case atStart=>exact⟨0,by omega,rfl,H0⟩
 case round=>
  obtain⟨k,hk,rfl,HC⟩:=hrel
  by_cases hlt:k<g.streams.length
  ·obtain⟨e1,e2⟩:=P8 g hlt
   have hlen:(jo g k).length=g.streams.length:=by rw[e1];simp;omega
   obtain⟨ga,c,hav,hgl,hcell⟩:=HC.out.cli.TW (k:=k) (show k<(jo g k).length by omega)
   obtain⟨rfl,rfl⟩:sa=some ⟨ga,0,none⟩∧sc=c:=by
    have:=LG.out.symm.trans hav
    simp at this
    exact⟨this.1,this.2.2⟩
   have hgk:(jo g k)[k]'(by omega)=g.streams[k]:=by
    have e3:(jo g k)[k]? = some g.streams[k]:=by
     have e4:((g.streams.take k).map (fun m=>({ m with s:=m.s.finish 3 }:kZ))).length=k:=by simp;omega
     rw[e1,List.getElem?_append_right (by omega),e4,Nat.sub_self]
     rfl
    rw[List.getElem?_eq_getElem (by omega)] at e3
    exact Option.some.inj e3
   have hck:wr.cell? ⟨ga,k,none⟩=some (.pointer (some ⟨g.streams[k].blk,0,none⟩)):=by
    have:=hcell
    rw[hgk] at this
    exact this
   have HF:=hid (HC.out.cli.stream (m:=g.streams[k]) e1)
   have EI:=hid e1
   have HE2:=hid e2
   have HV:=hid (HC.out.cli.rv g.streams[k] (by show _∈jo g k;rw[e1];exact List.mem_append_right _ (List.mem_cons_self ..)))
   generalize g.streams[k]=mm at *
   have fO:(k:Int)<(g.streams.length:Int):=by omega
   clear hav hcell hgk e1 e2 hlen
   go_wp2_with fail
   refine(TV HF.out 3).mono ?_;rintro e w3 ⟨rfl,h3,h4⟩
   have H4:=hid (HC.out.trans (HC.out.cli.lK (m':={ mm with s:=mm.s.finish 3 }) EI.out rfl h3 h4 (by
    have:=HV.out
    show eX 1 mm.vv (mm.s.finish 3).values.length (lg (mm.s.finish 3).values)
    have e:(mm.s.finish 3).values=mm.s.values:=by unfold F8.finish;split<;>rfl
    rw[e];exact this)))
   clear h3 h4
   go_wp2_with fail
   go_roundg (gk-1)
   case rel=>exact⟨k+1,by omega,by go_num,by rw[HE2.out];exact H4⟩
   case measure=>omega
  ·have fO:¬ (k:Int)<(g.streams.length:Int):=by omega
   have e3:jo g k=g.streams.map (fun m=>{ m with s:=m.s.finish 3 }):=by
    unfold jo
    rw[List.take_of_length_le (by omega),List.drop_of_length_le (by omega),List.append_nil]
   have wO:=hid HC.out
   rw[e3] at wO
   generalize wr=wA at *
   generalize hgg:({ g with streams:=g.streams.map (fun m=>{ m with s:=m.s.finish 3 }) }:CG)=g1 at wO
   have hb1:g1.b=g.b:=by rw[← hgg]
   have hc1:g1.calls=g.calls:=by rw[← hgg]
   have Jc:wA.cell? ⟨g.b,17,none⟩=some (.slice ca g.calls.length cc):=by
    have:=wO.out.cli.blk.cell 17
    rw[hb1] at this
    exact this.trans (by show some g1.cv=_;rw[← hgg];exact congrArg some uI.out)
   have HGG:=hid hgg
   have adT:=hid (show g1.cv=.slice ca g.calls.length cc by rw[← hgg];exact uI.out)
   have H5:Hid (gG lo wA g1 ({ g1 with calls:=jF g1 0 }:CG).st wA { g1 with calls:=jF g1 0 }):=by
    have e:jF g1 0=g1.calls:=by unfold jF;simp
    rw[e]
    exact gG.refl wO.out.cli (Below.refl _ _)
   have hn3:g1.calls.length≤1000:=by rw[hc1];exact hn2
   have HB1:=hid hb1
   have Oj:=hid (show g.calls.length=g1.calls.length by rw[hc1])
   rw[Oj.out] at Jc adT
   clear hgg HC e3 hc1
   go_wp2_with fail
   go_loopg [5,23] g1.calls.length (fun gk x i wq=>∃ k:Nat,k+gk=g1.calls.length∧i=.int .i64 k∧Hid (gG lo wA g1 ({ g1 with calls:=jF g1 k }:CG).st wq { g1 with calls:=jF g1 k }))
   case atStart=>exact⟨0,by omega,rfl,H5⟩
   case round=>
    obtain⟨k,hk,rfl,HC⟩:=hrel
    by_cases hlt:k<g1.calls.length
    ·obtain⟨e1,e2⟩:=P9 g1 hlt
     have hlen:(jF g1 k).length=g1.calls.length:=by rw[e1];simp;omega
     obtain⟨ga,c,hav,hgl,hcell⟩:=HC.out.cli.eY (k:=k) (show k<(jF g1 k).length by omega)
     obtain⟨rfl,rfl⟩:ca=some ⟨ga,0,none⟩∧cc=c:=by
      have:=adT.out.symm.trans hav
      simp at this
      exact⟨this.1,this.2.2⟩
     have hgk:(jF g1 k)[k]'(by omega)=g1.calls[k]:=by
      have e3:(jF g1 k)[k]? = some g1.calls[k]:=by
       have e4:((g1.calls.take k).map (fun m=>({ m with c:=m.c.finish 3 ⟨#[]⟩ }:jE))).length=k:=by simp;omega
       rw[e1,List.getElem?_append_right (by omega),e4,Nat.sub_self]
       rfl
      rw[List.getElem?_eq_getElem (by omega)] at e3
      exact Option.some.inj e3
     have hck:wr.cell? ⟨ga,k,none⟩=some (.pointer (some ⟨g1.calls[k].blk,0,none⟩)):=by
      have:=hcell
      rw[hgk] at this
      exact this
     have HF:=hid (HC.out.cli.call (m:=g1.calls[k]) e1)
     have EI:=hid e1
     have HE2:=hid e2
     generalize g1.calls[k]=mm at *
     have fO:(k:Int)<(g1.calls.length:Int):=by omega
     clear hav hcell hgk e1 e2 hlen
     go_wp2_with fail
     refine(Jb HF.out 3 ⟨#[]⟩).mono ?_;rintro e w3 ⟨rfl,h3,h4⟩
     have H4:=hid (HC.out.trans (HC.out.cli.oL (m':={ mm with c:=mm.c.finish 3 ⟨#[]⟩ }) EI.out rfl h3 h4))
     clear h3 h4
     go_wp2_with fail
     go_roundg (gk-1)
     case rel=>exact⟨k+1,by omega,by go_num,by rw[HE2.out];exact H4⟩
     case measure=>omega
    ·have fO:¬ (k:Int)<(g1.calls.length:Int):=by omega
     have e3:jF g1 k=g1.calls.map (fun m=>{ m with c:=m.c.finish 3 ⟨#[]⟩ }):=by
      unfold jF
      rw[List.take_of_length_le (by omega),List.drop_of_length_le (by omega),List.append_nil]
     rw[e3] at HC
     have HC2:=hid (wO.out.trans HC.out)
     generalize hg2:({ g1 with calls:=g1.calls.map (fun m=>{ m with c:=m.c.finish 3 ⟨#[]⟩ }) }:CG)=g2 at HC2
     have hb2:g2.b=g.b:=by rw[← hg2];exact HB1.out
     have X0:g2.attempt=g.attempt:=by rw[← hg2,← HGG.out]
     have HST:=hid (show ({ g2.st with attempt:=g.attempt+1,session:=0,next:=0,asked:=[],L:=[] }:CP)=g.st.leave by
      rw[← hg2,← HGG.out]
      unfold CG.st CP.leave
      simp only[List.map_map]
      rfl)
     have hB:=HC2.out.cli.blk
     rw[hb2] at hB
     have d10:wr.cell? ⟨g.b,10,none⟩=some (.int .u64 g.attempt):=(show wr.cell? ⟨g.b,10,none⟩=some (.int .u64 g2.attempt) from hB.cell 10).trans (by rw[X0])
     have f10:=hB.frozen 10
     have hB1:=hB.set 10 (.int .u64 ((g.attempt:Int)+1))
     have hc1:aG (fun k=>k=g.b) wr (wr.setCell ⟨g.b,10,none⟩ (.int .u64 ((g.attempt:Int)+1))):=(aG.refl _ _).setCell _ _ (fun _=>rfl)
     obtain⟨w1,hw1⟩:∃ w1,wr.setCell ⟨g.b,10,none⟩ (.int .u64 ((g.attempt:Int)+1))=w1:=⟨_,rfl⟩
     rw[hw1] at hB1 hc1
     have d11:w1.cell? ⟨g.b,11,none⟩=some (.int .u64 g2.session):=hB1.cell 11
     have d14:w1.cell? ⟨g.b,14,none⟩=some (.int .u64 g2.next):=hB1.cell 14
     have d13:w1.cell? ⟨g.b,13,none⟩=some g2.av:=hB1.cell 13
     have f11:=hB1.frozen 11
     have f13:=hB1.frozen 13
     have f14:=hB1.frozen 14
     have HB1:=hid hB1
     have Hc1:=hid hc1
     have HB2:=hid hb2
     clear hg2 e3 HC X0 hB hB1 hc1
     go_wp2_with fail
     have hB2:=((HB1.out.set 11 (.int .u64 0)).set 14 (.int .u64 0)).set 13 (.slice none 0 0)
     have hcA:=((Hc1.out.setCell ⟨g.b,11,none⟩ (.int .u64 0) (fun _=>rfl)).setCell ⟨g.b,14,none⟩ (.int .u64 0) (fun _=>rfl)).setCell ⟨g.b,13,none⟩ (.slice none 0 0) (fun _=>rfl)
     obtain⟨w2,hw2⟩:∃ w2,((w1.setCell ⟨g.b,11,none⟩ (.int .u64 0)).setCell ⟨g.b,14,none⟩ (.int .u64 0)).setCell ⟨g.b,13,none⟩ (.slice none 0 0)=w2:=⟨_,rfl⟩
     rw[hw2] at hB2 hcA ⊢
     have hT:=HC2.out.cli.EG (w':=w2) (g':={ g2 with attempt:=g.attempt+1,session:=0,next:=0,av:=.slice none 0 0,asked:=[] }) (hcA.mono (fun q _ e=>Or.inl (e.trans HB2.out.symm))) (by rw[HB2.out];exact hB2) (World.ownsRow_nil _ _ _ _) (fun q hq=>by cases hq) rfl rfl rfl rfl ⟨rfl,rfl,rfl⟩ HC2.out.cli.rs HC2.out.cli.rc HC2.out.cli.rv
     have HT:=hid (HC2.out.trans hT)
     have hlo2:lo≤w2.heap.size:=Nat.le_trans hlo HT.out.grow.c.size
     have hB3:=hT.cli.blk
     rw[show ({ g2 with attempt:=g.attempt+1,session:=0,next:=0,av:=.slice none 0 0,asked:=[] }:CG).b=g.b from HB2.out] at hB3
     have HB3:=hid hB3
     clear hT hB2 hB3 hcA hw2 d10 f10 d11 d13 d14 f11 f13 f14 hw1
     refine(empty_any w2 g.b 96 g2.iv (.int .i64 g2.W) (.int .i64 g2.D) (.int .i64 g2.R) g2.last g2.had g2.up _ _ _ HB3.out).mono ?_;rintro e w4 ⟨rfl,q',m',h1,h2,h3,h4,h5,h6⟩
     have HF:=hid (HT.out.trans (HT.out.cli.Ob (g':={ g2 with attempt:=g.attempt+1,session:=0,next:=0,av:=.slice none 0 0,asked:=[],q:=q',m:=m',L:=[] }) hlo2 (h6.mono (fun q _ e=>e.trans HB2.out.symm)) (by
      show aK w4 g2.b _ _
      rw[HB2.out];exact h3) h1 h2 h4 h5 rfl rfl rfl ⟨rfl,rfl,rfl⟩ (Or.inl ⟨rfl,rfl,rfl⟩) HC2.out.cli.rs HC2.out.cli.rc HC2.out.cli.rv))
     clear h1 h2 h3 h4 h5 h6
     go_wp2_with fail
     go_end0
     exact⟨rfl,_,by rw[← HST.out];exact HF.out⟩
structure vS(c:CP):Prop where
 a:c.asked.length≤1000
 s:c.streams.length≤1000
 ca:c.calls.length≤1000
 at_:c.attempt≤1000000000000
 si:c.silence≤1000000000000
 n:c.next≤1000000000000
theorem vS.g{g:CG}(h:vS g.st):g.asked.length≤1000∧g.streams.length≤1000∧g.calls.length≤1000∧g.attempt≤1000000000000∧g.silence≤1000000000000∧g.next≤1000000000000 :=
 ⟨h.a,by simpa[CG.st] using h.s,by simpa[CG.st] using h.ca,h.at_,h.si,h.n⟩
theorem gG.asked{lo:Nat}{w w':World}{g g':CG}{p:CP}(h:gG lo w g p w' g'):g'.asked=p.asked:=by rw[← h.st];rfl
theorem Ua{lo:Nat}{w:World}{g:CG}(h:Cli lo w g)(hlo:lo≤w.heap.size)(hS:vS g.st)(p:aP):
  Calls Tryz.prog 119 #[.pointer (some ⟨g.b,0,none⟩),.agg #[.int .u8 p.kind,.int .u64 p.token,.int .u64 p.session,.int .u64 p.number,.int .u64 p.position,.string p.data]] w (fun e w'=>e=.returned (.tuple #[])∧∃ g',gG lo w g (g.st.unknown p) w' g'):=by
 obtain⟨hs1,hs2,hs3,hs4,hs5,hs6⟩:=hS.g
 have hbw0:Below w.heap.size w (w.alloc (.cells #[.int .u8 p.kind,.int .u64 p.token,.int .u64 p.session,.int .u64 p.number,.int .u64 p.position,.string p.data] 124)):=(Below.refl _ _).alloc (Nat.le_refl _) _
 have au:aK (w.alloc (.cells #[.int .u8 p.kind,.int .u64 p.token,.int .u64 p.session,.int .u64 p.number,.int .u64 p.position,.string p.data] 124)) w.heap.size 124 [.int .u8 p.kind,.int .u64 p.token,.int .u64 p.session,.int .u64 p.number,.int .u64 p.position,.string p.data]:=heap_alloc_new w _
 obtain⟨w0,dw⟩:∃ w0,w.alloc (.cells #[.int .u8 p.kind,.int .u64 p.token,.int .u64 p.session,.int .u64 p.number,.int .u64 p.position,.string p.data] 124)=w0:=⟨_,rfl⟩
 rw[dw] at hbw0 au
 have e0:w0.cell? ⟨w.heap.size,0,none⟩=some (.int .u8 p.kind):=au.cell 0
 have e1:w0.cell? ⟨w.heap.size,1,none⟩=some (.int .u64 p.token):=au.cell 1
 have e2:w0.cell? ⟨w.heap.size,2,none⟩=some (.int .u64 p.session):=au.cell 2
 have e3:w0.cell? ⟨w.heap.size,3,none⟩=some (.int .u64 p.number):=au.cell 3
 have e4:w0.cell? ⟨w.heap.size,4,none⟩=some (.int .u64 p.position):=au.cell 4
 have e5:w0.cell? ⟨w.heap.size,5,none⟩=some (.string p.data):=au.cell 5
 have H:=hid h
 have Hb:=hid hbw0
 clear h au hbw0
 go_enter func119,ntmps119
 go_wp2_with fail
 refine(Gl (H.out.below Hb.out) p).mono ?_;rintro e w1 ⟨rfl,hb1⟩
 have hb2:=Hb.out.trans (hb1.mono Hb.out.size)
 cases ho:g.st.oh p with
 | false=>
  have HE:=hid (show g.st.unknown p=g.st by unfold CP.unknown;rw[ho];rfl)
  go_wp2_with fail
  go_end0
  exact⟨rfl,g,by rw[HE.out];exact gG.refl H.out hb2⟩
 | true=>
  have HE:=hid (show g.st.unknown p=g.st.leave.speak by unfold CP.unknown;rw[ho];rfl)
  go_wp2_with fail
  refine(TY (H.out.below hb2) (Nat.le_trans hlo hb2.size) hs2 hs3 hs4).mono ?_;rintro e w3 ⟨rfl,g3,h3⟩
  have H3:=hid h3
  clear h3
  have hp3:g3.b=g.b:=H3.out.b
  go_wp2_with fail
  rw[← hp3]
  refine(xY H3.out.cli (by rw[H3.out.asked];simp[CP.leave])).mono ?_;rintro e w4 ⟨rfl,g4,h4⟩
  have H4:=hid ((H3.out.before hb2).trans h4)
  clear h4
  rw[hp3]
  go_wp2_with fail
  go_end0
  exact⟨rfl,g4,by rw[HE.out,← H3.out.st];exact H4.out⟩
theorem aa2{lo:Nat}{w:World}{g:CG}(h:Cli lo w g)(hS:vS g.st)(p:aP):
  Calls Tryz.prog 113 #[.pointer (some ⟨g.b,0,none⟩),.agg #[.int .u8 p.kind,.int .u64 p.token,.int .u64 p.session,.int .u64 p.number,.int .u64 p.position,.string p.data]] w (fun e w'=>e=.returned (.tuple #[])∧∃ g',gG lo w g (g.st.heard p) w' g'):=by
 obtain⟨hs1,hs2,hs3,hs4,hs5,hs6⟩:=hS.g
 have hbw0:Below w.heap.size w (w.alloc (.cells #[.int .u8 p.kind,.int .u64 p.token,.int .u64 p.session,.int .u64 p.number,.int .u64 p.position,.string p.data] 124)):=(Below.refl _ _).alloc (Nat.le_refl _) _
 have au:aK (w.alloc (.cells #[.int .u8 p.kind,.int .u64 p.token,.int .u64 p.session,.int .u64 p.number,.int .u64 p.position,.string p.data] 124)) w.heap.size 124 [.int .u8 p.kind,.int .u64 p.token,.int .u64 p.session,.int .u64 p.number,.int .u64 p.position,.string p.data]:=heap_alloc_new w _
 obtain⟨w0,dw⟩:∃ w0,w.alloc (.cells #[.int .u8 p.kind,.int .u64 p.token,.int .u64 p.session,.int .u64 p.number,.int .u64 p.position,.string p.data] 124)=w0:=⟨_,rfl⟩
 rw[dw] at hbw0 au
 have e0:w0.cell? ⟨w.heap.size,0,none⟩=some (.int .u8 p.kind):=au.cell 0
 have e1:w0.cell? ⟨w.heap.size,1,none⟩=some (.int .u64 p.token):=au.cell 1
 have e2:w0.cell? ⟨w.heap.size,2,none⟩=some (.int .u64 p.session):=au.cell 2
 have e3:w0.cell? ⟨w.heap.size,3,none⟩=some (.int .u64 p.number):=au.cell 3
 have e4:w0.cell? ⟨w.heap.size,4,none⟩=some (.int .u64 p.position):=au.cell 4
 have e5:w0.cell? ⟨w.heap.size,5,none⟩=some (.string p.data):=au.cell 5
 have H:=hid h
 have Hb:=hid hbw0
 have HB:=hid au
 clear h au hbw0
 go_enter func113,ntmps113
 go_wp2_with fail
 refine(Gl (H.out.below Hb.out) p).mono ?_;rintro e w1 ⟨rfl,hb1⟩
 have hb2:=Hb.out.trans (hb1.mono Hb.out.size)
 have r3:w1.cell? ⟨w.heap.size,3,none⟩=some (.int .u64 p.number):=(HB.out.below hb1).cell 3
 cases ho:g.st.oh p with
 | false=>
  have HE:=hid (show g.st.heard p=g.st by unfold CP.heard;rw[ho];rfl)
  go_wp2_with fail
  go_end0
  exact⟨rfl,g,by rw[HE.out];exact gG.refl H.out hb2⟩
 | true=>
  have HE:=hid (show g.st.heard p=g.st.forget p.number by unfold CP.heard;rw[ho];rfl)
  go_wp2_with fail
  refine(Oh (H.out.below hb2) hs1 p.number).mono ?_;rintro e w3 ⟨rfl,g3,h3⟩
  have H3:=hid h3
  clear h3
  go_wp2_with fail
  go_end0
  exact⟨rfl,g3,by rw[HE.out];exact H3.out.before hb2⟩
theorem aa3{lo:Nat}{w:World}{g:CG}(h:Cli lo w g)(hlo:lo≤w.heap.size)(hS:vS g.st)(conn:Int)(hc:g.had=false∨g.last<conn):
  Calls Tryz.prog 33 #[.pointer (some ⟨g.b,0,none⟩),.int .i64 conn] w (fun e w'=>e=.returned (.int .i64 0)∧∃ g',gG lo w g (g.st.raise conn).speak w' g'):=by
 obtain⟨hs1,hs2,hs3,hs4,hs5,hs6⟩:=hS.g
 have H:=hid h
 have HC:=hid hc
 clear h hc
 go_enter func33,ntmps33
 go_wp2_with fail
 refine(ED w g.b _ g.iv _ _ _ g.last g.had g.up g.q g.m _ H.out.blk conn HC.out).mono ?_;rintro e w1 ⟨rfl,q',m',h1,h2,h3,h4,h5,h6⟩
 have HT:=hid (H.out.Ob (g':={ g with last:=conn,had:=true,up:=true,q:=q',m:=m',L:=[] }) hlo h6 h3 h1 h2 h4 h5 rfl rfl rfl ⟨rfl,rfl,rfl⟩ H.out.ra H.out.rs H.out.rc H.out.rv)
 clear h1 h2 h3 h4 h5 h6
 go_wp2_with fail
 refine(xY HT.out.cli hs1).mono ?_;rintro e w4 ⟨rfl,g4,h4⟩
 have H4:=hid (HT.out.trans h4)
 clear h4
 go_wp2_with fail
 go_ret
 exact⟨rfl,g4,H4.out⟩
theorem adU{lo:Nat}{w:World}{g:CG}(h:Cli lo w g)(hlo:lo≤w.heap.size)(hS:vS g.st):
  Calls Tryz.prog 37 #[.pointer (some ⟨g.b,0,none⟩)] w (fun e w'=>e=.returned (.tuple #[])∧∃ g',gG lo w g (g.st.tick g.D) w' g'):=by
 obtain⟨hs1,hs2,hs3,hs4,hs5,hs6⟩:=hS.g
 have d12:w.cell? ⟨g.b,12,none⟩=some (.int .i64 g.silence):=h.blk.cell 12
 have f12:=h.blk.frozen 12
 have hB1:=h.blk.set 12 (.int .i64 ((g.silence:Int)+1))
 have hc1:aG (fun k=>k=g.b) w (w.setCell ⟨g.b,12,none⟩ (.int .i64 ((g.silence:Int)+1))):=(aG.refl _ _).setCell _ _ (fun _=>rfl)
 obtain⟨w1,hw1⟩:∃ w1,w.setCell ⟨g.b,12,none⟩ (.int .i64 ((g.silence:Int)+1))=w1:=⟨_,rfl⟩
 rw[hw1] at hB1 hc1
 have HT:=hid (h.jS (w':=w1) (g':={ g with silence:=g.silence+1 }) hc1 hB1 rfl rfl rfl rfl ⟨rfl,rfl,rfl⟩ h.ra h.rs h.rc h.rv)
 have k11:w1.cell? ⟨g.b,11,none⟩=some (.int .u64 g.session):=hB1.cell 11
 have k12:w1.cell? ⟨g.b,12,none⟩=some (.int .i64 ((g.silence:Int)+1)):=hB1.cell 12
 have k2:w1.cell? ⟨g.b,2,none⟩=some (.int .i64 g.D):=hB1.cell 2
 have hlo1:lo≤w1.heap.size:=Nat.le_trans hlo HT.out.grow.c.size
 have HE:=hid (show g.st.tick g.D=(if g.session≠0∧g.D≤g.silence+1 then({ g with silence:=g.silence+1 }:CG).st.leave else({ g with silence:=g.silence+1 }:CG).st).speak from rfl)
 clear h hB1 hc1
 by_cases hs:g.session=0
 case' pos=>
  have b1:((g.session:Int) != 0)=false:=by simp[hs]
  have HL:=hid (show ¬ (g.session≠0∧g.D≤g.silence+1) from fun e=>e.1 hs)
  clear hs
 case' neg=>
  have b1:((g.session:Int) != 0)=true:=by simp;omega
  by_cases hd:g.D≤g.silence+1
  case' pos=>
   have b2:decide ((g.D:Int)≤(g.silence:Int)+1)=true:=by simp;omega
   have HL:=hid (show g.session≠0∧g.D≤g.silence+1 from⟨hs,hd⟩)
   clear hs hd
  case' neg=>
   have b2:decide ((g.D:Int)≤(g.silence:Int)+1)=false:=by simp;omega
   have HL:=hid (show ¬ (g.session≠0∧g.D≤g.silence+1) from fun e=>hd e.2)
   clear hs hd
 all_goals
  go_enter func37,ntmps37
  go_wp2_with fail
  go_quiet (fail)
  go_wp2_with fail
 ·skip
  have hw:=(below_drewN (Below.refl w1.heap.size w1) nq)
  refine(xY (HT.out.cli.below hw) hs1).mono ?_;rintro e w4 ⟨rfl,g4,h4⟩
  have H4:=hid (HT.out.trans (h4.before hw))
  clear h4
  go_wp2_with fail
  go_end0
  exact⟨rfl,g4,by rw[HE.out,if_neg HL.out];exact H4.out⟩
 ·have hw:=(below_drewN (Below.refl w1.heap.size w1) nq)
  refine(TY (HT.out.cli.below hw) (Nat.le_trans hlo1 hw.size) hs2 hs3 hs4).mono ?_;rintro e w3 ⟨rfl,g3,h3⟩
  have H3:=hid h3
  clear h3
  have hp3:g3.b=g.b:=H3.out.b
  go_wp2_with fail
  rw[← hp3]
  refine(xY H3.out.cli (by rw[H3.out.asked];simp[CP.leave])).mono ?_;rintro e w4 ⟨rfl,g4,h4⟩
  have H4:=hid (HT.out.trans ((H3.out.before hw).trans h4))
  clear h4
  rw[hp3]
  go_wp2_with fail
  go_end0
  exact⟨rfl,g4,by rw[HE.out,if_pos HL.out,← H3.out.st];exact H4.out⟩
 ·skip
  have hw:=(below_drewN (Below.refl w1.heap.size w1) nq)
  refine(xY (HT.out.cli.below hw) hs1).mono ?_;rintro e w4 ⟨rfl,g4,h4⟩
  have H4:=hid (HT.out.trans (h4.before hw))
  clear h4
  go_wp2_with fail
  go_end0
  exact⟨rfl,g4,by rw[HE.out,if_neg HL.out];exact H4.out⟩
theorem Ub(w:World)(lo:Nat)(v:Value)(Bs:List Nat)(cb:Nat)(f:Nat→Bool)(h:uV w lo 125 v Bs)(hl:Bs.length≤1000)
  (hcl:∀ wr,Below w.heap.size w wr→∀ i (hi:i<Bs.length),Calls Tryz.prog 203 #[aJ Bs[i],.pointer (some ⟨cb,0,none⟩)] wr (fun e w'=>e=.returned (.bool (f i))∧Below wr.heap.size wr w')) :
  Calls Tryz.prog 130 #[v,.func (Fn.func 203) #[] #[.pointer (some ⟨cb,0,none⟩)]] w (fun e w'=>∃ z:Int,e=.returned (.int .i64 z)∧wH Bs.length f z∧Below w.heap.size w w'):=by
 obtain⟨la,lc,rfl⟩:=h.slice
 have H:=hid h
 have HC:=hid hcl
 clear h hcl
 go_enter func130,ntmps130
 go_wp2_with fail
 go_loopg [5,8] Bs.length (fun gk t i wr=>∃ k:Nat,k+gk=Bs.length∧i=.int .i64 k∧Hid (∀ j,j<k→f j=false)∧Below w.heap.size w wr)
 case atStart=>exact⟨0,by omega,rfl,hid (fun j hj=>by omega),Below.refl _ _⟩
 case round=>
  obtain⟨k,hk,rfl,HA,hbel⟩:=hrel
  by_cases hlt:k<Bs.length
  ·obtain⟨g,cap,hv,hlo,hgs,hcell⟩:=H.out.cell (by omega)
   obtain⟨rfl,rfl⟩:la=some ⟨g,0,none⟩∧lc=cap:=by simpa using hv
   have hck:wr.cell? ⟨g,k,none⟩=some (aJ Bs[k]):=(hbel.cell (p:=⟨g,k,none⟩) hgs).trans (hcell k hlt)
   unfold aJ at hck
   have fO:(k:Int)<(Bs.length:Int):=by omega
   clear hv hcell
   go_wp2_with fail
   refine(HC.out _ hbel k hlt).mono ?_;rintro e w1 ⟨rfl,hb1⟩
   have hb2:=hbel.trans (hb1.mono hbel.size)
   clear hb1 hck
   cases hm:f k with
   | false=>
    go_wp2_with fail
    go_roundg (gk-1)
    case rel=>exact⟨k+1,by omega,by go_num,hid (fun j hj=>by
     rcases Nat.lt_or_ge j k with h | h
     ·exact HA.out j h
     ·rw[show j=k from by omega];exact hm),hb2⟩
    case measure=>omega
   | true=>
    go_wp2_with fail
    go_ret
    exact⟨k,rfl,Or.inl ⟨k,hlt,hm,HA.out,rfl⟩,hb2⟩
  ·have fO:¬ (k:Int)<(Bs.length:Int):=by omega
   go_wp2_with fail
   go_ret
   exact⟨-1,rfl,Or.inr ⟨fun j hj=>HA.out j (by omega),rfl⟩,hbel⟩
theorem Gm{lo:Nat}{w:World}{m:jE}(h:Has lo w m.res)(cb n:Nat)(hc:w.cell? ⟨cb,0,none⟩=some (.int .u64 n)):
  Calls Tryz.prog 203 #[aJ m.blk,.pointer (some ⟨cb,0,none⟩)] w (fun e w'=>e=.returned (.bool (decide (m.c.request=n)&&decide (m.c.kind=0)))∧Below w.heap.size w w'):=by
 unfold aJ
 have d1:w.cell? ⟨m.blk,1,none⟩=some (.int .u64 m.c.request):=(jE.ru h).cell 1
 have d3:w.cell? ⟨m.blk,3,none⟩=some (.int .i64 m.c.kind):=(jE.ru h).cell 3
 clear h
 by_cases hr:m.c.request=n
 case' pos=>
  have b1:((m.c.request:Int)==n)=true:=by simp[hr]
  have e1:decide (m.c.request=n)=true:=by simp[hr]
  have e2:decide (m.c.kind=0)=((m.c.kind:Int)==0):=by
   by_cases h:m.c.kind=0
   ·simp[h]
   ·simp[h]
  rw[e1,e2,Bool.true_and]
  clear e1 e2 hr
 case' neg=>
  have b1:((m.c.request:Int)==n)=false:=by simp;omega
  have e1:decide (m.c.request=n)=false:=by simp[hr]
  rw[e1,Bool.false_and]
  clear e1 hr
 all_goals
  go_enter func203,ntmps203
  go_wp2_with fail
  go_quiet (fail)
  go_wp2_with fail
  go_ret
  exact⟨rfl,below_drewN (Below.refl _ _) _⟩
theorem Uc{lo:Nat}{w:World}{g:CG}(h:Cli lo w g)(hS:vS g.st)(p:aP):
  Calls Tryz.prog 112 #[.pointer (some ⟨g.b,0,none⟩),.agg #[.int .u8 p.kind,.int .u64 p.token,.int .u64 p.session,.int .u64 p.number,.int .u64 p.position,.string p.data]] w (fun e w'=>e=.returned (.tuple #[])∧∃ g',gG lo w g (g.st.welcome p) w' g'):=by
 obtain⟨hs1,hs2,hs3,hs4,hs5,hs6⟩:=hS.g
 have hbw0:Below w.heap.size w (w.alloc (.cells #[.int .u8 p.kind,.int .u64 p.token,.int .u64 p.session,.int .u64 p.number,.int .u64 p.position,.string p.data] 124)):=(Below.refl _ _).alloc (Nat.le_refl _) _
 have au:aK (w.alloc (.cells #[.int .u8 p.kind,.int .u64 p.token,.int .u64 p.session,.int .u64 p.number,.int .u64 p.position,.string p.data] 124)) w.heap.size 124 [.int .u8 p.kind,.int .u64 p.token,.int .u64 p.session,.int .u64 p.number,.int .u64 p.position,.string p.data]:=heap_alloc_new w _
 obtain⟨w0,dw⟩:∃ w0,w.alloc (.cells #[.int .u8 p.kind,.int .u64 p.token,.int .u64 p.session,.int .u64 p.number,.int .u64 p.position,.string p.data] 124)=w0:=⟨_,rfl⟩
 rw[dw] at hbw0 au
 have e0:w0.cell? ⟨w.heap.size,0,none⟩=some (.int .u8 p.kind):=au.cell 0
 have e1:w0.cell? ⟨w.heap.size,1,none⟩=some (.int .u64 p.token):=au.cell 1
 have e2:w0.cell? ⟨w.heap.size,2,none⟩=some (.int .u64 p.session):=au.cell 2
 have e3:w0.cell? ⟨w.heap.size,3,none⟩=some (.int .u64 p.number):=au.cell 3
 have e4:w0.cell? ⟨w.heap.size,4,none⟩=some (.int .u64 p.position):=au.cell 4
 have e5:w0.cell? ⟨w.heap.size,5,none⟩=some (.string p.data):=au.cell 5
 have h0:=h.below hbw0
 have d9:w0.cell? ⟨g.b,9,none⟩=some (.int .u64 g.token):=h0.blk.cell 9
 have d10:w0.cell? ⟨g.b,10,none⟩=some (.int .u64 g.attempt):=h0.blk.cell 10
 have d11:w0.cell? ⟨g.b,11,none⟩=some (.int .u64 g.session):=h0.blk.cell 11
 have f11:=h0.blk.frozen 11
 have H:=hid h
 have H0:=hid h0
 have Hb:=hid hbw0
 have HB:=hid au
 have HE:Hid (g.st.welcome p=if g.session=0∧p.token=g.token∧p.number=g.attempt then({ g with session:=p.session }:CG).st.speak else g.st):=rfl
 clear h h0 au hbw0
 by_cases hs:g.session=0
 case' neg=>
  have b1:((g.session:Int)==0)=false:=by simp;omega
  have HL:=hid (show ¬ (g.session=0∧p.token=g.token∧p.number=g.attempt) from fun e=>hs e.1)
  clear hs
 case' pos=>
  have b1:((g.session:Int)==0)=true:=by simp[hs]
  by_cases ht:p.token=g.token
  case' neg=>
   have b2:((p.token:Int)==g.token)=false:=by simp;omega
   have HL:=hid (show ¬ (g.session=0∧p.token=g.token∧p.number=g.attempt) from fun e=>ht e.2.1)
   clear ht
  case' pos=>
   have b2:((p.token:Int)==g.token)=true:=by simp[ht]
   by_cases hn:p.number=g.attempt
   case' neg=>
    have b3:((p.number:Int)==g.attempt)=false:=by simp;omega
    have HL:=hid (show ¬ (g.session=0∧p.token=g.token∧p.number=g.attempt) from fun e=>hn e.2.2)
    clear hn ht
   case' pos=>
    have b3:((p.number:Int)==g.attempt)=true:=by simp[hn]
    have HL:=hid (show g.session=0∧p.token=g.token∧p.number=g.attempt from⟨hs,ht,hn⟩)
    clear hn ht
  all_goals clear hs
 all_goals
  go_enter func112,ntmps112
  go_wp2_with fail
  go_quiet (fail)
 ·have hw:=below_drewN Hb.out nq
  have hc1:aG (fun k=>k=g.b) (w0.drewN nq) ((w0.drewN nq).setCell ⟨g.b,11,none⟩ (.int .u64 p.session)):=(aG.refl _ _).setCell _ _ (fun _=>rfl)
  have HT:=hid ((H.out.below hw).jS (g':={ g with session:=p.session }) hc1 ((H.out.below hw).blk.set 11 _) rfl rfl rfl rfl ⟨rfl,rfl,rfl⟩ H.out.ra H.out.rs H.out.rc H.out.rv)
  clear hc1
  go_wp2_with fail
  refine(xY HT.out.cli hs1).mono ?_;rintro e w4 ⟨rfl,g4,h4⟩
  have H4:=hid ((HT.out.before hw).trans h4)
  clear h4
  go_wp2_with fail
  go_end0
  exact⟨rfl,g4,by rw[HE.out,if_pos HL.out];exact H4.out⟩
 all_goals
  go_wp2_with fail
  go_end0
  exact⟨rfl,g,by rw[HE.out,if_neg HL.out];exact gG.refl H.out (below_drewN Hb.out nq)⟩
def atB{α:Type}(l:List α)(P:α → Bool)(i:Nat):Bool:=match l[i]? with | some m=>P m | none=>false
theorem AV{α:Type}{l:List α}{P:α → Bool}{i:Nat}(hi:i<l.length):atB l P i=P l[i]:=by unfold atB;rw[List.getElem?_eq_getElem hi]
theorem AX{α:Type}{l:List α}{P:α → Bool}{z:Int}(h:wH l.length (atB l P) z):(∃ k:Nat,z=k∧k<l.length∧l.findIdx? P=some k)∨(z = -1∧l.findIdx? P=none):=by
 rcases h with⟨k,hk,hf,hn,rfl⟩ | ⟨hn,rfl⟩
 ·refine Or.inl ⟨k,rfl,hk,?_⟩
  rw[List.findIdx?_eq_some_iff_getElem]
  refine⟨hk,(AV hk).symm.trans hf,fun j hj=>?_⟩
  have:=hn j hj
  rw[AV (by omega)] at this
  simpa using this
 ·refine Or.inr ⟨rfl,?_⟩
  rw[List.findIdx?_eq_none_iff]
  intro x hx
  obtain⟨j,hj,rfl⟩:=List.getElem_of_mem hx
  exact(AV hj).symm.trans (hn j hj)
theorem Cli.sV{lo:Nat}{w:World}{g:CG}(h:Cli lo w g):uV w lo 125 g.cv (g.calls.map (fun m=>m.blk)):=by
 have ho:w.ownsRow lo 125 1 g.cv g.calls.length (g.calls.map (fun m=>aJ m.blk)):=h.has.own h.rc (fun p hp=>by unfold CG.res CG.rest;simp only[List.mem_append];exact Or.inr (Or.inr (Or.inr (Or.inr (Or.inr (Or.inl hp))))))
 unfold uV
 rw[List.length_map,List.map_map]
 exact ho
theorem Cli.Ol{lo:Nat}{w:World}{g:CG}(h:Cli lo w g){i:Nat}(hi:i<g.calls.length):Has lo w g.calls[i].res :=
 h.call (l1:=g.calls.take i) (l2:=g.calls.drop (i+1)) (by rw[← List.drop_eq_getElem_cons hi,List.take_append_drop])
theorem Cli.lM{lo:Nat}{w:World}{g:CG}(h:Cli lo w g):¬ Key g.res w.heap.size:=fun hk=>by have:=(h.has.lt hk).2;omega
theorem gG.blk{lo:Nat}{w w':World}{g g':CG}{p:CP}{n:Nat}{T:TypeId}{xs:List Value}(h:gG lo w g p w' g')(hB:aK w n T xs)(hn:¬ Key g.res n):aK w' n T xs∧¬ Key g'.res n :=
 ⟨hB.dB h.grow.c hn,fun hk=>by
  rcases h.grow.k n hk with e | e
  ·exact hn e
  ·have:=hB.lt;omega⟩
def ahC(g:CG)(n:Nat)(e:Ending):Prop:=(g.st.qR n=none∧e=.returned (.pointer none))∨∃ i m,g.st.qR n=some i∧g.calls[i]? = some m∧e=.returned (.pointer (some ⟨m.blk,0,none⟩))
theorem aa4{lo:Nat}{w:World}{g:CG}(h:Cli lo w g)(hS:vS g.st)(n:Nat):
  Calls Tryz.prog 165 #[.pointer (some ⟨g.b,0,none⟩),.int .u64 n] w (fun e w'=>ahC g n e∧Below w.heap.size w w'):=by
 obtain⟨hs1,hs2,hs3,hs4,hs5,hs6⟩:=hS.g
 have hbw0:Below w.heap.size w (w.alloc (.cells #[.int .u64 n] 55)):=(Below.refl _ _).alloc (Nat.le_refl _) _
 have au:aK (w.alloc (.cells #[.int .u64 n] 55)) w.heap.size 55 [.int .u64 n]:=heap_alloc_new w _
 obtain⟨w0,dw⟩:∃ w0,w.alloc (.cells #[.int .u64 n] 55)=w0:=⟨_,rfl⟩
 rw[dw] at hbw0 au
 have e0:w0.cell? ⟨w.heap.size,0,none⟩=some (.int .u64 n):=au.cell 0
 have h0:=h.below hbw0
 obtain⟨sa,sc,hsv⟩:=h.rc.slice
 have Jc:w0.cell? ⟨g.b,17,none⟩=some (.slice sa g.calls.length sc):=(show w0.cell? ⟨g.b,17,none⟩=some g.cv from h0.blk.cell 17).trans (by rw[hsv])
 have HP:=hid h0.sV
 rw[hsv] at HP
 have LG:=hid hsv
 have HC:Hid (∀ wr,Below w0.heap.size w0 wr→∀ i (hi:i<(g.calls.map (fun m=>m.blk)).length),Calls Tryz.prog 203 #[aJ (g.calls.map (fun m=>m.blk))[i],.pointer (some ⟨w.heap.size,0,none⟩)] wr (fun e w'=>e=.returned (.bool (atB g.calls (fun m=>(decide (m.c.request=n)&&decide (m.c.kind=0))) i))∧Below wr.heap.size wr w')):=fun wr hwr i hi=>by
  have hi':i<g.calls.length:=by simpa using hi
  rw[AV hi',List.getElem_map]
  exact Gm ((h0.below hwr).Ol hi') w.heap.size n ((au.below hwr).cell 0)
 have HR:=hid (show g.st.qR n=g.calls.findIdx? (fun m=>(decide (m.c.request=n)&&decide (m.c.kind=0))) by
  unfold CP.qR CG.st
  simp only[List.findIdx?_map]
  rfl)
 have H:=hid h
 have Hb:=hid hbw0
 have hl:(g.calls.map (fun m=>m.blk)).length=g.calls.length:=by simp
 have HL:=hid hl
 clear h h0 au hbw0 hsv hl
 go_enter func165,ntmps165
 go_wp2_with fail
 refine(Ub w0 lo _ (g.calls.map (fun m=>m.blk)) w.heap.size _ HP.out (by have:=HL.out;omega) HC.out).mono ?_;rintro e w1 ⟨z,rfl,hz,hb1⟩
 rw[HL.out] at hz
 have hfi:=AX hz
 have hb3:=Hb.out.trans (hb1.mono Hb.out.size)
 clear hz HC hb1
 rcases hfi with⟨k,rfl,hk,hf⟩ | ⟨rfl,hf⟩
 ·have HN:=hid (HR.out.trans hf)
  have b0:decide ((k:Int)<0)=false:=by simp
  have H3:=H.out.below hb3
  obtain⟨ga,c,hav,hgl,hcell⟩:=H3.eY hk
  obtain⟨rfl,rfl⟩:sa=some ⟨ga,0,none⟩∧sc=c:=by simpa using LG.out.symm.trans hav
  have k17:w1.cell? ⟨g.b,17,none⟩=some (.slice (some ⟨ga,0,none⟩) g.calls.length sc):=(show w1.cell? ⟨g.b,17,none⟩=some g.cv from H3.blk.cell 17).trans (by rw[LG.out])
  have hck:w1.cell? ⟨ga,k,none⟩=some (.pointer (some ⟨g.calls[k].blk,0,none⟩)):=hcell
  have HM:=hid (List.getElem?_eq_getElem hk)
  generalize g.calls[k]=mm at *
  have hkI:(k:Int)<(g.calls.length:Int):=by omega
  clear hav hcell H3 hf
  go_wp2_with fail
  go_ret
  exact⟨Or.inr ⟨k,mm,HN.out,HM.out,rfl⟩,hb3⟩
 ·have HN:=hid (HR.out.trans hf)
  clear hf
  go_wp2_with fail
  go_ret
  exact⟨Or.inl ⟨HN.out,rfl⟩,hb3⟩
theorem Qa{α:Type}[Inhabited α]{enc:α → Value}{w:World}{lo g n c:Nat}{e:TypeId}{l:List α}(h:w.ownsRow lo e 1 (.slice (some ⟨g,0,none⟩) n c) n (l.map enc)):Go.Sort.Holds enc w g 0 l.toArray:=by
 intro j hj
 have hj':j<l.length:=by simpa using hj
 have h1:=h.cells (g:=g) rfl j (enc l[j]) (by simp[hj'])
 rw[fE _ _ rfl] at h1
 refine⟨?_,iD h _⟩
 have e1:l.toArray[j]! = l[j]:=by simp[hj']
 rw[e1]
 simpa using h1
theorem D6{α:Type}[Inhabited α](enc:α → Value)(l:List α)(cur:Array Value)(h:l.length≤cur.size):(Go.Sort.putCells enc 0 l.toArray cur).toList.take l.length=l.map enc:=by
 apply List.ext_getElem?
 intro k
 rcases Nat.lt_or_ge k l.length with hk | hk
 ·have hk2:k<cur.size:=by omega
  rw[List.getElem?_take_of_lt hk]
  unfold Go.Sort.putCells
  simp[hk,hk2]
 ·rw[List.getElem?_eq_none (by simp;omega),List.getElem?_eq_none (by simp;omega)]
theorem X3{α:Type}[Inhabited α]{enc:α → Value}{w:World}{lo g n c:Nat}{e:TypeId}{xs:List Value}{l:List α}(h:w.ownsRow lo e 1 (.slice (some ⟨g,0,none⟩) n c) n xs)(hl:l.length=n)(q m:Nat)(hm:m≤n):
  (Go.Sort.putRow enc (Go.Sort.ahead w q) g 0 l.toArray).ownsRow lo e 1 (.slice (some ⟨g,0,none⟩) m c) m ((l.take m).map enc)∧aG (fun k=>k=g) w (Go.Sort.putRow enc (Go.Sort.ahead w q) g 0 l.toArray):=by
 obtain⟨h1,h2⟩:=h
 rcases h2 with⟨hv,_⟩ | ⟨g',cap,cur,hv,hlo,hh,h3,h4,h5,h6⟩
 ·simp at hv
 ·obtain⟨rfl,rfl⟩:g=g'∧c=cap:=by simpa using hv
  have hg:g<w.heap.size:=(Array.getElem?_eq_some_iff.1 hh).1
  refine⟨⟨by simp;omega,Or.inr ⟨g,c,Go.Sort.putCells enc 0 l.toArray cur,rfl,hlo,?_,by omega,h4,by unfold Go.Sort.putCells;simp[h5],?_⟩⟩,rfl,rfl,rfl,?_,?_⟩
  ·show (w.heap.modify g (Go.Sort.onCells (Go.Sort.putCells enc 0 l.toArray)))[g]? = _
   rw[Array.getElem?_modify,if_pos rfl,hh]
   rfl
  ·have e1:=D6 enc l cur (by omega)
   rw[List.map_take,← e1,List.take_take,Nat.min_eq_left (by omega),Nat.mul_one]
  ·show w.heap.size≤(w.heap.modify g _).size
   simp
  ·intro k hk hne
   show (w.heap.modify g (Go.Sort.onCells (Go.Sort.putCells enc 0 l.toArray)))[k]? = _
   rw[Array.getElem?_modify,if_neg (fun e=>hne e.symm)]
theorem Ud{α:Type}(l:List α)(i:Nat)(z:α)(hi:i<l.length):(l.take i++l.drop (i+1)++List.replicate (i+1-i) z).take (l.length-1)=l.eraseIdx i:=by
 rw[List.eraseIdx_eq_take_drop_succ]
 rw[List.take_append_of_le_length (by simp;omega)]
 exact List.take_of_length_le (by simp;omega)
theorem X4{o:Option TypeInfo}{z:Option Value}{s b:Nat}(h:o.map (fun i=>(i.zero,i.size,i.bytes))=some (z,s,b)):∃ i,o=some i∧i.size=s:=by
 cases o with
 | none=>simp at h
 | some i=>exact⟨i,rfl,by simp at h;exact h.2.1⟩
theorem EJ{α β:Type}(f:α → β)(l:List α)(i:Nat):(l.map f).eraseIdx i=(l.eraseIdx i).map f:=by
 rw[List.eraseIdx_eq_take_drop_succ,List.eraseIdx_eq_take_drop_succ,List.map_append,List.map_take,List.map_drop]
def ptE(a:Option Addr):Value:=.pointer a
theorem Ue(l:List Nat):(l.map fun b=>(some ⟨b,0,none⟩:Option Addr)).map ptE=l.map aJ:=by simp[ptE,aJ]
theorem adW:OneCell ptE:=fun _=>rfl
theorem Tryz.infodelCalD:(Tryz.prog.info? 125).map (fun i=>(i.zero,i.size,i.bytes))=some (some (.pointer none),1,8):=by kernel_rfl
theorem aa5(w:World)(lo:Nat)(v:Value)(l:List Nat)(i:Nat)(h:w.ownsRow lo 125 1 v l.length (l.map aJ))(hi:i<l.length):
  Calls Tryz.prog 132 #[v,.int .i64 i,.int .i64 ((i:Int)+1)] w (fun e w'=>∃ v',e=.returned v'∧w'.ownsRow lo 125 1 v' (l.eraseIdx i).length ((l.eraseIdx i).map aJ)∧v'.ownBlock=v.ownBlock∧aG (fun k=>v.ownBlock=some k) w w'):=by
 rcases h.2 with⟨_,e⟩ | ⟨g,c,cur,rfl,h2,h3,h4,h5,h6,h7⟩
 ·omega
 rw[← Ue] at h
 obtain⟨i0,hi0,hz0⟩:=X4 Tryz.infodelCalD
 have hc:=Tryz.slices_Delete_calls (α:=Option Addr) ptE adW none (fun w=>by simp[go_sem,ptE]) i0 hi0 hz0 g 0 c i (i+1) (l.map fun b=>(some ⟨b,0,none⟩:Option Addr)).toArray w (Qa h) (by simp;omega) (by unfold maxLen at h5;omega) (by omega) (by simp;omega)
 simp only[List.size_toArray,List.length_map] at hc
 refine Calls.mono hc ?_
 rintro e w' ⟨rfl,q,rfl⟩
 have hp:=X3 (enc:=ptE) (l:=(l.map fun b=>(some ⟨b,0,none⟩:Option Addr)).take i++(l.map fun b=>(some ⟨b,0,none⟩:Option Addr)).drop (i+1)++List.replicate (i+1-i) none) h (by simp;omega) q (l.length-1) (by omega)
 have e1:l.length-1=(l.eraseIdx i).length:=by rw[List.length_eraseIdx_of_lt hi]
 have e2:=Ud (l.map fun b=>(some ⟨b,0,none⟩:Option Addr)) i none (by simpa using hi)
 rw[List.length_map] at e2
 rw[e2,EJ,Ue] at hp
 refine⟨_,rfl,?_,rfl,hp.2.mono (fun k _ hk=>by rw[hk];rfl)⟩
 rw[← e1,show l.length-(i+1-i)=l.length-1 by omega]
 exact hp.1
theorem Cli.adX{lo:Nat}{w w':World}{g:CG}{l1 l2:List jE}{m:jE}(h:Cli lo w g)(hs:g.calls=l1++m::l2)(v:Value)(hc:aG (fun k=>k=g.b∨g.cv.ownBlock=some k) w w')(hB:aK w' g.b 96 ({ g with cv:=v,calls:=l1++l2 }:CG).cells)
  (hA:w'.ownsRow lo 125 1 v (l1++l2).length ((l1++l2).map (fun m=>aJ m.blk))) (hnew:v.ownBlock=g.cv.ownBlock):gG lo w g ({ g with cv:=v,calls:=l1++l2 }:CG).st w' { g with cv:=v,calls:=l1++l2 }:=by
 obtain⟨hA1,hA2⟩:=jR hA (by decide)
 have hh:Has lo w' (({ g with cv:=v,calls:=l1++l2 }:CG).aU++dh 125 1 v (l1++l2).length ((l1++l2).map (fun m=>aJ m.blk))):=aA.2 ⟨dH h.Oa hB (by decide),hA1,fun a ha c hc' e=>by
  rw[List.mem_singleton.1 ha] at e
  have hk:=(bQ (e:=125) hA2).1 ⟨c,hc',rfl⟩
  have e':g.b=c.1:=e
  rw[← e'] at hk
  exact hB.dF hA (by decide) hk⟩
 have hg:Grow w (g.aU++(dh 125 1 g.cv g.calls.length (g.calls.map (fun m=>aJ m.blk))++m.res)) w' (({ g with cv:=v,calls:=l1++l2 }:CG).aU++dh 125 1 v (l1++l2).length ((l1++l2).map (fun m=>aJ m.blk))):=⟨hc.mono (fun i _ hi=>by
  rcases hi with rfl | hi
  ·exact Key.app.2 (Or.inl (Key.one.2 rfl))
  ·exact Key.app.2 (Or.inr (Key.app.2 (Or.inl ((bQ h.rc).2 hi))))),fun k hk=>by
  rcases Key.app.1 hk with e | e
  ·exact Or.inl (Key.app.2 (Or.inl (Key.one.2 ((Key.one.1 e).trans rfl))))
  ·exact Or.inl (Key.app.2 (Or.inr (Key.app.2 (Or.inl ((bQ h.rc).2 (hnew ▸ (bQ hA2).1 e))))))⟩
 have p1:g.res.Perm ((g.aU++(dh 125 1 g.cv g.calls.length (g.calls.map (fun m=>aJ m.blk))++m.res))++(g.aQ++(g.rowA++(dh 161 1 g.sv g.streams.length (g.streams.map (fun m=>aJ m.blk))++(g.streams.flatMap kZ.res++(l1.flatMap jE.res++l2.flatMap jE.res)))))):=(Cli.Oi hs).trans (aY (fun p=>by simp only[aH];omega))
 have p2:((({ g with cv:=v,calls:=l1++l2 }:CG).aU++dh 125 1 v (l1++l2).length ((l1++l2).map (fun m=>aJ m.blk)))++(g.aQ++(g.rowA++(dh 161 1 g.sv g.streams.length (g.streams.map (fun m=>aJ m.blk))++(g.streams.flatMap kZ.res++(l1.flatMap jE.res++l2.flatMap jE.res)))))).Perm ({ g with cv:=v,calls:=l1++l2 }:CG).res:=aY (fun p=>by
  show _=cnt p (({ g with cv:=v,calls:=l1++l2 }:CG).aU++(g.aQ++(g.rowA++(dh 161 1 g.sv g.streams.length (g.streams.map (fun m=>aJ m.blk))++(g.streams.flatMap kZ.res++(dh 125 1 v (l1++l2).length ((l1++l2).map (fun m=>aJ m.blk))++(l1++l2).flatMap jE.res))))))
  rw[List.flatMap_append]
  simp only[aH]
  omega)
 exact⟨⟨((h.has.perm p1).swap hh hg).perm p2,h.ra,h.rs,hA2,h.rv⟩,rfl,hg.swap.perm p1.symm p2,rfl,rfl,rfl,rfl,rfl⟩
theorem Cli.AY{g:CG}{l1 l2:List kZ}{m:kZ}(hs:g.streams=l1++m::l2):g.res.Perm (m.res++(g.aU++(g.aQ++(g.rowA++(dh 161 1 g.sv g.streams.length (g.streams.map (fun m=>aJ m.blk))++(l1.flatMap kZ.res++(l2.flatMap kZ.res++(dh 125 1 g.cv g.calls.length (g.calls.map (fun m=>aJ m.blk))++g.calls.flatMap jE.res)))))))):=aY (fun p=>by
 unfold CG.res CG.rest CG.rowA
 have e3:g.streams.flatMap kZ.res=l1.flatMap kZ.res++(m.res++l2.flatMap kZ.res):=by rw[hs];simp
 rw[e3]
 simp only[aH]
 omega)
end Go.Proofs.YtolfcabodiphmaaGreatDoor
