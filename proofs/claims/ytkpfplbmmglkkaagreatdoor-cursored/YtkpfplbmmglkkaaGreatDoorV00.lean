/- Short words for what the statements say over and over. -/
import Derived.Test.YtkpfplbmmglkkaaGreatDoorRows
import Derived.WalkKit
import Derived.WalkSpells
import Derived.WalkLawsBesides
import Derived.Deep.LoopGhost
import Derived.Deep.QuietTactic
import Derived.BigQuiet
import Derived.Deep.AppendLies
import Derived.Maps.AppendAt
import Derived.Conc.LoneSelect
import Derived.Laws.StructEq
import Derived.MapKept
import Derived.DeepKeys3
import Derived.Deep.RegionWith
import Derived.Below
import Derived.Laws.BytesArg
import Derived.Deep.CutRange
set_option linter.all false
set_option maxHeartbeats 2000000
set_option maxRecDepth 100000
namespace Go.RowKit
theorem Hid.o{p:Prop}(h:Hid p):p:=h
end Go.RowKit
namespace Go.Proofs.YtkpfplbmmglkkaaGreatDoor
open Go.Proofs.Tryz
open Go.RowKit
abbrev vU(x:Int):Value:=.int .u64 x
abbrev vI(x:Int):Value:=.int .i64 x
abbrev vB(x:Int):Value:=.int .u8 x
abbrev aM(b:Nat):Value:=.pointer (some ⟨b,0,none⟩)
abbrev aj(b i:Nat):Addr:=⟨b,i,none⟩
abbrev aT:=Calls Tryz.prog
theorem mH{k:IntKind}{a b:Int}(h:a=b):Ending.returned (.int k a)=.returned (.int k b):=by rw[h]
theorem bR{a b:Bool}(h:a=b):Ending.returned (.bool a)=.returned (.bool b):=by rw[h]
theorem U{p:Prop}(h:p):Hid p:=h
theorem aH{w w':World}{lo:Nat}{e:TypeId}{size n:Nat}{v:Value}{xs:List Value}(h:w.ownsRow lo e size v n xs)(hs:∀ g,v.ownBlock=some g→w'.heap[g]? = w.heap[g]?):w'.ownsRow lo e size v n xs:=by
 obtain⟨h1,h2⟩:=h;refine⟨h1,?_⟩
 rcases h2 with h2 | ⟨g,cap,cur,hv,hg,hh,r⟩
 ·exact Or.inl h2
 ·exact Or.inr ⟨g,cap,cur,hv,hg,by rw[hs g (by rw[hv];rfl)];exact hh,r⟩
theorem ax{w:World}{lo:Nat}{e:TypeId}{size n:Nat}{v:Value}{xs:List Value}(h:w.ownsRow lo e size v n xs):∃ a c,v=.slice a n c:=by
 rcases h.2 with⟨rfl,rfl⟩ | ⟨g,cap,cur,rfl,_⟩
 ·exact⟨none,0,rfl⟩
 ·exact⟨_,_,rfl⟩
theorem gB{w:World}{lo:Nat}{e:TypeId}{size n:Nat}{v:Value}{xs:List Value}(h:w.ownsRow lo e size v n xs){g:Nat}(hg:v.ownBlock=some g):∃ cur,w.heap[g]? = some (.cells cur e (0,0)):=by
 rcases h.2 with⟨rfl,_⟩ | ⟨g',cap,cur,rfl,_,hh,_⟩
 ·simp[Value.ownBlock] at hg
 ·simp[Value.ownBlock] at hg;subst hg;exact⟨cur,hh⟩
theorem JW{w:World}{lo lo':Nat}{e e':TypeId}{size aeb n n':Nat}{v v':Value}{xs xs':List Value}(h:w.ownsRow lo e size v n xs)(h':w.ownsRow lo' e' aeb v' n' xs')(he:e≠e'){g g':Nat}(hg:v.ownBlock=some g)(xR:v'.ownBlock=some g'):g≠g':=by
 intro hh;subst hh;obtain⟨c,hc⟩:=gB h hg;obtain⟨c',fZ⟩:=gB h' xR;rw[hc] at fZ;simp at fZ;exact he fZ.2
def bJ(c:UInt8):Value:=.int .u8 c.toNat
def fG(w:World)(lo:Nat)(v:Value)(L:List UInt8):Prop:=w.ownsRow lo 5 1 v L.length (L.map bJ)
theorem fG.same{w w':World}{lo:Nat}{v:Value}{L:List UInt8}(h:fG w lo v L)(hb:Below w.heap.size w w'):fG w' lo v L :=
 aH h (fun g hg=>hb.block g (h.lt g hg).2)
structure gd(w w':World)(v v':Value):Prop where
 g:w.grownBy w' v.ownBlock
 b:∀ k,v'.ownBlock=some k→v.ownBlock=some k∨w.heap.size≤k
theorem gd.refl(w:World)(v:Value):gd w w v v:=⟨World.grownBy.refl _ _,fun _ hk=>Or.inl hk⟩
theorem gd.trans{w w1 w2:World}{v v1 v2:Value}(h:gd w w1 v v1)(k:gd w1 w2 v1 v2):gd w w2 v v2:=by
 refine⟨⟨k.g.os.trans h.g.os,k.g.tape.trans h.g.tape,k.g.output.trans h.g.output,Nat.le_trans h.g.size k.g.size,fun q hq bT=>?_⟩,fun q hq=>?_⟩
 ·rw[k.g.block q (Nat.lt_of_lt_of_le hq h.g.size) (fun e=>?_),h.g.block q hq bT]
  rcases h.b q e.symm with e' | e'
  ·exact bT e'.symm
  ·omega
 ·rcases k.b q hq with e | e
  ·exact h.b q e
  ·exact Or.inr (Nat.le_trans h.g.size e)
theorem gd.call{w w':World}{v:Value}(hb:Below w.heap.size w w'):gd w w' v v:=⟨⟨hb.os,hb.tape,hb.output,hb.size,fun k hk _=>hb.block k hk⟩,fun _ hk=>Or.inl hk⟩
theorem gd.below{w w':World}{v v':Value}{B:Nat}(h:gd w w' v v')(hB:∀ k,v.ownBlock=some k→B≤k)(hw:B≤w.heap.size):Below B w w' :=
 (Below.refl B w).grown h.g hw hB
theorem Tryz.infoByte:(Tryz.prog.info? 5).map (fun i=>(i.zero,i.size,i.bytes))=some (some (.int .u8 0),1,1):=by kernel_rfl
theorem DZ(w:World){o:Oper}{a:Act}{K:Act→World→Prop}{Q:Exit→Act→World→Prop}(s x:Operand)
  (ho:o.op=.call { callee:=.builtin .append,args:=#[s,x],argTypes:=#[103,103] })
  (v:Value) (L:List UInt8) (lo:Nat) (hs:a.eval s=v) (hP:fG w lo v L) (v2:Value) (L2:List UInt8) (FZ:Nat) (hx:a.eval x=v2) (CE:fG w FZ v2 L2)
  (hlen:L.length+L2.length≤100000000000) (di:lo≤w.heap.size)
  (h:∀ a' c' w',fG w' lo (.slice a' (L++L2).length c') (L++L2)→gd w w' v (.slice a' (L++L2).length c')→K (a.put o.dst (.slice a' (L++L2).length c')) w'):o.wp Tryz.prog a w K Q:=by
 obtain⟨iI,rE,zj,uZ,zk⟩:=info_parts Tryz.infoByte
 obtain⟨v',w',hr,h2,h3⟩:∃ v' w',(Builtin.append_ #[103,103] o.type #[v,v2]).run Tryz.prog w=.ok v' w'∧fG w' lo v' (L++L2)∧gd w w' v v':=by
  rcases CE.2 with⟨rfl,h0⟩ | ⟨g,cap,cur,sB,_⟩
  ·have hL2:L2=[]:=List.eq_nil_of_length_eq_zero h0
   subst hL2;exact⟨v,w,run_append_owned_none w lo 103 o.type 5 iI 1 underlying103 rE v L.length _ hP,by simpa using hP,gd.refl _ _⟩
  ·subst sB
   obtain⟨v',w',hr,h2,h3,_,h5⟩:=run_append_own_at (P:=Tryz.prog) w lo 103 o.type 5 iI (.int .u8 0) 1 1 underlying103 rE zj uZ zk rfl (by decide) v L.length (L.map bJ) hP ⟨g,0,none⟩ L2.length cap (L2.map bJ) (by simp) (CE.cells (g:=g) rfl) (fun u hu=>by obtain⟨q,_,rfl⟩:=List.mem_map.1 hu;rfl) (by unfold maxLen;omega) (by omega) di;refine⟨v',w',hr,?_,h3,fun k hk=>?_⟩
   ·show w'.ownsRow _ _ _ _ _ _
    rw[List.length_append,List.map_append];exact h2
   ·rcases h5 with h5 | h5
    ·exact Or.inl (h5 ▸ hk)
    ·rw[hk] at h5;cases h5;exact Or.inr (Nat.le_refl _)
 obtain⟨a',c',Mr⟩:=ax h2;subst Mr;unfold Oper.wp execOp;simp only[ho,resolve,invoke,builtin,Sem.run_bind,Sem.run_pure,Result.andThen_ok,List.map_toArray,List.map_cons,List.map_nil,hs,hx,hr];exact h a' c' w' h2 h3
theorem ei(w:World){ops:Array Oper}{rest:List Oper}{o:Oper}{a:Act}{Q:Exit→Act→World→Prop}(JA:o.guard=none)(s x:Operand)
  (ho:o.op=.call { callee:=.builtin .append,args:=#[s,x],argTypes:=#[103,103] })
  (v:Value) (L:List UInt8) (lo:Nat) (hs:a.eval s=v) (hP:fG w lo v L) (v2:Value) (L2:List UInt8) (FZ:Nat) (hx:a.eval x=v2) (CE:fG w FZ v2 L2)
  (hlen:L.length+L2.length≤100000000000) (di:lo≤w.heap.size)
  (h:∀ a' c' w',fG w' lo (.slice a' (L++L2).length c') (L++L2)→gd w w' v (.slice a' (L++L2).length c')→wpList Tryz.prog ops Q rest (a.put o.dst (.slice a' (L++L2).length c')) w'):wpList Tryz.prog ops Q (o::rest) a w :=
 wpList_plain JA fun _ hK=>DZ w s x ho v L lo hs hP v2 L2 FZ hx CE hlen di fun a' c' w' h2 h3=>hK _ _ (h a' c' w' h2 h3)
theorem qP(w:World)(c:UInt8)(z:Int)(hz:z=(c.toNat:Int)):fG (w.alloc (.cells #[.int .u8 z] 5)) w.heap.size (.slice (some ⟨w.heap.size,0,none⟩) 1 1) [c]:=by
 subst hz;exact World.ownsRow_lit (base:=w.heap.size) (e:=5) (size:=1) w #[.int .u8 c.toNat] 1 (Nat.le_refl _) (by unfold maxLen;omega) rfl
theorem BU(w:World){o:Oper}{a:Act}{K:Act→World→Prop}{Q:Exit→Act→World→Prop}(s x:Operand)(t e:TypeId)(z:Value)(size bytes:Nat)
  (ho:o.op=.call { callee:=.builtin .append,args:=#[s,x],argTypes:=#[t,t] }) (ht:Tryz.prog.underlying t=some (.slice e)) (hi:(Tryz.prog.info? e).map (fun i=>(i.zero,i.size,i.bytes))=some (some z,size,bytes))
  (hzs:z.cells.size=size) (mI:0<size) (v:Value) (n:Nat) (xs:List Value) (lo:Nat) (hs:a.eval s=v) (hP:w.ownsRow lo e size v n xs) (ad:Addr) (m c:Nat) (news:List Value) (hx:a.eval x=.slice (some ad) m c)
  (hl:news.length=m*size) (F2:∀ j u,news[j]? = some u→w.cell? (ad.add j)=some u) (h1:∀ u∈news,u.oneCell'=true) (hlen:n+m≤maxLen) (zl:(n+m)*bytes≤140737488355328) (di:lo≤w.heap.size)
  (h:∀ a' c' w',w'.ownsRow lo e size (.slice a' (n+m) c') (n+m) (xs++news)→gd w w' v (.slice a' (n+m) c')→K (a.put o.dst (.slice a' (n+m) c')) w'):o.wp Tryz.prog a w K Q:=by
 obtain⟨iI,rE,zj,uZ,zk⟩:=info_parts hi;obtain⟨v',w',hr,h2,h3,_,h5⟩:=run_append_own_at (P:=Tryz.prog) w lo t o.type e iI z size bytes ht rE zj uZ zk hzs mI v n xs hP ad m c news hl F2 h1 hlen zl di;obtain⟨a',c',Mr⟩:=ax h2;subst Mr
 have hG:gd w w' v (.slice a' (n+m) c'):=⟨h3,fun k hk=>by
  rcases h5 with h5 | h5
  ·exact Or.inl (h5 ▸ hk)
  ·rw[hk] at h5;cases h5;exact Or.inr (Nat.le_refl _)⟩
 unfold Oper.wp execOp;simp only[ho,resolve,invoke,builtin,Sem.run_bind,Sem.run_pure,Result.andThen_ok,List.map_toArray,List.map_cons,List.map_nil,hs,hx,hr];exact h a' c' w' h2 hG
theorem cJ(w:World){ops:Array Oper}{rest:List Oper}{o:Oper}{a:Act}{Q:Exit→Act→World→Prop}(JA:o.guard=none)(s x:Operand)(t e:TypeId)(z:Value)(size bytes:Nat)
  (ho:o.op=.call { callee:=.builtin .append,args:=#[s,x],argTypes:=#[t,t] }) (ht:Tryz.prog.underlying t=some (.slice e)) (hi:(Tryz.prog.info? e).map (fun i=>(i.zero,i.size,i.bytes))=some (some z,size,bytes))
  (hzs:z.cells.size=size) (mI:0<size) (v:Value) (n:Nat) (xs:List Value) (lo:Nat) (hs:a.eval s=v) (hP:w.ownsRow lo e size v n xs) (ad:Addr) (m c:Nat) (news:List Value) (hx:a.eval x=.slice (some ad) m c)
  (hl:news.length=m*size) (F2:∀ j u,news[j]? = some u→w.cell? (ad.add j)=some u) (h1:∀ u∈news,u.oneCell'=true) (N:Nat) (hN:n+m=N) (X:List Value) (hX:xs++news=X) (hlen:n+m≤maxLen) (zl:(n+m)*bytes≤140737488355328) (di:lo≤w.heap.size)
  (h:∀ a' c' w',w'.ownsRow lo e size (.slice a' N c') N X→gd w w' v (.slice a' N c')→wpList Tryz.prog ops Q rest (a.put o.dst (.slice a' N c')) w'):wpList Tryz.prog ops Q (o::rest) a w:=by
 subst hN hX;exact wpList_plain JA fun _ hK=>BU w s x t e z size bytes ho ht hi hzs mI v n xs lo hs hP ad m c news hx hl F2 h1 hlen zl di fun a' c' w' h2 h3=>hK _ _ (h a' c' w' h2 h3)
end Go.Proofs.YtkpfplbmmglkkaaGreatDoor
namespace Go.Proofs.YtkpfplbmmglkkaaGreatDoor
open Go.Proofs.Tryz
open Go.RowKit Go.Conc
def Qy(P:Program)(c:Code)(Q:Exit→Act→World→Prop)(a:Act)(w:World):Prop :=
 ∀ (b:Frame) (k:List Item) (cs:List Frame),b.kind=.normal →
  ∃ e a' w',Q e a' w'∧Arrives P (lone (b.at a (.code c::k)) cs w) b k cs e a' w'
section
variable {P:Program} {Q:Exit→Act→World→Prop} {a:Act} {w:World}
theorem nL{c:Code}(h:c.wp P Q a w):Qy P c Q a w:=fun b k cs _=>h b k cs
theorem yJ{x y:Code}(h:Qy P x (Exit.then (Qy P y Q) Q) a w):Qy P (Code.seq x y) Q a w:=by
 intro b k cs hb;obtain⟨e,a₁,w₁,hq,gh⟩:=h b (.code y::k) cs hb
 cases e with
 | normal=>
  obtain⟨e₂,a₂,w₂,hq₂,gh₂⟩:=hq b k cs hb;exact⟨e₂,a₂,w₂,hq₂,.of_steps (.head step_seq gh) gh₂⟩
 | exit id=>exact⟨_,a₁,w₁,hq,.of_steps (.one step_seq) (.pass (x:=.code y) rfl (fun _ _=>.inl (by simp)) gh)⟩
 | goto l=>exact⟨_,a₁,w₁,hq,.of_steps (.one step_seq) (.pass (x:=.code y) rfl (fun _ _=>.inl (by simp)) gh)⟩
 | ret=>exact⟨_,a₁,w₁,hq,.of_steps (.one step_seq) (.pass (x:=.code y) rfl (fun _ _=>.inl (by simp)) gh)⟩
 | panic ch=>exact⟨_,a₁,w₁,hq,.of_steps (.one step_seq) (.pass (x:=.code y) rfl (fun _ _=>.inl (by simp)) gh)⟩
 | outgrown=>exact⟨_,a₁,w₁,hq,.of_steps (.one step_seq) (.pass (x:=.code y) rfl (fun _ _=>.inl (by simp)) gh)⟩
theorem fq{x y:Code}(h:∀ K:Act→World→Prop,(∀ a w,Qy P y Q a w→K a w)→x.wp P (Exit.then K Q) a w):Qy P (Code.seq x y) Q a w :=
 yJ (nL (h _ fun _ _ h=>h))
theorem CH{id:Nat}{c:Code}(h:Qy P c (Exit.inBlock id Q) a w):Qy P (Code.block id c) Q a w:=by
 intro b k cs hb;obtain⟨e,a₁,w₁,hq,gh⟩:=h b (.inBlock id::k) cs hb
 cases e with
 | normal=>exact⟨.normal,a₁,w₁,hq,.head step_block (Steps.trans gh (.one step_inBlock))⟩
 | exit id'=>
  by_cases U:id'=id
  ·simp only[Exit.inBlock,U,if_true] at hq
   exact⟨.normal,a₁,w₁,hq,.head step_block (gh k (by simp[exitTo,U]))⟩
  ·simp only[Exit.inBlock,U,if_false] at hq
   refine⟨.exit id',a₁,w₁,hq,fun k' hk=>.head step_block (gh k' ?_)⟩;have:(id==id')=false:=by simp;exact fun h=>U h.symm
   simp[exitTo,this,hk]
 | goto l=>exact⟨_,a₁,w₁,hq,fun k' hk=>.head step_block (gh k' (by simp[gotoIn,hk]))⟩
 | ret=>exact⟨_,a₁,w₁,hq,.of_steps (.one step_block) gh⟩
 | panic ch=>exact⟨_,a₁,w₁,hq,.of_steps (.one step_block) gh⟩
 | outgrown=>exact⟨_,a₁,w₁,hq,.of_steps (b:=b) (k:=k) (cs:=cs) (e:=.outgrown) (.one step_block) gh⟩
theorem Q7{c:Code}(I:Act→World→Prop)(μ:Act→World→Nat)(h₀:I a w)
  (round:∀ a w,I a w→Qy P c (Exit.then (fun a' w'=>I a' w' ∧ μ a' w' < μ a w) Q) a w):Qy P (Code.loop c) Q a w:=by
 intro b k cs hb
 have key:∀ n a w,μ a w=n→I a w→∃ e a' w',Q e a' w'∧Arrives P (lone (b.at a (.code c::.inLoop c::k)) cs w) b k cs e a' w':=by
  intro n
  induction n using Nat.strongRecOn with
  | _ n ih=>
   intro a w hn hI;obtain⟨e,a₁,w₁,hq,gh⟩:=round a w hI b (.inLoop c::k) cs hb
   cases e with
   | normal=>
    obtain⟨hI₁,bC⟩:=hq;obtain⟨e₂,a₂,w₂,hq₂,gh₂⟩:=ih (μ a₁ w₁) (hn ▸ bC) a₁ w₁ rfl hI₁;exact⟨e₂,a₂,w₂,hq₂,.of_steps (Steps.trans gh (.one step_inLoop)) gh₂⟩
   | exit id=>exact⟨_,a₁,w₁,hq,.pass (x:=.inLoop c) rfl (fun _ _=>.inl (by simp)) gh⟩
   | goto l=>exact⟨_,a₁,w₁,hq,.pass (x:=.inLoop c) rfl (fun _ _=>.inl (by simp)) gh⟩
   | ret=>exact⟨_,a₁,w₁,hq,.pass (x:=.inLoop c) rfl (fun _ _=>.inl (by simp)) gh⟩
   | panic ch=>exact⟨_,a₁,w₁,hq,.pass (x:=.inLoop c) rfl (fun _ _=>.inl (by simp)) gh⟩
   | outgrown=>exact⟨_,a₁,w₁,hq,.pass (x:=.inLoop c) rfl (fun _ _=>.inl (by simp)) gh⟩
 obtain⟨e,a',w',hq,gh⟩:=key _ a w rfl h₀;exact⟨e,a',w',hq,.of_steps (.one step_loop) gh⟩
def Ms(P:Program)(ops:Array Oper)(Q:Exit→Act→World→Prop)(l:List Nat)(a:Act)(w:World):Prop :=
 ∀ (b:Frame) (k:List Item) (cs:List Frame),b.kind=.normal →
  ∃ e a' w',Q e a' w'∧Arrives P (lone (b.at a (.inRegion ops l::k)) cs w) b k cs e a' w'
theorem sC{id:Nat}{ops:Array Oper}(h:Ms P ops Q (List.range ops.size) a w):Qy P (Code.region id ops false) Q a w :=
 fun b k cs hb=>let ⟨e,a',w',q,r⟩:=h b k cs hb;⟨e,a',w',q,.of_steps (.one step_region) r⟩
theorem yK{ops:Array Oper}(h:Q .normal a w):Ms P ops Q [] a w:=fun b k cs _=>⟨.normal,a,w,h,.one step_region_end⟩
theorem pX{ops:Array Oper}{i:Nat}{l:List Nat}{o:Oper}{v:Value}{w':World}(ho:ops[i]? = some o)(hw:Region.wanted o (yielded ops a.tmps)=true)(hr:(execOp a.eval o).run P w=.ok (.value v) w')(h:Ms P ops Q l (a.put o.dst v) w'):Ms P ops Q (i::l) a w:=by
 intro b k cs hb;obtain⟨e,a',vb,hq,gh⟩:=h b k cs hb;refine⟨e,a',vb,hq,.of_steps (.one (step_lone_go ?_)) gh⟩
 have rG:(b.at a (.inRegion ops (i::l)::k)).finish v=b.at (a.put o.dst v) (.inRegion ops l::k):=by
  rw[Frame.finish_at,ho];rfl
 rw[stepG_op (P:=P) (b:=b) (k:=k) (cs:=cs) (w:=w) (rest:=l) ho hw,← rG];simp[stepG.apply,hr]
theorem tQ{ops:Array Oper}{i:Nat}{l:List Nat}{o:Oper}{v:Value}{w':World}(ho:ops[i]? = some o)
  (hs:∀ (b:Frame) (k:List Item) (cs:List Frame),b.kind=.normal→step P (solo (G (b.at a (.inRegion ops (i::l)::k)) cs) w)=.next (solo (G ((b.at a (.inRegion ops (i::l)::k)).finish v) cs) w'))
  (h:Ms P ops Q l (a.put o.dst v) w'):Ms P ops Q (i::l) a w:=by
 intro b k cs hb;obtain⟨e,a',vb,hq,gh⟩:=h b k cs hb
 have rG:(b.at a (.inRegion ops (i::l)::k)).finish v=b.at (a.put o.dst v) (.inRegion ops l::k):=by
  rw[Frame.finish_at,ho];rfl
 have:=hs b k cs hb;rw[rG] at this;exact⟨e,a',vb,hq,.of_steps (.one this) gh⟩
theorem tR{b:Frame}(h:b.kind=.normal):b.kind≠.early:=by rw[h];intro e;cases e
theorem Q8{ops:Array Oper}{i:Nat}{l:List Nat}{o:Oper}{c cap s r:Nat}{buf:Array Value}{tm:Bool}{v z:Value}(ho:ops[i]? = some o)(hw:Region.wanted o (yielded ops a.tmps)=true)
  (hr:(execOp a.eval o).run P w=.ok (.comm #[scase c v z] false .select) w) (hc:w.heap[c]? = some (.chan cap buf false s r tm)) (aed:buf.size<cap)
  (h:Ms P ops Q l (a.put o.dst (.tuple #[goInt 0,.bool false])) (w.setChan c cap (buf.push v) false (s+1) r tm)):Ms P ops Q (i::l) a w :=
 tQ ho (fun _ _ _ hb=>step_lone_select_send_room (stepG_comm ho hw (tR hb) hr) hc aed) h
theorem Q9{ops:Array Oper}{i:Nat}{l:List Nat}{o:Oper}{c cap s r:Nat}{buf:Array Value}{tm:Bool}{v z:Value}(ho:ops[i]? = some o)(hw:Region.wanted o (yielded ops a.tmps)=true)
  (hr:(execOp a.eval o).run P w=.ok (.comm #[scase c v z] false .select) w) (hc:w.heap[c]? = some (.chan cap buf false s r tm)) (zm:cap≤buf.size)
  (h:Ms P ops Q l (a.put o.dst (.tuple #[goInt (-1),.bool false])) w):Ms P ops Q (i::l) a w :=
 tQ ho (fun _ _ _ hb=>step_lone_select_send_full (stepG_comm ho hw (tR hb) hr) hc zm) h
theorem Ra{ops:Array Oper}{i:Nat}{l:List Nat}{o:Oper}{c cap s r:Nat}{buf:Array Value}{tm:Bool}{z:Value}(ho:ops[i]? = some o)(hw:Region.wanted o (yielded ops a.tmps)=true)
  (hr:(execOp a.eval o).run P w=.ok (.comm #[rcase c z] false .select) w) (hc:w.heap[c]? = some (.chan cap buf false s r tm)) (Mt:0<buf.size)
  (h:Ms P ops Q l (a.put o.dst (.tuple #[goInt 0,.bool true,buf.getD 0 undef])) (w.setChan c cap (buf.extract 1 buf.size) false s (r+1) tm)):Ms P ops Q (i::l) a w :=
 tQ ho (fun _ _ _ hb=>step_lone_select_recv_buf (stepG_comm ho hw (tR hb) hr) hc Mt) h
theorem Rb{ops:Array Oper}{i:Nat}{l:List Nat}{o:Oper}{c cap s r:Nat}{tm:Bool}{z:Value}(ho:ops[i]? = some o)(hw:Region.wanted o (yielded ops a.tmps)=true)
  (hr:(execOp a.eval o).run P w=.ok (.comm #[rcase c z] false .select) w) (hc:w.heap[c]? = some (.chan cap #[] false s r tm))
  (h:Ms P ops Q l (a.put o.dst (.tuple #[goInt (-1),.bool false,z])) w):Ms P ops Q (i::l) a w :=
 tQ ho (fun _ _ _ hb=>step_lone_select_default (stepG_comm ho hw (tR hb) hr) hc) h
theorem oo{f:FuncId}{fn:Func}{c:Code}{args:Array Value}{R:Ending→World→Prop}(hf:P.funcs[f]? = some fn)(hb:fn.body=some c)
  (h:Qy P c (bodyPost P fn R) { tmps:=args++Array.replicate (fn.ntmps-args.size) undef,defers:=[] } w):Calls P f args w R:=by
 intro cs
 let b:Frame:={ (default:Frame) with fn:=f,kind:=.normal }
 have ZC:Frame.enter P f args .normal=b.at { tmps:=args++Array.replicate (fn.ntmps-args.size) undef,defers:=[] } [.code c]:=by
  simp[Frame.enter,Frame.at,hf,hb,b]
 obtain⟨e,a',w',hq,gh⟩:=h b [] cs rfl;rw[← ZC] at gh
 cases e with
 | normal=>
  obtain⟨hd,v,hr,hR⟩:=hq;exact⟨.returned v,w',_,hR,Steps.trans gh (.one step_end),rfl,rfl,hd,rfl,fn,hf,hr⟩
 | ret=>
  obtain⟨hd,v,hr,hR⟩:=hq;obtain⟨todo,hs⟩:=gh;exact⟨.returned v,w',_,hR,hs,rfl,rfl,hd,rfl,fn,hf,hr⟩
 | panic chain=>
  obtain⟨hd,hR⟩:=hq;obtain⟨todo,hs⟩:=gh;exact⟨.panicked chain,w',_,hR,hs,rfl,rfl,hd,fn,hf⟩
 | exit id=>exact hq.elim
 | goto l=>exact hq.elim
 | outgrown=>exact⟨.outgrown,w',b,hq,gh.resolve_left (by simp[b]),rfl,trivial⟩
end
end Go.Proofs.YtkpfplbmmglkkaaGreatDoor
namespace Go.Proofs.YtkpfplbmmglkkaaGreatDoor
open Go.Proofs.Tryz
open Go.RowKit
structure aQ(F:Nat→Prop)(w w':World):Prop where
 os:w'.os=w.os
 tape:w'.tape=w.tape
 output:w'.output=w.output
 size:w.heap.size≤w'.heap.size
 block:∀ k,k<w.heap.size→¬ F k→w'.heap[k]? = w.heap[k]?
theorem aQ.refl(F:Nat→Prop)(w:World):aQ F w w:=⟨rfl,rfl,rfl,Nat.le_refl _,fun _ _ _=>rfl⟩
theorem aQ.trans{F G:Nat→Prop}{a b c:World}(h:aQ F a b)(k:aQ G b c)(hg:∀ i,i<a.heap.size→G i→F i):aQ F a c :=
 ⟨k.os.trans h.os,k.tape.trans h.tape,k.output.trans h.output,Nat.le_trans h.size k.size,fun i hi hf=>(k.block i (Nat.lt_of_lt_of_le hi h.size) (fun e=>hf (hg i hi e))).trans (h.block i hi hf)⟩
theorem aQ.same{F:Nat→Prop}{a b c:World}(h:aQ F a b)(k:aQ F b c):aQ F a c:=h.trans k (fun _ _ e=>e)
theorem aQ.mono{F G:Nat→Prop}{a b:World}(h:aQ F a b)(hg:∀ i,i<a.heap.size→F i→G i):aQ G a b :=
 ⟨h.os,h.tape,h.output,h.size,fun i hi hf=>h.block i hi (fun e=>hf (hg i hi e))⟩
theorem aQ.aI{F:Nat→Prop}{a b:World}(h:Below a.heap.size a b):aQ F a b:=⟨h.os,h.tape,h.output,h.size,fun i hi _=>h.block i hi⟩
theorem aQ.below{F:Nat→Prop}{a b:World}(h:aQ F a b){B:Nat}(hB:B≤a.heap.size)(hF:∀ i,F i→B≤i):Below B a b :=
 ⟨h.os,h.tape,h.output,h.size,fun i hi=>h.block i (by omega) (fun e=>by have:=hF i e;omega)⟩
theorem aQ.oq{F:Nat→Prop}{a b c:World}(h:aQ F a b)(k:Below b.heap.size b c):aQ F a c:=h.same (aQ.aI k)
theorem aQ.alloc{F:Nat→Prop}{a b:World}(h:aQ F a b)(o:Obj):aQ F a (b.alloc o):=h.oq ((Below.refl _ _).alloc (Nat.le_refl _) o)
theorem aQ.drew{F:Nat→Prop}{a b:World}(h:aQ F a b):aQ F a b.drew:=⟨h.os,h.tape,h.output,h.size,h.block⟩
theorem aQ.setCell{F:Nat→Prop}{a b:World}(h:aQ F a b)(p:Addr)(u:Value)(hp:p.block<a.heap.size→F p.block):aQ F a (b.setCell p u) :=
 ⟨h.os,h.tape,h.output,by simpa using h.size,fun k hk hf=>by
  rw[Below.heap_setCell b p u k (fun e=>hf (e ▸ hp (e ▸ hk)))]
  exact h.block k hk hf⟩
theorem aQ.setChan{F:Nat→Prop}{a b:World}(h:aQ F a b)(c cap:Nat)(buf:Array Value)(cl:Bool)(s r:Nat)(tm:Bool)(hc:c<a.heap.size→F c):aQ F a (b.setChan c cap buf cl s r tm) :=
 ⟨h.os,h.tape,h.output,by simpa[World.setChan] using h.size,fun k hk hf=>by
  rw[← h.block k hk hf];simp only[World.setChan];have bT:c≠k:=fun e=>by subst e;exact hf (hc hk)
  rw[Array.getElem?_setIfInBounds_ne bT]⟩
theorem aQ.mZ{F:Nat→Prop}{a b:World}{v v':Value}(h:gd a b v v')(hv:∀ k,v.ownBlock=some k→F k):aQ F a b :=
 ⟨h.g.os,h.g.tape,h.g.output,h.g.size,fun k hk hf=>h.g.block k hk (fun e=>hf (hv k e.symm))⟩
theorem aQ.cell{F:Nat→Prop}{a b:World}(h:aQ F a b){p:Addr}(hp:p.block<a.heap.size)(hf:¬ F p.block):b.cell? p=a.cell? p:=World.cell?_of_block (w:=a) (h.block p.block hp hf)
theorem aQ.own{F:Nat→Prop}{a b:World}(h:aQ F a b){lo:Nat}{e:TypeId}{size n:Nat}{v:Value}{xs:List Value}(ho:a.ownsRow lo e size v n xs)(hf:∀ g,v.ownBlock=some g→¬ F g):b.ownsRow lo e size v n xs :=
 aH ho (fun g hg=>h.block g (ho.lt g hg).2 (hf g hg))
structure aS where
 kind:Nat
 ah:Nat
 ag:Nat
 number:Nat
 ai:Nat
 data:ByteArray
def pc(p:aS):Array Value:=#[.int .u8 p.kind,.int .u64 p.ah,.int .u64 p.ag,.int .u64 p.number,.int .u64 p.ai,.string p.data]
def pv(p:aS):Value:=.agg (pc p)
def tS(p q:aS):Bool:=((p.kind:Int)==q.kind)&&(((p.ah:Int)==q.ah)&&(((p.ag:Int)==q.ag)&&(((p.number:Int)==q.number)&&(((p.ai:Int)==q.ai)&&(p.data.toList==q.data.toList)))))
theorem tT{p q:aS}:tS p q=true↔p=q:=by
 obtain⟨a,b,c,d,e,f⟩:=p;obtain⟨a',b',c',d',e',f'⟩:=q;simp only[tS,Bool.and_eq_true,beq_iff_eq,aS.mk.injEq];constructor
 ·rintro⟨h1,h2,h3,h4,h5,h6⟩
  refine⟨by omega,by omega,by omega,by omega,by omega,?_⟩;rw[ByteArray.toList_eq,ByteArray.toList_eq] at h6;exact ByteArray.ext (Array.toList_inj.1 h6)
 ·rintro⟨rfl,rfl,rfl,rfl,rfl,rfl⟩
  simp
theorem CI:Tryz.prog.fieldsOf 125=#[{ name:= "Kind",type:=123,offset:=0,embedded:=false,tag:= "",pkgPath:= "",byteOffset:=0 },{ name:= "Token",type:=52,offset:=1,embedded:=false,tag:= "",pkgPath:= "",byteOffset:=8 },{ name:= "Session",type:=52,offset:=2,embedded:=false,tag:= "",pkgPath:= "",byteOffset:=16 },{ name:= "Number",type:=52,offset:=3,embedded:=false,tag:= "",pkgPath:= "",byteOffset:=24 },{ name:= "Position",type:=52,offset:=4,embedded:=false,tag:= "",pkgPath:= "",byteOffset:=32 },{ name:= "Data",type:=9,offset:=5,embedded:=false,tag:= "",pkgPath:= "",byteOffset:=40 }]:=by
 simp[Program.fieldsOf,underlying125]
theorem N5(w:World)(p q:aS):(Op.equal 125 (pv p) (pv q)).run Tryz.prog w=.ok (tS p q) w:=by
 unfold pv pc tS;rw[Op.equal,Op.maxDepth,run_equalIn_struct w 9999 125 _ _ (by rw[CI,underlying125]) Tryz.stoodInHeld125,CI];simp[Op.eqFields,go_sem]
 by_cases h1:(p.kind:Int)=q.kind
 ·by_cases h2:(p.ah:Int)=q.ah
  ·by_cases h3:(p.ag:Int)=q.ag
   ·by_cases h4:(p.number:Int)=q.number
    ·by_cases h5:(p.ai:Int)=q.ai
     ·by_cases h6:p.data.toList=q.data.toList
      ·simp[h1,h2,h3,h4,h5,h6]
      ·simp[h1,h2,h3,h4,h5,h6]
     ·simp[h1,h2,h3,h4,h5]
    ·simp[h1,h2,h3,h4]
   ·simp[h1,h2,h3]
  ·simp[h1,h2]
 ·simp[h1]
theorem JX(w:World)(em:Bool)(p:aS)(N:Nat):(Instr.checkKey em (N+1+1) 125 (pv p)).run Tryz.prog w=.ok () w:=by
 have h1:∀ z:Int,(Instr.checkKey em (N+1) 123 (.int .u8 z)).run Tryz.prog w=.ok () w:=fun z=>MapKept.run_checkKey underlying123 (by simp[MapKept.IsKey]) em N
 have h2:∀ z:Int,(Instr.checkKey em (N+1) 52 (.int .u64 z)).run Tryz.prog w=.ok () w:=fun z=>MapKept.run_checkKey underlying52 (by simp[MapKept.IsKey]) em N
 have h3:∀ z:ByteArray,(Instr.checkKey em (N+1) 9 (.string z)).run Tryz.prog w=.ok () w:=fun z=>MapKept.run_checkKey underlying9 (by simp[MapKept.IsKey]) em N
 generalize hM:N+1=M at *;rw[Instr.checkKey];unfold pv pc;simp[run_underlying underlying125,go_sem,h1,h2,h3]
theorem qQ(w:World)(em:Bool)(p:aS):(Instr.checkKey em 10000 125 (pv p)).run Tryz.prog w=.ok () w:=JX w em p 9998
theorem zn(w:World)(p:aS):∀ (es:List MapEntry) (L:List aS) (i:Nat),es.map (fun e=>e.key)=L.map pv→(Instr.findAsking 125 (pv p) es i).run Tryz.prog w=.ok ((L.findIdx? (tS p)).bind fun j=>(es[j]?).map fun e=>(i+j,e.val)) w
 | [],[],i,_=>by simp[Instr.findAsking]
 | [],_::_,i,h=>by simp at h
 | _::_,[],i,h=>by simp at h
 | e::es,q::L,i,h=>by
  simp only[List.map_cons,List.cons.injEq] at h;rw[Instr.findAsking];simp only[Sem.run_bind,h.1,N5,Result.andThen_ok]
  cases hb:tS p q with
  | true=>simp[List.findIdx?_cons,hb]
  | false=>
   simp only[Bool.false_eq_true,if_false,zn w p es L (i+1) h.2,List.findIdx?_cons,hb]
   congr 1
   cases L.findIdx? (tS p) with
   | none=>rfl
   | some j=>
    simp only[Option.bind_some,Option.map_some,List.getElem?_cons_succ]
    congr 1
    funext x
    congr 1
    omega
theorem tU(w:World)(p:aS)(es:List MapEntry)(L:List aS)(h:es.map (fun e=>e.key)=L.map pv):(Instr.findKey 125 (pv p) es).run Tryz.prog w=.ok ((L.findIdx? (tS p)).bind fun j=>(es[j]?).map fun e=>(j,e.val)) w:=by
 unfold Instr.findKey;simp only[Sem.run_bind,run_underlying underlying125,Result.andThen_ok]
 cases es with
 | nil=>
  cases L with
  | nil=>simp[Instr.findNow]
  | cons q L=>simp at h
 | cons e es=>
  have hn:∀ d:Array Field,Instr.findNow (.struct d) (pv p) (e::es) 0=none:=fun d=>by simp[Instr.findNow,Instr.sameNow,pv]
  rw[hn];simp only;rw[zn w p (e::es) L 0 h];simp
def cK(w:World)(m:Nat)(L:List aS):Prop:=∃ es clock,w.heap[m]? = some (.map es clock)∧es.toList.map (fun e=>e.key)=L.map pv∧∀ e∈es.toList,e.val=.agg #[]
theorem CJ{p:aS}{L:List aS}(h:¬ p∈L):L.findIdx? (tS p)=none:=by
 rw[List.findIdx?_eq_none_iff];intro x hx
 cases hb:tS p x with
 | false=>rfl
 | true=>exact absurd (tT.1 hb ▸ hx) h
theorem zo{p:aS}{L:List aS}(h:p∈L):∃ j,L.findIdx? (tS p)=some j∧j<L.length:=by
 cases e:L.findIdx? (tS p) with
 | none=>
  rw[List.findIdx?_eq_none_iff] at e;have:=e p h;rw[tT.2 rfl] at this;cases this
 | some j=>
  refine⟨j,rfl,?_⟩;rw[List.findIdx?_eq_some_iff_getElem] at e;exact e.1
def ot(p:aS)(L:List aS):Decidable (p∈L):=match h:L.findIdx? (tS p) with
 | some _=>.isTrue (by
  rw[List.findIdx?_eq_some_iff_getElem] at h;obtain⟨hj,hb,_⟩:=h;rw[tT.1 hb]
  exact List.getElem_mem hj)
 | none=>.isFalse (fun hp=>by
  obtain⟨j,e,_⟩:=zo hp;rw[e] at h
  cases h)
theorem N6(w:World):(zeroValue 249).run Tryz.prog w=.ok (.agg #[]) w:=by
 simp[go_sem]
theorem kq{w:World}{m:Nat}{L:List aS}(h:cK w m L)(p:aS):(Instr.lookup 82 (.map (some m)) (pv p) true).run Tryz.prog w=.ok (.tuple #[.agg #[],.bool (@decide (p∈L) (ot p L))]) w:=by
 obtain⟨es,clock,hb,hk,hv⟩:=h
 by_cases hp:p∈L
 ·obtain⟨j,hj,N7⟩:=zo hp
  have hlen:j<es.toList.length:=by have:=congrArg List.length hk;simp only[List.length_map] at this;omega
  have ou:=hv _ (List.getElem_mem hlen);have he:es[j]? = some es.toList[j]:=by rw[← Array.getElem?_toList,List.getElem?_eq_getElem hlen]
  simp[Instr.lookup,run_underlying underlying82,MapKept.run_getObj_map hb,qQ,tU w p es.toList L hk,hj,he,Result.andThen,hp];simpa using ou
 ·simp[Instr.lookup,run_underlying underlying82,MapKept.run_getObj_map hb,qQ,tU w p es.toList L hk,CJ hp,N6,Result.andThen,hp]
def mJ(w:World)(m:Nat)(p:aS):World:=match w.heap[m]? with
 | some (.map es clock)=>{ w with heap:=w.heap.setIfInBounds m (.map (es.push ⟨pv p,.agg #[],clock⟩) (clock+1)) }
 | _=>w
theorem JY{w:World}{m:Nat}{L:List aS}(h:cK w m L)(p:aS)(hp:¬ p∈L):(Instr.mapUpdate 82 (.map (some m)) (pv p) (.agg #[])).run Tryz.prog w=.ok () (mJ w m p):=by
 obtain⟨es,clock,hb,hk,hv⟩:=h;unfold mJ;rw[hb];simp[Instr.mapUpdate,run_underlying underlying82,MapKept.run_getObj_map hb,qQ,tU w p es.toList L hk,CJ hp,MapKept.run_setObj_map _ hb,Result.andThen]
theorem BV{w:World}{m:Nat}{L:List aS}(h:cK w m L)(p:aS):cK (mJ w m p) m (L++[p]):=by
 obtain⟨es,clock,hb,hk,hv⟩:=h;have bC:m<w.heap.size:=(Array.getElem?_eq_some_iff.1 hb).1;unfold mJ;rw[hb];refine⟨es.push ⟨pv p,.agg #[],clock⟩,clock+1,by simp[bC],by simp[hk],fun e he=>?_⟩;simp only[Array.toList_push,List.mem_append,List.mem_singleton] at he
 rcases he with he | rfl
 ·exact hv e he
 ·rfl
theorem wV{F:Nat→Prop}(w:World)(m:Nat)(p:aS)(hm:F m):aQ F w (mJ w m p):=by
 unfold mJ
 split
 ·refine⟨rfl,rfl,rfl,by simp,fun k hk hf=>?_⟩
  have bT:m≠k:=fun e=>by subst e;exact hf hm
  rw[Array.getElem?_setIfInBounds_ne bT]
 ·exact aQ.refl _ _
def mK(w:World)(m:Nat):World:=match w.heap[m]? with
 | some (.map es clock)=>{ w with heap:=w.heap.setIfInBounds m (.map (es.eraseIdxIfInBounds 0) clock) }
 | _=>w
theorem JZ{w:World}{m:Nat}{p:aS}{L:List aS}(h:cK w m (p::L))(ty:TypeId):(Builtin.delete_ #[82,125] ty #[.map (some m),pv p]).run Tryz.prog w=.ok (.tuple #[]) (mK w m):=by
 obtain⟨es,clock,hb,hk,hv⟩:=h;have hlen:0<es.toList.length:=by have:=congrArg List.length hk;simp only[List.length_map,List.length_cons] at this;omega
 have he:es[0]? = some es.toList[0]:=by rw[← Array.getElem?_toList,List.getElem?_eq_getElem hlen]
 have h0:(p::L).findIdx? (tS p)=some 0:=by rw[List.findIdx?_cons,tT.2 rfl];rfl
 unfold mK;rw[hb];simp[Builtin.delete_,run_underlying underlying82,MapKept.run_getObj_map hb,qQ,tU w p es.toList (p::L) hk,h0,he,MapKept.run_setObj_map _ hb,Result.andThen]
theorem BW{w:World}{m:Nat}{p:aS}{L:List aS}(h:cK w m (p::L)):cK (mK w m) m L:=by
 obtain⟨es,clock,hb,hk,hv⟩:=h;have bC:m<w.heap.size:=(Array.getElem?_eq_some_iff.1 hb).1
 have ht:(es.eraseIdxIfInBounds 0).toList=es.toList.tail:=by
  obtain⟨l⟩:=es;simp
 unfold mK;rw[hb];refine⟨es.eraseIdxIfInBounds 0,clock,by simp[bC],?_,fun e he=>?_⟩
 ·rw[ht,List.map_tail,hk];rfl
 ·rw[ht] at he
  exact hv e (List.mem_of_mem_tail he)
theorem F3{F:Nat→Prop}(w:World)(m:Nat)(hm:F m):aQ F w (mK w m):=by
 unfold mK
 split
 ·refine⟨rfl,rfl,rfl,by simp,fun k hk hf=>?_⟩
  have bT:m≠k:=fun e=>by subst e;exact hf hm
  rw[Array.getElem?_setIfInBounds_ne bT]
 ·exact aQ.refl _ _
open Go.Conc
def bo(up:Bool)(L:List aS)(p:aS):List aS :=
 letI:=ot p L
 if up=true∧¬ p∈L∧L.length<60 then L++[p] else L
def sD(w:World)(q:Nat)(L:List aS):Prop:=∃ s r,w.heap[q]? = some (.chan 60 (L.map pv).toArray false s r false)
theorem N8(w:World)(b q m:Nat)(L:List aS)(p:aS)(c6:w.cell? ⟨b,6,none⟩=some (.bool true))(c7:w.cell? ⟨b,7,none⟩=some (.chan (some q)))(c8:w.cell? ⟨b,8,none⟩=some (.map (some m)))(hq:sD w q L)(hm:cK w m L)(hp:¬ p∈L)(hl:L.length<60)(hb:b<w.heap.size):
  Calls Tryz.prog 106 #[.pointer (some ⟨b,0,none⟩),.agg #[.int .u8 p.kind,.int .u64 p.ah,.int .u64 p.ag,.int .u64 p.number,.int .u64 p.ai,.string p.data]] w (fun e w'=>e=.returned (.bool true)∧aQ (fun k=>k=q∨k=m) w w'∧sD w' q (L++[p])∧cK w' m (L++[p])):=by
 refine oo func106 rfl ?_
 simp only[ntmps106,List.size_toArray,List.length_cons,List.length_nil,Nat.reduceAdd,Nat.reduceSub,Array.replicate_succ,
   Array.replicate_zero,List.push_toArray,List.append_toArray,List.nil_append,List.cons_append]
 refine fq (fun K hK=>?_)
 go_wp2_with fail
 generalize ee:w.alloc (.cells #[.int .u8 p.kind,.int .u64 p.ah,.int .u64 p.ag,.int .u64 p.number,.int .u64 p.ai,.string p.data] 125)=w1;have aA:Below w.heap.size w w1:=by rw[← ee];exact(Below.refl _ _).alloc (Nat.le_refl _) _
 have ve:w1.heap[w.heap.size]? = some (.cells #[.int .u8 p.kind,.int .u64 p.ah,.int .u64 p.ag,.int .u64 p.number,.int .u64 p.ai,.string p.data] 125 (0,0)):=by rw[← ee];exact heap_alloc_new w _
 have d6:w1.cell? ⟨b,6,none⟩=some (.bool true):=(aA.cell (p:=⟨b,6,none⟩) hb).trans c6;have d7:w1.cell? ⟨b,7,none⟩=some (.chan (some q)):=(aA.cell (p:=⟨b,7,none⟩) hb).trans c7;have d8:w1.cell? ⟨b,8,none⟩=some (.map (some m)):=(aA.cell (p:=⟨b,8,none⟩) hb).trans c8;have e0:w1.cell? ⟨w.heap.size,0,none⟩=some (.int .u8 p.kind):=by simp[World.cell?,ve]
 have e1:w1.cell? ⟨w.heap.size,1,none⟩=some (.int .u64 p.ah):=by simp[World.cell?,ve]
 have e2:w1.cell? ⟨w.heap.size,2,none⟩=some (.int .u64 p.ag):=by simp[World.cell?,ve]
 have e3:w1.cell? ⟨w.heap.size,3,none⟩=some (.int .u64 p.number):=by simp[World.cell?,ve]
 have e4:w1.cell? ⟨w.heap.size,4,none⟩=some (.int .u64 p.ai):=by simp[World.cell?,ve]
 have e5:w1.cell? ⟨w.heap.size,5,none⟩=some (.string p.data):=by simp[World.cell?,ve]
 obtain⟨s,r,J0⟩:=hq;have hql:q<w.heap.size:=(Array.getElem?_eq_some_iff.1 J0).1
 have wX:cK w1 m L:=by
  obtain⟨es,clock,h1,h2⟩:=hm;exact⟨es,clock,(aA.block m (Array.getElem?_eq_some_iff.1 h1).1).trans h1,h2⟩
 have JB:m<w.heap.size:=by
  obtain⟨es,clock,h1,h2⟩:=hm;exact(Array.getElem?_eq_some_iff.1 h1).1
 have Qz:w1.heap[q]? = some (.chan 60 (L.map pv).toArray false s r false):=(aA.block q hql).trans J0
 have Mu:(Instr.lookup 82 (.map (some m)) (.agg #[.int .u8 p.kind,.int .u64 p.ah,.int .u64 p.ag,.int .u64 p.number,.int .u64 p.ai,.string p.data]) true).run Tryz.prog w1.drew=.ok (.tuple #[.agg #[],.bool false]) w1.drew:=by
  have:=kq (w:=w1.drew) wX p;rwa [@decide_eq_false _ (ot p L) hp] at this
 have CK:=aA.size;have ov:w.heap.size<w1.heap.size:=(Array.getElem?_eq_some_iff.1 ve).1;obtain⟨w2,dX⟩:∃ w2,w1.alloc (.cells #[] 249)=w2:=⟨_,rfl⟩
 have aW:Below w1.heap.size w1 w2:=by rw[← dX];exact(Below.refl _ _).alloc (Nat.le_refl _) _
 have f8:(w1.alloc (.cells #[] 249)).cell? ⟨b,8,none⟩=some (.map (some m)):=by rw[dX];exact(aW.cell (p:=⟨b,8,none⟩) (Nat.lt_of_lt_of_le hb CK)).trans d8
 have g0:(w1.alloc (.cells #[] 249)).cell? ⟨w.heap.size,0,none⟩=some (.int .u8 p.kind):=by rw[dX];exact(aW.cell (p:=⟨w.heap.size,0,none⟩) ov).trans e0
 have g1:(w1.alloc (.cells #[] 249)).cell? ⟨w.heap.size,1,none⟩=some (.int .u64 p.ah):=by rw[dX];exact(aW.cell (p:=⟨w.heap.size,1,none⟩) ov).trans e1
 have g2:(w1.alloc (.cells #[] 249)).cell? ⟨w.heap.size,2,none⟩=some (.int .u64 p.ag):=by rw[dX];exact(aW.cell (p:=⟨w.heap.size,2,none⟩) ov).trans e2
 have g3:(w1.alloc (.cells #[] 249)).cell? ⟨w.heap.size,3,none⟩=some (.int .u64 p.number):=by rw[dX];exact(aW.cell (p:=⟨w.heap.size,3,none⟩) ov).trans e3
 have g4:(w1.alloc (.cells #[] 249)).cell? ⟨w.heap.size,4,none⟩=some (.int .u64 p.ai):=by rw[dX];exact(aW.cell (p:=⟨w.heap.size,4,none⟩) ov).trans e4
 have g5:(w1.alloc (.cells #[] 249)).cell? ⟨w.heap.size,5,none⟩=some (.string p.data):=by rw[dX];exact(aW.cell (p:=⟨w.heap.size,5,none⟩) ov).trans e5
 have pY:cK (w1.alloc (.cells #[] 249)) m L:=by
  obtain⟨es,clock,h1,h2⟩:=wX;exact⟨es,clock,by rw[dX];exact(aW.block m (Array.getElem?_eq_some_iff.1 h1).1).trans h1,h2⟩
 have BX:(Instr.lookup 82 (.map (some m)) (.agg #[.int .u8 p.kind,.int .u64 p.ah,.int .u64 p.ag,.int .u64 p.number,.int .u64 p.ai,.string p.data]) true).run Tryz.prog (w1.alloc (.cells #[] 249)).drew=.ok (.tuple #[.agg #[],.bool false]) (w1.alloc (.cells #[] 249)).drew:=by
  have:=kq (w:=(w1.alloc (.cells #[] 249)).drew) pY p;rwa [@decide_eq_false _ (ot p L) hp] at this
 clear dX aW pY;have HM:=U hm;have HM1:=U wX;have HP:=U hp;have zq:=U Qz;have HH1:=U ve;clear hm wX hp Qz J0 ve ee c6 c7 c8;refine fq (fun K hK=>?_)
 go_wp2_with fail
 refine fq (fun K hK=>?_)
 go_wp2_with fail
 go_region
 all_goals
  go_wp2_with fail
  obtain⟨w3,iK⟩:∃ w3,(w1.alloc (.cells #[] 249)).drew=w3:=⟨_,rfl⟩
  rw[iK];have bP:Below w1.heap.size w1 w3:=by rw[← iK];exact((Below.refl _ _).alloc (Nat.le_refl _) _).drew
  have BD:=bP.size;have k7:w3.cell? ⟨b,7,none⟩=some (.chan (some q)):=(bP.cell (p:=⟨b,7,none⟩) (Nat.lt_of_lt_of_le hb CK)).trans d7;have k8:w3.cell? ⟨b,8,none⟩=some (.map (some m)):=(bP.cell (p:=⟨b,8,none⟩) (Nat.lt_of_lt_of_le hb CK)).trans d8;have l0:w3.cell? ⟨w.heap.size,0,none⟩=some (.int .u8 p.kind):=(bP.cell (p:=⟨w.heap.size,0,none⟩) ov).trans e0;have l1:w3.cell? ⟨w.heap.size,1,none⟩=some (.int .u64 p.ah):=(bP.cell (p:=⟨w.heap.size,1,none⟩) ov).trans e1;have l2:w3.cell? ⟨w.heap.size,2,none⟩=some (.int .u64 p.ag):=(bP.cell (p:=⟨w.heap.size,2,none⟩) ov).trans e2;have l3:w3.cell? ⟨w.heap.size,3,none⟩=some (.int .u64 p.number):=(bP.cell (p:=⟨w.heap.size,3,none⟩) ov).trans e3;have l4:w3.cell? ⟨w.heap.size,4,none⟩=some (.int .u64 p.ai):=(bP.cell (p:=⟨w.heap.size,4,none⟩) ov).trans e4;have l5:w3.cell? ⟨w.heap.size,5,none⟩=some (.string p.data):=(bP.cell (p:=⟨w.heap.size,5,none⟩) ov).trans e5;have CL:=U ((bP.block q (by omega)).trans zq.o)
  have Mv:Hid (cK w3 m L):=by
   obtain⟨es,clock,h1,h2⟩:=HM1.o;exact⟨es,clock,(bP.block m (by omega)).trans h1,h2⟩
  clear iK d6 d7 d8 e0 e1 e2 e3 e4 e5 f8 g0 g1 g2 g3 g4 g5 Mu BX;refine fq (fun K hK=>?_)
  go_wp2_with fail
  refine yJ ?_;refine sC ?_;refine Q8 (c:=q) (cap:=60) (buf:=(L.map pv).toArray) (s:=s) (r:=r) (tm:=false) (v:=pv p) rfl rfl (by simp[go_sem,execOp,scase,Act.eval,pv,pc];rfl) CL.o (by simpa using hl) ?_;obtain⟨w4,tV⟩:∃ w4,w3.setChan q 60 ((L.map pv).toArray.push (pv p)) false (s+1) r false=w4:=⟨_,rfl⟩
  rw[tV];refine pX (v:=.int .i64 0) (w':=w4) rfl rfl (by simp[go_sem,goInt]) ?_;refine pX (v:=.bool true) (w':=w4) rfl rfl (by simp[go_sem]) ?_;refine yK ?_;refine nL ?_;have jr:aQ (fun k=>k=q) w3 w4:=by rw[← tV];exact(aQ.refl _ _).setChan _ _ _ _ _ _ _ (fun _=>rfl)
  have Yj:=jr.size
  have hqb:b≠q:=fun e=>by
   have h1:=CL.o;rw[← e] at h1;have h2:=k8;simp only[World.cell?,h1] at h2;cases h2
  have hqm:m≠q:=fun e=>by
   obtain⟨es,clock,h1,_⟩:=Mv.o;rw[e,CL.o] at h1;cases h1
  have m8:w4.cell? ⟨b,8,none⟩=some (.map (some m)):=(jr.cell (p:=⟨b,8,none⟩) (by show b<w3.heap.size;omega) hqb).trans k8;have bT:¬ w.heap.size=q:=by omega
  have FM:w.heap.size<w3.heap.size:=by omega
  have n0:w4.cell? ⟨w.heap.size,0,none⟩=some (.int .u8 p.kind):=(jr.cell (p:=⟨w.heap.size,0,none⟩) FM bT).trans l0;have n1:w4.cell? ⟨w.heap.size,1,none⟩=some (.int .u64 p.ah):=(jr.cell (p:=⟨w.heap.size,1,none⟩) FM bT).trans l1;have n2:w4.cell? ⟨w.heap.size,2,none⟩=some (.int .u64 p.ag):=(jr.cell (p:=⟨w.heap.size,2,none⟩) FM bT).trans l2;have n3:w4.cell? ⟨w.heap.size,3,none⟩=some (.int .u64 p.number):=(jr.cell (p:=⟨w.heap.size,3,none⟩) FM bT).trans l3;have n4:w4.cell? ⟨w.heap.size,4,none⟩=some (.int .u64 p.ai):=(jr.cell (p:=⟨w.heap.size,4,none⟩) FM bT).trans l4;have n5:w4.cell? ⟨w.heap.size,5,none⟩=some (.string p.data):=(jr.cell (p:=⟨w.heap.size,5,none⟩) FM bT).trans l5
  have HM4:Hid (cK w4 m L):=by
   obtain⟨es,clock,h1,h2⟩:=Mv.o;exact⟨es,clock,(jr.block m (by omega) hqm).trans h1,h2⟩
  have ZD:Hid (sD w4 q (L++[p])):=⟨s+1,r,by
   rw[← tV,heap_setChan _ _ _ _ _ _ _ _ (by omega)]
   simp⟩
  have Vu:(Instr.mapUpdate 82 (.map (some m)) (.agg #[.int .u8 p.kind,.int .u64 p.ah,.int .u64 p.ag,.int .u64 p.number,.int .u64 p.ai,.string p.data]) (.agg #[])).run Tryz.prog w4.drew=.ok () (mJ w4.drew m p):=JY (w:=w4.drew) HM4.o p HP.o;clear tV k7 k8 l0 l1 l2 l3 l4 l5
  go_wp2_with fail
  go_region
  all_goals
   go_wp2_with fail
   go_ret
   have c1:aQ (fun k=>k=q∨k=m) w w3:=aQ.aI (aA.trans (bP.mono CK));have c2:aQ (fun k=>k=q∨k=m) w3 w4:=jr.mono (fun i _ h=>Or.inl h);have c3:aQ (fun k=>k=q∨k=m) w4 (mJ w4.drew m p):=((aQ.refl _ w4).drew).same (wV _ m p (Or.inr rfl));refine⟨rfl,c1.same (c2.same c3),?_,BV (w:=w4.drew) HM4.o p⟩;obtain⟨s',r',h⟩:=ZD.o;exact⟨s',r',((wV (F:=fun k=>k=m) w4.drew m p rfl).block q (by show q<w4.heap.size;omega) (fun e=>hqm e.symm)).trans h⟩
theorem N9(w:World)(b:Nat)(p:aS)(c6:w.cell? ⟨b,6,none⟩=some (.bool false))(hb:b<w.heap.size):
  Calls Tryz.prog 106 #[.pointer (some ⟨b,0,none⟩),.agg #[.int .u8 p.kind,.int .u64 p.ah,.int .u64 p.ag,.int .u64 p.number,.int .u64 p.ai,.string p.data]] w (fun e w'=>e=.returned (.bool false)∧Below w.heap.size w w'):=by
 have aA:Below w.heap.size w (w.alloc (.cells #[.int .u8 p.kind,.int .u64 p.ah,.int .u64 p.ag,.int .u64 p.number,.int .u64 p.ai,.string p.data] 125)):=(Below.refl _ _).alloc (Nat.le_refl _) _;have d6:=(aA.cell (p:=⟨b,6,none⟩) hb).trans c6;clear c6
 go_enter func106,ntmps106
 go_wp2_with fail
 go_ret
 exact⟨rfl,aA⟩
theorem J1(w:World)(b q m:Nat)(L:List aS)(p:aS)(c6:w.cell? ⟨b,6,none⟩=some (.bool true))(c7:w.cell? ⟨b,7,none⟩=some (.chan (some q)))(c8:w.cell? ⟨b,8,none⟩=some (.map (some m)))(hq:sD w q L)(hm:cK w m L)(hp:p∈L)(hb:b<w.heap.size):
  Calls Tryz.prog 106 #[.pointer (some ⟨b,0,none⟩),.agg #[.int .u8 p.kind,.int .u64 p.ah,.int .u64 p.ag,.int .u64 p.number,.int .u64 p.ai,.string p.data]] w (fun e w'=>e=.returned (.bool true)∧Below w.heap.size w w'):=by
 obtain⟨w1,ee⟩:∃ w1,w.alloc (.cells #[.int .u8 p.kind,.int .u64 p.ah,.int .u64 p.ag,.int .u64 p.number,.int .u64 p.ai,.string p.data] 125)=w1:=⟨_,rfl⟩
 have aA:Below w.heap.size w w1:=by rw[← ee];exact(Below.refl _ _).alloc (Nat.le_refl _) _
 have ve:w1.heap[w.heap.size]? = some (.cells #[.int .u8 p.kind,.int .u64 p.ah,.int .u64 p.ag,.int .u64 p.number,.int .u64 p.ai,.string p.data] 125 (0,0)):=by rw[← ee];exact heap_alloc_new w _
 have d6:w1.cell? ⟨b,6,none⟩=some (.bool true):=(aA.cell (p:=⟨b,6,none⟩) hb).trans c6;have d7:w1.cell? ⟨b,7,none⟩=some (.chan (some q)):=(aA.cell (p:=⟨b,7,none⟩) hb).trans c7;have d8:w1.cell? ⟨b,8,none⟩=some (.map (some m)):=(aA.cell (p:=⟨b,8,none⟩) hb).trans c8;have e0:w1.cell? ⟨w.heap.size,0,none⟩=some (.int .u8 p.kind):=by simp[World.cell?,ve]
 have e1:w1.cell? ⟨w.heap.size,1,none⟩=some (.int .u64 p.ah):=by simp[World.cell?,ve]
 have e2:w1.cell? ⟨w.heap.size,2,none⟩=some (.int .u64 p.ag):=by simp[World.cell?,ve]
 have e3:w1.cell? ⟨w.heap.size,3,none⟩=some (.int .u64 p.number):=by simp[World.cell?,ve]
 have e4:w1.cell? ⟨w.heap.size,4,none⟩=some (.int .u64 p.ai):=by simp[World.cell?,ve]
 have e5:w1.cell? ⟨w.heap.size,5,none⟩=some (.string p.data):=by simp[World.cell?,ve]
 obtain⟨s,r,J0⟩:=hq;have hql:q<w.heap.size:=(Array.getElem?_eq_some_iff.1 J0).1
 have wX:cK w1 m L:=by
  obtain⟨es,clock,h1,h2⟩:=hm;exact⟨es,clock,(aA.block m (Array.getElem?_eq_some_iff.1 h1).1).trans h1,h2⟩
 have JB:m<w.heap.size:=by
  obtain⟨es,clock,h1,h2⟩:=hm;exact(Array.getElem?_eq_some_iff.1 h1).1
 have Qz:w1.heap[q]? = some (.chan 60 (L.map pv).toArray false s r false):=(aA.block q hql).trans J0
 have Mu:(Instr.lookup 82 (.map (some m)) (.agg #[.int .u8 p.kind,.int .u64 p.ah,.int .u64 p.ag,.int .u64 p.number,.int .u64 p.ai,.string p.data]) true).run Tryz.prog w1.drew=.ok (.tuple #[.agg #[],.bool true]) w1.drew:=by
  have:=kq (w:=w1.drew) wX p;rwa [@decide_eq_true _ (ot p L) hp] at this
 have CK:=aA.size;have ov:w.heap.size<w1.heap.size:=(Array.getElem?_eq_some_iff.1 ve).1;obtain⟨w2,dX⟩:∃ w2,w1.alloc (.cells #[] 249)=w2:=⟨_,rfl⟩
 have aW:Below w1.heap.size w1 w2:=by rw[← dX];exact(Below.refl _ _).alloc (Nat.le_refl _) _
 have f8:(w1.alloc (.cells #[] 249)).cell? ⟨b,8,none⟩=some (.map (some m)):=by rw[dX];exact(aW.cell (p:=⟨b,8,none⟩) (Nat.lt_of_lt_of_le hb CK)).trans d8
 have g0:(w1.alloc (.cells #[] 249)).cell? ⟨w.heap.size,0,none⟩=some (.int .u8 p.kind):=by rw[dX];exact(aW.cell (p:=⟨w.heap.size,0,none⟩) ov).trans e0
 have g1:(w1.alloc (.cells #[] 249)).cell? ⟨w.heap.size,1,none⟩=some (.int .u64 p.ah):=by rw[dX];exact(aW.cell (p:=⟨w.heap.size,1,none⟩) ov).trans e1
 have g2:(w1.alloc (.cells #[] 249)).cell? ⟨w.heap.size,2,none⟩=some (.int .u64 p.ag):=by rw[dX];exact(aW.cell (p:=⟨w.heap.size,2,none⟩) ov).trans e2
 have g3:(w1.alloc (.cells #[] 249)).cell? ⟨w.heap.size,3,none⟩=some (.int .u64 p.number):=by rw[dX];exact(aW.cell (p:=⟨w.heap.size,3,none⟩) ov).trans e3
 have g4:(w1.alloc (.cells #[] 249)).cell? ⟨w.heap.size,4,none⟩=some (.int .u64 p.ai):=by rw[dX];exact(aW.cell (p:=⟨w.heap.size,4,none⟩) ov).trans e4
 have g5:(w1.alloc (.cells #[] 249)).cell? ⟨w.heap.size,5,none⟩=some (.string p.data):=by rw[dX];exact(aW.cell (p:=⟨w.heap.size,5,none⟩) ov).trans e5
 have pY:cK (w1.alloc (.cells #[] 249)) m L:=by
  obtain⟨es,clock,h1,h2⟩:=wX;exact⟨es,clock,by rw[dX];exact(aW.block m (Array.getElem?_eq_some_iff.1 h1).1).trans h1,h2⟩
 have BX:(Instr.lookup 82 (.map (some m)) (.agg #[.int .u8 p.kind,.int .u64 p.ah,.int .u64 p.ag,.int .u64 p.number,.int .u64 p.ai,.string p.data]) true).run Tryz.prog (w1.alloc (.cells #[] 249)).drew=.ok (.tuple #[.agg #[],.bool true]) (w1.alloc (.cells #[] 249)).drew:=by
  have:=kq (w:=(w1.alloc (.cells #[] 249)).drew) pY p;rwa [@decide_eq_true _ (ot p L) hp] at this
 have bP:Below w1.heap.size w1 (w1.alloc (.cells #[] 249)).drew:=by rw[dX];exact aW.drew
 have D2:=aA.trans (bP.mono CK);clear dX aW pY hm wX hp Qz J0 ve c6 c7 c8 bP
 go_enter func106,ntmps106
 go_wp2_with fail
 go_region
 all_goals
  go_wp2_with fail
  go_ret
  exact⟨rfl,D2⟩
def aZ(w:World)(b:Nat)(T:TypeId)(xs:List Value):Prop:=w.heap[b]? = some (.cells xs.toArray T (0,0))
theorem aZ.lt{w:World}{b:Nat}{T:TypeId}{xs:List Value}(h:aZ w b T xs):b<w.heap.size:=(Array.getElem?_eq_some_iff.1 h).1
theorem aZ.cell{w:World}{b:Nat}{T:TypeId}{xs:List Value}(h:aZ w b T xs)(i:Nat):w.cell? ⟨b,i,none⟩=xs[i]?:=by
 have:w.heap[b]? = some (.cells xs.toArray T (0,0)):=h;simp[World.cell?,this]
theorem aZ.aq{w:World}{b:Nat}{T:TypeId}{xs:List Value}(h:aZ w b T xs)(i:Nat):w.frozen? ⟨b,i,none⟩=false:=by
 have:w.heap[b]? = some (.cells xs.toArray T (0,0)):=h;simp[World.frozen?,this]
theorem aZ.set{w:World}{b:Nat}{T:TypeId}{xs:List Value}(h:aZ w b T xs)(i:Nat)(v:Value):aZ (w.setCell ⟨b,i,none⟩ v) b T (xs.set i v):=by
 unfold aZ;rw[heap_setCell_same w b i xs.toArray T v h];simp
theorem aZ.dW{F:Nat→Prop}{w w':World}{b:Nat}{T:TypeId}{xs:List Value}(h:aZ w b T xs)(hc:aQ F w w')(hf:¬ F b):aZ w' b T xs:=(hc.block b h.lt hf).trans h
theorem aZ.below{w w':World}{b:Nat}{T:TypeId}{xs:List Value}(h:aZ w b T xs)(hc:Below w.heap.size w w'):aZ w' b T xs:=(hc.block b h.lt).trans h
theorem sD.lt{w:World}{q:Nat}{L:List aS}(h:sD w q L):q<w.heap.size:=by
 obtain⟨s,r,h⟩:=h;exact(Array.getElem?_eq_some_iff.1 h).1
theorem sD.dW{F:Nat→Prop}{w w':World}{q:Nat}{L:List aS}(h:sD w q L)(hc:aQ F w w')(hf:¬ F q):sD w' q L:=by
 have hl:=h.lt;obtain⟨s,r,h⟩:=h;exact⟨s,r,(hc.block q hl hf).trans h⟩
theorem cK.lt{w:World}{m:Nat}{L:List aS}(h:cK w m L):m<w.heap.size:=by
 obtain⟨es,clock,h,_⟩:=h;exact(Array.getElem?_eq_some_iff.1 h).1
theorem cK.dW{F:Nat→Prop}{w w':World}{m:Nat}{L:List aS}(h:cK w m L)(hc:aQ F w w')(hf:¬ F m):cK w' m L:=by
 have hl:=h.lt;obtain⟨es,clock,h,hk⟩:=h;exact⟨es,clock,(hc.block m hl hf).trans h,hk⟩
abbrev pZ(i0 i1 i2 i3:Value)(bu:Int)(fN up:Bool)(q m:Nat)(tl:List Value):List Value:=i0::i1::i2::i3::.int .i64 bu::.bool fN::.bool up::.chan (some q)::.map (some m)::tl
theorem Oa(w:World):(Instr.makeChan 81 (.int .i64 60)).run Tryz.prog w=.ok (.chan (some w.heap.size)) (w.alloc (.chan 60 #[] false 0 0 false)):=by
 have h:(Tryz.prog.info? 125).map (·.bytes)=some 56:=by kernel_rfl
 obtain⟨i,hi,hb⟩:=Option.map_eq_some_iff.1 h;simpa using run_makeChan (P:=Tryz.prog) (w:=w) underlying81 hi .i64 60 (by omega) (by rw[hb];omega)
theorem qR(w:World)(b:Nat)(T:TypeId)(i0 i1 i2 i3:Value)(bu:Int)(fN up:Bool)(vq vm:Value)(tl:List Value)(hB:aZ w b T (i0::i1::i2::i3::.int .i64 bu::.bool fN::.bool up::vq::vm::tl)):
  Calls Tryz.prog 66 #[.pointer (some ⟨b,0,none⟩)] w (fun e w'=>e=.returned (.tuple #[])∧∃ q m,w.heap.size≤q∧w.heap.size≤m∧aZ w' b T (pZ i0 i1 i2 i3 bu fN up q m tl)∧sD w' q []∧cK w' m []∧aQ (fun k=>k=b) w w'):=by
 have bC:=hB.lt;have hmk:=Oa w;generalize ee:w.alloc (.chan 60 #[] false 0 0 false)=w1 at hmk;have aA:Below w.heap.size w w1:=by rw[← ee];exact(Below.refl _ _).alloc (Nat.le_refl _) _
 have dD:=hB.below aA;have Qz:w1.heap[w.heap.size]? = some (.chan 60 #[] false 0 0 false):=by rw[← ee];exact heap_alloc_new w _
 have ju:w1.heap.size=w.heap.size+1:=by rw[← ee];simp
 have d7:w1.cell? ⟨b,7,none⟩=some vq:=dD.cell 7;have g7:=dD.aq 7;have cz:=dD.set 7 (.chan (some w.heap.size));have D2:b≠w.heap.size:=by omega
 have hq2:(w1.setCell ⟨b,7,none⟩ (.chan (some w.heap.size))).heap[w.heap.size]? = some (.chan 60 #[] false 0 0 false):=by rw[Below.heap_setCell _ _ _ _ (fun e=>D2 e.symm)];exact Qz
 have jO:aQ (fun k=>k=b) w (w1.setCell ⟨b,7,none⟩ (.chan (some w.heap.size))):=(aQ.aI aA).setCell _ _ (fun _=>rfl);have BY:(w1.setCell ⟨b,7,none⟩ (.chan (some w.heap.size))).heap.size=w.heap.size+1:=by simp[ju]
 generalize dX:w1.setCell ⟨b,7,none⟩ (.chan (some w.heap.size))=w2 at *;have bP:Below w2.heap.size w2 (w2.alloc (.map #[] 0)):=(Below.refl _ _).alloc (Nat.le_refl _) _;have gz:=cz.below bP;have hq3:=(bP.block w.heap.size (by omega)).trans hq2;have Mw:(w2.alloc (.map #[] 0)).heap[w2.heap.size]? = some (.map #[] 0):=heap_alloc_new w2 _;have js:=jO.oq bP;have BD:(w2.alloc (.map #[] 0)).heap.size=w.heap.size+2:=by simp[BY]
 generalize iK:w2.alloc (.map #[] 0)=w3 at *;have wY:(Instr.makeMap 82 none).run Tryz.prog w2=.ok (.map (some w2.heap.size)) w3:=by rw[← iK];rfl
 have d8:w3.cell? ⟨b,8,none⟩=some vm:=gz.cell 8;have g8:=gz.aq 8;have lE:=U gz;have HZ2:=U BY;clear BY BD ju;have CL:=U hq3;have Mv:=U Mw;clear hB dD cz gz Qz hq2 hq3 Mw bP jO aA
 go_enter func66,ntmps66
 go_wp2_with fail
 go_end0
 refine⟨rfl,w.heap.size,w2.heap.size,Nat.le_refl _,by have:=HZ2.o;omega,lE.o.set 8 (.map (some w2.heap.size)),⟨0,0,?_⟩,⟨#[],0,?_,rfl,fun e he=>by simp at he⟩,js.setCell _ _ (fun _=>rfl)⟩
 ·rw[Below.heap_setCell _ _ _ _ (fun e=>D2 e.symm)]
  exact CL.o
 ·rw[Below.heap_setCell _ _ _ _ (by show w2.heap.size≠b;have:=HZ2.o;omega)]
  exact Mv.o
theorem Ob(w:World)(q:Nat):(binOp .eql 81 (.chan (some q)) (.chan none)).run Tryz.prog w=.ok (.bool false) w:=by
 have h1:∀ d:Nat,(Op.equalIn (d+1) 81 (.chan (some q)) (.chan none)).run Tryz.prog w=.ok false w:=fun d=>by simp[Op.equalIn,run_underlying underlying81]
 have h2:(Op.equal 81 (.chan (some q)) (.chan none)).run Tryz.prog w=.ok false w:=h1 9999;simp[binOp,h2]
theorem CM(w:World)(b:Nat)(T:TypeId)(i0 i1 i2 i3:Value)(bu:Int)(fN up:Bool)(q m:Nat)(tl:List Value)(hB:aZ w b T (pZ i0 i1 i2 i3 bu fN up q m tl))(bA:Int)(hc:fN=false∨bu<bA):
  Calls Tryz.prog 81 #[.pointer (some ⟨b,0,none⟩),.int .i64 bA] w (fun e w'=>e=.returned (.bool true)∧∃ q' m',w.heap.size≤q'∧w.heap.size≤m'∧aZ w' b T (pZ i0 i1 i2 i3 bA true true q' m' tl)∧sD w' q' []∧cK w' m' []∧aQ (fun k=>k=b) w w'):=by
 have d4:w.cell? ⟨b,4,none⟩=some (.int .i64 bu):=hB.cell 4;have d5:w.cell? ⟨b,5,none⟩=some (.bool fN):=hB.cell 5;have d6:w.cell? ⟨b,6,none⟩=some (.bool up):=hB.cell 6;have d7:w.cell? ⟨b,7,none⟩=some (.chan (some q)):=hB.cell 7;have g4:=hB.aq 4;have hq:=Ob w q;have dD:aZ (w.setCell ⟨b,4,none⟩ (.int .i64 bA)) b T (pZ i0 i1 i2 i3 bA fN up q m tl):=hB.set 4 _;have jk:aQ (fun k=>k=b) w (w.setCell ⟨b,4,none⟩ (.int .i64 bA)):=(aQ.refl _ _).setCell _ _ (fun _=>rfl);obtain⟨w1,ee⟩:∃ w1,w.setCell ⟨b,4,none⟩ (.int .i64 bA)=w1:=⟨_,rfl⟩
 rw[ee] at dD jk;have k5:w1.cell? ⟨b,5,none⟩=some (.bool fN):=dD.cell 5;have g5:=dD.aq 5;have cz:aZ (w1.setCell ⟨b,5,none⟩ (.bool true)) b T (pZ i0 i1 i2 i3 bA true up q m tl):=dD.set 5 _;have jO:aQ (fun k=>k=b) w (w1.setCell ⟨b,5,none⟩ (.bool true)):=jk.setCell _ _ (fun _=>rfl);obtain⟨w2,dX⟩:∃ w2,w1.setCell ⟨b,5,none⟩ (.bool true)=w2:=⟨_,rfl⟩
 rw[dX] at cz jO;have l6:w2.cell? ⟨b,6,none⟩=some (.bool up):=cz.cell 6;have g6:=cz.aq 6;have gz:aZ (w2.setCell ⟨b,6,none⟩ (.bool true)) b T (pZ i0 i1 i2 i3 bA true true q m tl):=cz.set 6 _;have js:aQ (fun k=>k=b) w (w2.setCell ⟨b,6,none⟩ (.bool true)):=jO.setCell _ _ (fun _=>rfl);obtain⟨w3,iK⟩:∃ w3,w2.setCell ⟨b,6,none⟩ (.bool true)=w3:=⟨_,rfl⟩
 rw[iK] at gz js;have lE:=U gz;clear hB dD cz gz jk jO;have BD:=js.size
 have fZ:fN=true→bu<bA:=fun e=>by
  rcases hc with h | h
  ·rw[h] at e;cases e
  ·exact h
 clear hc;cases fN
 all_goals
  try (have BE:=fZ rfl)
  clear fZ
  go_enter func81,ntmps81
  go_wp2_with fail
  refine(qR _ b T i0 i1 i2 i3 bA true true _ _ tl lE.o).mono ?_;rintro e w4 ⟨rfl,q',m',h1,h2,h3,h4,h5,h6⟩;have H4:=U h4
  go_wp2_with fail
  go_ret
  exact⟨rfl,q',m',by omega,by omega,h3,H4.o,h5,js.same h6⟩
theorem F4(w:World)(b:Nat)(T:TypeId)(i0 i1 i2 i3:Value)(bu:Int)(fN up:Bool)(q m:Nat)(tl:List Value)(hB:aZ w b T (pZ i0 i1 i2 i3 bu fN up q m tl))(bA:Int):
  Calls Tryz.prog 172 #[.pointer (some ⟨b,0,none⟩),.int .i64 bA] w (fun e w'=>e=.returned (.bool (up&&decide (bA=bu)))∧w'=w):=by
 have d4:w.cell? ⟨b,4,none⟩=some (.int .i64 bu):=hB.cell 4;have d6:w.cell? ⟨b,6,none⟩=some (.bool up):=hB.cell 6;clear hB;cases up
 all_goals
  go_enter func172,ntmps172
  go_wp2_with fail
  go_ret
  exact⟨by first | rfl | (congr 2),rfl⟩
def aw(kind ah ag number ai:Nat):aS:=⟨kind,ah,ag,number,ai,⟨#[]⟩⟩
def lF(up:Bool)(L:List aS)(p:aS):Bool:=up&&(@decide (p∈L) (ot p L)||decide (L.length<60))
structure dQ where
 number:Nat
 aR:Nat
 name:ByteArray
 base:ByteArray
 start:Nat
 aX:Nat
 ak:List ByteArray
 bD:Nat
structure CaP where
 number:Nat
 aR:Nat
 answer:ByteArray
 kind:Nat
 value:ByteArray
structure CP where
 bu:Int
 fN:Bool
 up:Bool
 L:List aS
 ah:Nat
 bI:Nat
 ag:Nat
 silence:Nat
 aB:List aS
 next:Nat
 ae:List dQ
 bQ:Nat
 aU:List CaP
 p9:Nat
namespace CP
def post(c:CP)(p:aS):CP:={ c with L:=bo c.up c.L p }
def Yk(c:CP)(ps:List aS):CP:={ c with L:=ps.foldl (bo c.up) c.L }
def nf(c:CP)(r:aS):aS:={ r with ah:=c.ah,ag:=c.ag }
def dI(c:CP):CP:=if c.ag=0 then c.post (aw 0 c.ah 0 c.bI 0) else(c.post (aw 1 c.ah c.ag 0 0)).Yk (c.aB.map c.nf)
def raise(c:CP)(bA:Int):CP:={ c with bu:=bA,fN:=true,up:=true,L:=[] }
def gl(c:CP)(bA:Int):Bool:=c.up&&decide (bA=c.bu)
def down(c:CP):CP:={ c with up:=false,L:=[] }
end CP
def dQ.finish(k:Nat)(s:dQ):dQ:=if s.bD=0 then { s with bD:=k } else s
def CaP.finish(k:Nat)(v:ByteArray)(c:CaP):CaP:=if c.kind=0 then { c with kind:=k,value:=v } else c
namespace CP
def zt(c:CP):CP:={ c with ae:=c.ae.map (dQ.finish 3),aU:=c.aU.map (CaP.finish 3 ⟨#[]⟩),bI:=c.bI+1,ag:=0,next:=0,aB:=[],L:=[] }
def hJ(D:Nat)(c:CP):CP:=let c1:={ c with silence:=c.silence+1 };(if c1.ag≠0∧D≤c1.silence then c1.zt else c1).dI
def fO(c:CP)(p:aS):Bool:=decide (c.ag≠0)&&(decide (p.ah=c.ah)&&decide (p.ag=c.ag))
def qa(c:CP)(below:Nat):CP:={ c with aB:=c.aB.filter (fun r=>!decide (r.number<below)) }
def D6(c:CP)(p:aS):Option Nat:=c.ae.findIdx? (fun s=>decide (s.aR=p.number)&&decide (s.bD=0))
def ew(c:CP)(p:aS):Option Nat:=if c.fO p then c.D6 p else none
def kO(c:CP)(p:aS)(f:dQ→dQ):CP:=match c.ew p with
 | none=>c
 | some i=>{ c with ae:=c.ae.modify i f }
def qb(c:CP)(p:aS):CP :=
 if c.fO p then
  let c1:=c.qa (p.number+1)
  match c1.ew p with
  | none=>c1.post (aw 5 c.ah c.ag p.number 0)
  | some i=>match c1.ae[i]? with
   | some s=>c1.post (aw 4 c.ah c.ag p.number s.aX)
   | none=>c1
 else c
def qS(c:CP)(p:aS):CP:=if c.ag=0∧p.ah=c.ah∧p.number=c.bI then { c with ag:=p.ag }.dI else c
def fH(c:CP)(p:aS):CP:=if c.fO p then c.qa p.number else c
def yL(c:CP)(p:aS):CP:=if c.fO p then c.zt.dI else c
end CP
abbrev vh:=ByteArray→List UInt8→Option ByteArray
def dQ.add(bp:vh)(room:Nat)(p:aS)(s:dQ):dQ :=
 if p.ai=s.aX+1∧s.ak.length<room then match bp s.base p.data.toList with
  | some t=>{ s with ak:=s.ak++[t],aX:=s.aX+1 }
  | none=>s
 else s
def dQ.cut(s:dQ):Nat:=if s.aX=s.start then 4 else 3
namespace CP
def D7(bp:vh)(R:Nat)(c:CP)(p:aS):CP:=(c.kO p (dQ.add bp R p)).qb p
def zu(c:CP)(p:aS):CP:=(c.kO p (fun s=>if s.aX=p.ai then s.finish 2 else s)).qb p
def ZE(c:CP)(p:aS):CP:=(c.kO p (fun s=>if s.aX<p.ai then s.finish s.cut else s)).qb p
def take(bp:vh)(R:Nat)(c:CP)(p:aS):CP :=
 if 6≤p.kind∧p.kind≤13 then
  let c:={ c with silence:=0 }
  if p.kind=6 then c.qS p else if p.kind=7 then c.fH p else if p.kind=8 then c.D7 bp R p else if p.kind=9 then c.zu p else if p.kind=10 then c.ZE p else c.yL p
 else c
def jv(W:Nat)(c:CP):Bool:=decide (8≤c.ae.length)||decide (W≤c.aB.length)
def aR(c:CP)(p:aS):CP :=
 let p:={ p with number:=c.next }
 let c1:={ c with next:=c.next+1,aB:=c.aB++[p] }
 if c.ag=0 then c1 else c1.post (c.nf p)
def cA(c:CP)(name base:ByteArray)(ai:Nat):CP :=
 let c1:=c.aR { aw 2 0 0 0 ai with data:=name }
 {c1 with ae:=c1.ae++[⟨c.bQ,c.next,name,base,ai,ai,[],0⟩],bQ:=c.bQ+1 }
def call(c:CP)(name answer:ByteArray)(data:ByteArray):CP :=
 let c1:=c.aR { aw 3 0 0 0 0 with data:=name++⟨#[32]⟩++data }
 {c1 with aU:=c1.aU++[⟨c.p9,c.next,answer,0,⟨#[]⟩⟩],p9:=c.p9+1 }
end CP
structure jS where
 name:ByteArray
 base:ByteArray
 count:Nat
 dJ:List (List UInt8)
 bD:Bool
namespace jS
def first(t:jS):Nat:=t.count-t.dJ.length+1
def add(R:Nat)(d:List UInt8)(t:jS):jS:={ t with count:=t.count+1,dJ:=if t.dJ.length+1≤R then t.dJ++[d] else(t.dJ++[d]).drop 1 }
end jS
structure cY where
 number:Nat
 aG:Nat
 aX:Nat
 az:Nat
 ey:Bool
structure pH where
 ah:Nat
 bI:Nat
 number:Nat
 silence:Nat
 next:Nat
 af:List cY
 aC:List aS
structure WyP where
 ah:Nat
 ag:Nat
 aR:Nat
 answer:ByteArray
structure QuP where
 name:ByteArray
 value:ByteArray
 nM:WyP
structure SP where
 bu:Int
 fN:Bool
 up:Bool
 L:List aS
 au:List jS
 aY:Option pH
 cur:Bool
 cR:Nat
 waits:List QuP
 aE:Nat
 D8:List (Nat × WyP)
def pH.fH(s:pH):aS:=aw 7 s.ah s.number s.next 0
def kP(up:Bool)(mk:Nat→aS):Nat→Nat→List aS→Nat × List aS
 | 0,az,L=>(az,L)
 | n+1,az,L=>if lF up L (mk (az+1))=true then kP up mk n (az+1) (bo up L (mk (az+1))) else(az,L)
def eJ(ah ag:Nat)(t:jS)(f:cY)(ai:Nat):aS:=⟨8,ah,ag,f.number,ai,⟨((t.dJ[ai-t.first]?).getD []).toArray⟩⟩
def cw(up:Bool)(W ah ag:Nat)(t:jS)(f:cY)(L:List aS):cY × List aS :=
 if f.ey=true then(f,bo up L (aw 11 ah ag f.number 0))
 else if f.aX+1<t.first then(f,bo up L (aw 10 ah ag f.number (f.aX+1)))
 else if t.bD=true∧f.aX=t.count then(f,bo up L (aw 9 ah ag f.number t.count))
 else let r:=kP up (eJ ah ag t f) (min t.count (f.aX+W)-f.az) f.az L
  ({ f with az:=r.1 },r.2)
namespace SP
def post(s:SP)(p:aS):SP:={ s with L:=bo s.up s.L p }
def aef(s:SP):SP:={ s with cur:=false,L:=[] }
def dy(up:Bool)(W:Nat)(o:pH)(Ts:List jS)(oh:cY→Bool)(pre:cY→cY):List cY→List aS→List cY × List aS
 | [],L=>([],L)
 | f::r,L=>match (if oh f then Ts[f.aG]? else none) with
  | some t=>
   let a:=cw up W o.ah o.number t (pre f) L
   let b:=dy up W o Ts oh pre r a.2
   (a.1::b.1,b.2)
  | none=>
   let b:=dy up W o Ts oh pre r L
   (f::b.1,b.2)
def dI(W:Nat)(s:SP):SP:=match s.cur,s.aY with
 | true,some o=>
  let L1:=o.aC.foldl (bo s.up) (bo s.up s.L o.fH)
  let r:=dy s.up W o s.au (fun _=>true) (fun f=>{ f with az:=f.aX }) o.af L1
  {s with aY:=some { o with af:=r.1 },L:=r.2 }
 | _,_=>s.post (aw 7 0 0 0 0)
def hJ(W D:Nat)(s:SP):SP :=
 (match s.aY with
 | none=>s
 | some o=>if o.silence+1<D then { s with aY:=some { o with silence:=o.silence+1 } } else if s.cur then { s with aY:=none }.aef else { s with aY:=none }).dI W
def raise(s:SP)(bA:Int):SP:={ s with bu:=bA,fN:=true,up:=true,L:=[],cur:=false }
def gl(s:SP)(bA:Int):Bool:=s.up&&decide (bA=s.bu)
def down(s:SP):SP:={ s with up:=false,L:=[] }
def zv(s:SP)(p:aS):SP :=
 let s1:=match s.aY with
  | none=>{ s with cR:=s.cR+1,aY:=some ⟨p.ah,p.number,s.cR+1,0,0,[],[]⟩ }
  | some o=>if o.bI<p.number then { s with cR:=s.cR+1,aY:=some ⟨p.ah,p.number,s.cR+1,0,0,[],[]⟩,cur:=false } else s
 match s1.aY with
 | some o=>if o.bI=p.number then { s1 with cur:=true }.post (aw 6 o.ah o.number o.bI 0) else s1
 | none=>s1
def cG(W:Nat)(s:SP)(p:aS):SP × Bool:=match s.aY with
 | some o=>if o.number=p.ag then(if s.cur then s else { s with cur:=true }.dI W,true) else(s.post (aw 13 p.ah p.ag 0 0),false)
 | none=>(s.post (aw 13 p.ah p.ag 0 0),false)
def BZ(W:Nat)(s:SP)(p:aS):SP :=
 let r:=s.cG W p
 if r.2 then match r.1.aY with | some o=>r.1.post o.fH | none=>r.1 else r.1
def aR(W:Nat)(s:SP)(p:aS):SP × Bool :=
 let r:=s.cG W p
 if r.2 then match r.1.aY with
  | some o=>
   if p.number=o.next then({ r.1 with aY:=some { o with next:=o.next+1 } }.post { o with next:=o.next+1 }.fH,true)
   else(r.1.post o.fH,false)
  | none=>(r.1,false)
 else(r.1,false)
def dZ(s:SP)(name:ByteArray):Option Nat:=s.au.findIdx? (fun t=>t.name.toList==name.toList)
def fP(W:Nat)(s:SP)(i:Nat):SP:=match s.aY with
 | some o=>match o.af[i]? with
  | some f=>match s.au[f.aG]? with
   | some t=>
    let a:=cw s.up W o.ah o.number t f s.L
    {s with aY:=some { o with af:=o.af.set i a.1 },L:=a.2 }
   | none=>s
  | none=>s
 | none=>s
def cA(W:Nat)(s:SP)(p:aS):SP :=
 let r:=s.aR W p
 if r.2 then match r.1.dZ p.data,r.1.aY with
  | some k,some o=>match r.1.au[k]? with
   | some t=>{ r.1 with aY:=some { o with af:=o.af++[cY.mk p.number k p.ai p.ai (decide (t.count<p.ai))] } }.fP W o.af.length
   | none=>r.1
  | _,_=>r.1
 else r.1
def cY.bK(ai:Nat)(f:cY):cY:=if ai≤f.aX then f else { f with aX:=ai,az:=max f.az ai }
def aX(W:Nat)(s:SP)(p:aS):SP :=
 let r:=s.cG W p
 if r.2 then match r.1.aY with
  | some o=>match o.af.findIdx? (fun f=>decide (f.number=p.number)) with
   | some i=>match o.af[i]? with
    | some f=>if p.ai≤f.aX then r.1 else { r.1 with aY:=some { o with af:=o.af.set i (cY.bK p.ai f) } }.fP W i
    | none=>r.1
   | none=>r.1
  | none=>r.1
 else r.1
def done(W:Nat)(s:SP)(p:aS):SP :=
 let r:=s.cG W p
 if r.2 then match r.1.aY with
  | some o=>{ r.1 with aY:=some { o with af:=o.af.filter (fun f=>!decide (f.number=p.number)),aC:=o.aC.filter (fun a=>!decide (a.number=p.number)) } }
  | none=>r.1
 else r.1
abbrev jX:=List UInt8→Option (ByteArray × ByteArray × ByteArray)
def call(ask:jX)(W:Nat)(s:SP)(p:aS):SP :=
 let r:=s.aR W p
 if r.2 then match ask p.data.toList,r.1.aY with
  | some (name,value,answer),some o=>{ r.1 with waits:=r.1.waits++[⟨name,value,⟨o.ah,o.number,p.number,answer⟩⟩] }
  | _,_=>r.1
 else r.1
def Yl(W:Nat)(s:SP)(p:aS):SP:=if p.kind=0 then s.zv p else if p.kind=1 then s.BZ W p else if p.kind=2 then s.cA W p else if p.kind=4 then s.aX W p else s.done W p
def take(_:jX)(W:Nat)(s:SP)(p:aS):SP:=if p.kind≤5 then Yl W (match s.aY with | some o=>{ s with aY:=some { o with silence:=0 } } | none=>s) p else s
def iR(W:Nat)(s:SP)(k:Nat):SP:=match s.cur,s.aY with
 | true,some o=>
  let r:=dy s.up W o s.au (fun f=>decide (f.aG=k)) id o.af s.L
  {s with aY:=some { o with af:=r.1 },L:=r.2 }
 | _,_=>s
def iS(W R:Nat)(s:SP)(k:Nat)(d:List UInt8):SP:={ s with au:=s.au.modify k (jS.add R d) }.iR W k
def finish(W:Nat)(s:SP)(k:Nat):SP:={ s with au:=s.au.modify k (fun t=>{ t with bD:=true }) }.iR W k
def qT(s:SP):SP:={ s with aY:=none,waits:=[] }.aef
def next(s:SP):SP:=match s.waits with
 | []=>s
 | q::r=>{ s with waits:=r,aE:=s.aE+1,D8:=s.D8++[(s.aE,q.nM)] }
end SP
theorem cS(w:World)(cs:List Value)(T:TypeId):∃ w0,w.alloc (.cells cs.toArray T)=w0∧Below w.heap.size w w0∧aZ w0 w.heap.size T cs:=⟨_,rfl,(Below.refl _ w).alloc (Nat.le_refl _) _,heap_alloc_new w _⟩
theorem aZ.c6{w:World}{b:Nat}{T:TypeId}{x0 x1 x2 x3 x4 x5:Value}(h:aZ w b T [x0,x1,x2,x3,x4,x5]):w.cell? ⟨b,0,none⟩=some x0∧w.cell? ⟨b,1,none⟩=some x1∧w.cell? ⟨b,2,none⟩=some x2∧w.cell? ⟨b,3,none⟩=some x3∧w.cell? ⟨b,4,none⟩=some x4∧w.cell? ⟨b,5,none⟩=some x5:=⟨h.cell 0,h.cell 1,h.cell 2,h.cell 3,h.cell 4,h.cell 5⟩
theorem aZ.ce{w:World}{b:Nat}{T:TypeId}{xs:List Value}(h:aZ w b T xs)(i:Nat){v:Value}(e:xs[i]? = some v):w.cell? ⟨b,i,none⟩=some v:=(h.cell i).trans e
theorem zw(w:World)(k t s n p:Int)(d:ByteArray):∃ w0,w.alloc (.cells #[.int .u8 k,.int .u64 t,.int .u64 s,.int .u64 n,.int .u64 p,.string d] 125)=w0∧Below w.heap.size w w0∧aZ w0 w.heap.size 125 [.int .u8 k,.int .u64 t,.int .u64 s,.int .u64 n,.int .u64 p,.string d]:=cS w _ _
theorem eK(w:World)(p:aS):∃ w0,w.alloc (.cells #[.int .u8 p.kind,.int .u64 p.ah,.int .u64 p.ag,.int .u64 p.number,.int .u64 p.ai,.string p.data] 125)=w0∧Below w.heap.size w w0∧aZ w0 w.heap.size 125 [.int .u8 p.kind,.int .u64 p.ah,.int .u64 p.ag,.int .u64 p.number,.int .u64 p.ai,.string p.data]:=cS w _ _
abbrev lQ(p:aS):Value:=.agg #[.int .u8 p.kind,.int .u64 p.ah,.int .u64 p.ag,.int .u64 p.number,.int .u64 p.ai,.string p.data]
theorem aeg(w:World)(k tk ss nb ps:Int)(dt:ByteArray):∃ w0 w1,w.alloc (.cells #[.int .u8 k,.int .u64 tk,.int .u64 ss,.int .u64 nb,.int .u64 ps,.string dt] 125)=w0∧w0.alloc (.cells #[.nilFunc,.nilFunc,.nilFunc,.nilFunc,.nilFunc,.nilFunc,.func (Fn.func 198) #[] #[],.func (Fn.func 199) #[] #[],.func (Fn.func 200) #[] #[],.func (Fn.func 201) #[] #[],.func (Fn.func 202) #[] #[],.func (Fn.func 203) #[] #[],.func (Fn.func 204) #[] #[],.func (Fn.func 205) #[] #[]] 291)=w1∧Below w.heap.size w w0∧aZ w0 w.heap.size 125 [.int .u8 k,.int .u64 tk,.int .u64 ss,.int .u64 nb,.int .u64 ps,.string dt]∧w0.heap.size=w.heap.size+1∧Below w0.heap.size w0 w1∧aZ w1 w0.heap.size 291 [.nilFunc,.nilFunc,.nilFunc,.nilFunc,.nilFunc,.nilFunc,.func (Fn.func 198) #[] #[],.func (Fn.func 199) #[] #[],.func (Fn.func 200) #[] #[],.func (Fn.func 201) #[] #[],.func (Fn.func 202) #[] #[],.func (Fn.func 203) #[] #[],.func (Fn.func 204) #[] #[],.func (Fn.func 205) #[] #[]]∧aZ w1 w.heap.size 125 [.int .u8 k,.int .u64 tk,.int .u64 ss,.int .u64 nb,.int .u64 ps,.string dt]∧Below w.heap.size w w1:=by
 obtain⟨w0,nF,JC,UY⟩:=cS w [.int .u8 k,.int .u64 tk,.int .u64 ss,.int .u64 nb,.int .u64 ps,.string dt] 125;obtain⟨w1,ee,QA,Mx⟩:=cS w0 [.nilFunc,.nilFunc,.nilFunc,.nilFunc,.nilFunc,.nilFunc,.func (Fn.func 198) #[] #[],.func (Fn.func 199) #[] #[],.func (Fn.func 200) #[] #[],.func (Fn.func 201) #[] #[],.func (Fn.func 202) #[] #[],.func (Fn.func 203) #[] #[],.func (Fn.func 204) #[] #[],.func (Fn.func 205) #[] #[]] 291;exact⟨w0,w1,nF,ee,JC,UY,by rw[← nF];simp,QA,Mx,UY.below QA,JC.trans (QA.mono JC.size)⟩
theorem aeh(w:World)(k tk ss nb ps:Int)(dt:ByteArray):∃ w0 w1,w.alloc (.cells #[.int .u8 k,.int .u64 tk,.int .u64 ss,.int .u64 nb,.int .u64 ps,.string dt] 125)=w0∧w0.alloc (.cells #[.func (Fn.func 206) #[] #[],.func (Fn.func 207) #[] #[],.func (Fn.func 208) #[] #[],.func (Fn.func 209) #[] #[],.func (Fn.func 210) #[] #[],.func (Fn.func 211) #[] #[]] 293)=w1∧Below w.heap.size w w0∧aZ w0 w.heap.size 125 [.int .u8 k,.int .u64 tk,.int .u64 ss,.int .u64 nb,.int .u64 ps,.string dt]∧w0.heap.size=w.heap.size+1∧Below w0.heap.size w0 w1∧aZ w1 w0.heap.size 293 [.func (Fn.func 206) #[] #[],.func (Fn.func 207) #[] #[],.func (Fn.func 208) #[] #[],.func (Fn.func 209) #[] #[],.func (Fn.func 210) #[] #[],.func (Fn.func 211) #[] #[]]∧aZ w1 w.heap.size 125 [.int .u8 k,.int .u64 tk,.int .u64 ss,.int .u64 nb,.int .u64 ps,.string dt]∧Below w.heap.size w w1:=by
 obtain⟨w0,nF,JC,UY⟩:=cS w [.int .u8 k,.int .u64 tk,.int .u64 ss,.int .u64 nb,.int .u64 ps,.string dt] 125;obtain⟨w1,ee,QA,Mx⟩:=cS w0 [.func (Fn.func 206) #[] #[],.func (Fn.func 207) #[] #[],.func (Fn.func 208) #[] #[],.func (Fn.func 209) #[] #[],.func (Fn.func 210) #[] #[],.func (Fn.func 211) #[] #[]] 293;exact⟨w0,w1,nF,ee,JC,UY,by rw[← nF];simp,QA,Mx,UY.below QA,JC.trans (QA.mono JC.size)⟩
theorem aZ.Rc{w:World}{b q:Nat}{T:TypeId}{xs:List Value}{L:List aS}(h:aZ w b T xs)(k:sD w q L):b≠q:=fun e=>by
 obtain⟨s,r,k⟩:=k;have h':w.heap[b]? = _:=h;rw[e,k] at h';cases h'
theorem aZ.nN{w:World}{b m:Nat}{T:TypeId}{xs:List Value}{L:List aS}(h:aZ w b T xs)(k:cK w m L):b≠m:=fun e=>by
 obtain⟨es,clock,k,_⟩:=k;have h':w.heap[b]? = _:=h;rw[e,k] at h';cases h'
theorem sD.nN{w:World}{q m:Nat}{L M:List aS}(h:sD w q L)(k:cK w m M):q≠m:=fun e=>by
 obtain⟨es,clock,k,_⟩:=k;obtain⟨s,r,h⟩:=h;rw[e,k] at h;cases h
structure jY(w:World)(b:Nat)(T:TypeId)(i0 i1 i2 i3:Value)(bu:Int)(fN up:Bool)(tl:List Value)(L:List aS)(q m:Nat):Prop where
 ap:aZ w b T (pZ i0 i1 i2 i3 bu fN up q m tl)
 vi:sD w q L
 D9:cK w m L
theorem jY.below{w w':World}{b:Nat}{T:TypeId}{i0 i1 i2 i3:Value}{bu:Int}{fN up:Bool}{tl:List Value}{L:List aS}{q m:Nat}(h:jY w b T i0 i1 i2 i3 bu fN up tl L q m)(hb:Below w.heap.size w w'):jY w' b T i0 i1 i2 i3 bu fN up tl L q m :=
 ⟨h.ap.below hb,h.vi.dW (F:=fun _=>False) (aQ.aI hb) id,h.D9.dW (F:=fun _=>False) (aQ.aI hb) id⟩
abbrev aei(ah:Nat)(silence:Int)(aB:Value)(next:Nat)(ae:Value)(bQ:Nat)(aU:Value)(p9:Nat):List Value:=[.int .u64 ah,.int .u64 0,.int .u64 0,.int .i64 silence,aB,.int .u64 next,ae,.int .i64 bQ,aU,.int .i64 p9]
theorem Oc(w:World)(b q m:Nat)(L:List aS)(p:aS)(c6:w.cell? (aj b 6)=some (.bool true))(c7:w.cell? (aj b 7)=some (.chan (some q)))(c8:w.cell? (aj b 8)=some (.map (some m)))(hq:sD w q L)(hm:cK w m L)(hp:¬ p∈L)(hl:60≤L.length)(hb:b<w.heap.size):
  aT 106 #[aM b,lQ p] w (fun e w'=>e=.returned (.bool false)∧Below w.heap.size w w'):=by
 refine oo func106 rfl ?_
 simp only[ntmps106,List.size_toArray,List.length_cons,List.length_nil,Nat.reduceAdd,Nat.reduceSub,Array.replicate_succ,
   Array.replicate_zero,List.push_toArray,List.append_toArray,List.nil_append,List.cons_append]
 refine fq (fun K hK=>?_)
 go_wp2_with fail
 generalize ee:w.alloc (.cells #[vB p.kind,vU p.ah,vU p.ag,vU p.number,vU p.ai,.string p.data] 125)=w1;have aA:Below w.heap.size w w1:=by rw[← ee];exact(Below.refl _ _).alloc (Nat.le_refl _) _
 have ve:w1.heap[w.heap.size]? = some (.cells #[vB p.kind,vU p.ah,vU p.ag,vU p.number,vU p.ai,.string p.data] 125 (0,0)):=by rw[← ee];exact heap_alloc_new w _
 have d6:w1.cell? (aj b 6)=some (.bool true):=(aA.cell (p:=(aj b 6)) hb).trans c6;have d7:w1.cell? (aj b 7)=some (.chan (some q)):=(aA.cell (p:=(aj b 7)) hb).trans c7;have d8:w1.cell? (aj b 8)=some (.map (some m)):=(aA.cell (p:=(aj b 8)) hb).trans c8;have e0:w1.cell? (aj w.heap.size 0)=some (vB p.kind):=by simp[World.cell?,ve]
 have e1:w1.cell? (aj w.heap.size 1)=some (vU p.ah):=by simp[World.cell?,ve]
 have e2:w1.cell? (aj w.heap.size 2)=some (vU p.ag):=by simp[World.cell?,ve]
 have e3:w1.cell? (aj w.heap.size 3)=some (vU p.number):=by simp[World.cell?,ve]
 have e4:w1.cell? (aj w.heap.size 4)=some (vU p.ai):=by simp[World.cell?,ve]
 have e5:w1.cell? (aj w.heap.size 5)=some (.string p.data):=by simp[World.cell?,ve]
 obtain⟨s,r,J0⟩:=hq;have hql:q<w.heap.size:=(Array.getElem?_eq_some_iff.1 J0).1
 have wX:cK w1 m L:=by
  obtain⟨es,clock,h1,h2⟩:=hm;exact⟨es,clock,(aA.block m (Array.getElem?_eq_some_iff.1 h1).1).trans h1,h2⟩
 have JB:m<w.heap.size:=by
  obtain⟨es,clock,h1,h2⟩:=hm;exact(Array.getElem?_eq_some_iff.1 h1).1
 have Qz:w1.heap[q]? = some (.chan 60 (L.map pv).toArray false s r false):=(aA.block q hql).trans J0
 have Mu:(Instr.lookup 82 (.map (some m)) (lQ p) true).run Tryz.prog w1.drew=.ok (.tuple #[.agg #[],.bool false]) w1.drew:=by
  have:=kq (w:=w1.drew) wX p;rwa [@decide_eq_false _ (ot p L) hp] at this
 have CK:=aA.size;have ov:w.heap.size<w1.heap.size:=(Array.getElem?_eq_some_iff.1 ve).1;obtain⟨w2,dX⟩:∃ w2,w1.alloc (.cells #[] 249)=w2:=⟨_,rfl⟩
 have aW:Below w1.heap.size w1 w2:=by rw[← dX];exact(Below.refl _ _).alloc (Nat.le_refl _) _
 have f8:(w1.alloc (.cells #[] 249)).cell? (aj b 8)=some (.map (some m)):=by rw[dX];exact(aW.cell (p:=(aj b 8)) (Nat.lt_of_lt_of_le hb CK)).trans d8
 have g0:(w1.alloc (.cells #[] 249)).cell? (aj w.heap.size 0)=some (vB p.kind):=by rw[dX];exact(aW.cell (p:=(aj w.heap.size 0)) ov).trans e0
 have g1:(w1.alloc (.cells #[] 249)).cell? (aj w.heap.size 1)=some (vU p.ah):=by rw[dX];exact(aW.cell (p:=(aj w.heap.size 1)) ov).trans e1
 have g2:(w1.alloc (.cells #[] 249)).cell? (aj w.heap.size 2)=some (vU p.ag):=by rw[dX];exact(aW.cell (p:=(aj w.heap.size 2)) ov).trans e2
 have g3:(w1.alloc (.cells #[] 249)).cell? (aj w.heap.size 3)=some (vU p.number):=by rw[dX];exact(aW.cell (p:=(aj w.heap.size 3)) ov).trans e3
 have g4:(w1.alloc (.cells #[] 249)).cell? (aj w.heap.size 4)=some (vU p.ai):=by rw[dX];exact(aW.cell (p:=(aj w.heap.size 4)) ov).trans e4
 have g5:(w1.alloc (.cells #[] 249)).cell? (aj w.heap.size 5)=some (.string p.data):=by rw[dX];exact(aW.cell (p:=(aj w.heap.size 5)) ov).trans e5
 have pY:cK (w1.alloc (.cells #[] 249)) m L:=by
  obtain⟨es,clock,h1,h2⟩:=wX;exact⟨es,clock,by rw[dX];exact(aW.block m (Array.getElem?_eq_some_iff.1 h1).1).trans h1,h2⟩
 have BX:(Instr.lookup 82 (.map (some m)) (lQ p) true).run Tryz.prog (w1.alloc (.cells #[] 249)).drew=.ok (.tuple #[.agg #[],.bool false]) (w1.alloc (.cells #[] 249)).drew:=by
  have:=kq (w:=(w1.alloc (.cells #[] 249)).drew) pY p;rwa [@decide_eq_false _ (ot p L) hp] at this
 clear dX aW pY;have HM:=U hm;have HM1:=U wX;have HP:=U hp;have zq:=U Qz;have HH1:=U ve;clear hm wX hp Qz J0 ve ee c6 c7 c8;refine fq (fun K hK=>?_)
 go_wp2_with fail
 refine fq (fun K hK=>?_)
 go_wp2_with fail
 go_region
 all_goals
  go_wp2_with fail
  obtain⟨w3,iK⟩:∃ w3,(w1.alloc (.cells #[] 249)).drew=w3:=⟨_,rfl⟩
  rw[iK];have bP:Below w1.heap.size w1 w3:=by rw[← iK];exact((Below.refl _ _).alloc (Nat.le_refl _) _).drew
  have BD:=bP.size;have k7:w3.cell? (aj b 7)=some (.chan (some q)):=(bP.cell (p:=(aj b 7)) (Nat.lt_of_lt_of_le hb CK)).trans d7;have k8:w3.cell? (aj b 8)=some (.map (some m)):=(bP.cell (p:=(aj b 8)) (Nat.lt_of_lt_of_le hb CK)).trans d8;have l0:w3.cell? (aj w.heap.size 0)=some (vB p.kind):=(bP.cell (p:=(aj w.heap.size 0)) ov).trans e0;have l1:w3.cell? (aj w.heap.size 1)=some (vU p.ah):=(bP.cell (p:=(aj w.heap.size 1)) ov).trans e1;have l2:w3.cell? (aj w.heap.size 2)=some (vU p.ag):=(bP.cell (p:=(aj w.heap.size 2)) ov).trans e2;have l3:w3.cell? (aj w.heap.size 3)=some (vU p.number):=(bP.cell (p:=(aj w.heap.size 3)) ov).trans e3;have l4:w3.cell? (aj w.heap.size 4)=some (vU p.ai):=(bP.cell (p:=(aj w.heap.size 4)) ov).trans e4;have l5:w3.cell? (aj w.heap.size 5)=some (.string p.data):=(bP.cell (p:=(aj w.heap.size 5)) ov).trans e5;have CL:=U ((bP.block q (by omega)).trans zq.o)
  have Mv:Hid (cK w3 m L):=by
   obtain⟨es,clock,h1,h2⟩:=HM1.o;exact⟨es,clock,(bP.block m (by omega)).trans h1,h2⟩
  clear iK d6 d7 d8 e0 e1 e2 e3 e4 e5 f8 g0 g1 g2 g3 g4 g5 Mu BX;refine fq (fun K hK=>?_)
  go_wp2_with fail
  refine yJ ?_;refine sC ?_;refine Q9 (c:=q) (cap:=60) (buf:=(L.map pv).toArray) (s:=s) (r:=r) (tm:=false) (v:=pv p) rfl rfl (by simp[go_sem,execOp,scase,Act.eval,pv,pc];rfl) CL.o (by simpa using hl) ?_;refine pX (v:=vI (-1)) (w':=w3) rfl rfl (by simp[go_sem,goInt]) ?_;refine pX (v:=.bool false) (w':=w3) rfl rfl (by simp[go_sem]) ?_;refine yK ?_;refine nL ?_
  go_wp2_with fail
  go_ret
  exact⟨rfl,aA.trans (bP.mono CK)⟩
theorem jY.Ym{w:World}{b:Nat}{T:TypeId}{i0 i1 i2 i3:Value}{bu:Int}{fN up:Bool}{tl:List Value}{L:List aS}{q m:Nat}(h:jY w b T i0 i1 i2 i3 bu fN up tl L q m)(p:aS):
  aT 106 #[aM b,lQ p] w (fun e w'=>e=.returned (.bool (lF up L p))∧jY w' b T i0 i1 i2 i3 bu fN up tl (bo up L p) q m∧aQ (fun k=>k=q∨k=m) w w'):=by
 have c6:=h.ap.ce 6 rfl;have c7:=h.ap.ce 7 rfl;have c8:=h.ap.ce 8 rfl;have same:∀ {w':World},Below w.heap.size w w'→jY w' b T i0 i1 i2 i3 bu fN up tl L q m∧aQ (fun k=>k=q∨k=m) w w':=fun hb=>⟨h.below hb,aQ.aI hb⟩
 cases up with
 | false=>
  refine(N9 w b p c6 h.ap.lt).mono ?_;rintro e w' ⟨rfl,hb⟩;exact⟨by simp[lF],by rw[bo,if_neg (by simp)];exact(same hb).1,(same hb).2⟩
 | true=>
  by_cases hp:p∈L
  ·refine(J1 w b q m L p c6 c7 c8 h.vi h.D9 hp h.ap.lt).mono ?_
   rintro e w' ⟨rfl,hb⟩;exact⟨by simp[lF,hp],by rw[bo,if_neg (by simp[hp])];exact(same hb).1,(same hb).2⟩
  ·by_cases hl:L.length<60
   ·refine(N8 w b q m L p c6 c7 c8 h.vi h.D9 hp hl h.ap.lt).mono ?_
    rintro e w' ⟨rfl,h1,h2,h3⟩;refine⟨by simp[lF,hl],?_,h1⟩;rw[bo,if_pos ⟨rfl,hp,hl⟩];refine⟨h.ap.dW h1 (fun e=>?_),h2,h3⟩
    rcases e with e | e
    ·exact h.ap.Rc h.vi e
    ·exact h.ap.nN h.D9 e
   ·refine(Oc w b q m L p c6 c7 c8 h.vi h.D9 hp (by omega) h.ap.lt).mono ?_
    rintro e w' ⟨rfl,hb⟩;exact⟨by simp[lF,hp,hl],by rw[bo,if_neg (by simp[hl])];exact(same hb).1,(same hb).2⟩
abbrev fm:=Nat × (Obj→Prop)
def aej:Obj→Nat
 | .cells _ T _=>T+2
 | _=>0
def Yn(o:Obj):Prop:=aej o∉[117+2,246+2,113+2]
structure cE(lo:Nat)(w:World)(G:List fm):Prop where
 qc:(G.map Prod.fst).Nodup
 all:∀ p∈G,lo≤p.1∧∃ o,w.heap[p.1]? = some o∧p.2 o∧Yn o
def JD(A B:List fm):Prop:=∀ a∈A,∀ b∈B,a.1≠b.1
def aL(G:List fm)(k:Nat):Prop:=∃ p∈G,p.1=k
theorem JD.symm{A B:List fm}(h:JD A B):JD B A:=fun a ha b hb e=>h b hb a ha e.symm
theorem ay{lo:Nat}{w:World}{A B:List fm}:cE lo w (A++B)↔cE lo w A∧cE lo w B∧JD A B:=by
 constructor
 ·rintro⟨h1,h2⟩
  rw[List.map_append,List.nodup_append] at h1;refine⟨⟨h1.1,fun p hp=>h2 p (List.mem_append_left _ hp)⟩,⟨h1.2.1,fun p hp=>h2 p (List.mem_append_right _ hp)⟩,fun a ha b hb=>h1.2.2 a.1 (List.mem_map_of_mem ha) b.1 (List.mem_map_of_mem hb)⟩
 ·rintro⟨⟨a1,a2⟩,⟨b1,b2⟩,d⟩
  refine⟨?_,fun p hp=>(List.mem_append.1 hp).elim (a2 p) (b2 p)⟩;rw[List.map_append,List.nodup_append];refine⟨a1,b1,fun x hx y hy=>?_⟩;obtain⟨p,hp,rfl⟩:=List.mem_map.1 hx;obtain⟨q,hq,rfl⟩:=List.mem_map.1 hy;exact d p hp q hq
theorem cE.nil(lo:Nat)(w:World):cE lo w []:=⟨List.nodup_nil,fun p hp=>by cases hp⟩
theorem cE.bZ{lo:Nat}{w:World}{A B:List fm}(h:cE lo w A)(hp:A.Perm B):cE lo w B :=
 ⟨(hp.map Prod.fst).nodup_iff.1 h.qc,fun p hm=>h.all p (hp.mem_iff.2 hm)⟩
theorem cE.lt{lo:Nat}{w:World}{A:List fm}(h:cE lo w A){k:Nat}(hk:aL A k):lo≤k∧k<w.heap.size:=by
 obtain⟨p,hp,rfl⟩:=hk;obtain⟨h1,o,h2,_⟩:=h.all p hp;exact⟨h1,(Array.getElem?_eq_some_iff.1 h2).1⟩
theorem cE.nO{lo:Nat}{w w':World}{F:Nat→Prop}{A:List fm}(h:cE lo w A)(hc:aQ F w w')(hF:∀ k,aL A k→¬ F k):cE lo w' A :=
 ⟨h.qc,fun p hp=>by
  obtain⟨h1,o,h2,h3⟩:=h.all p hp
  exact⟨h1,o,(hc.block p.1 (Array.getElem?_eq_some_iff.1 h2).1 (hF _ ⟨p,hp,rfl⟩)).trans h2,h3⟩⟩
theorem cE.below{lo:Nat}{w w':World}{A:List fm}(h:cE lo w A)(hb:Below w.heap.size w w'):cE lo w' A:=h.nO (F:=fun _=>False) (aQ.aI hb) (fun _ _=>id)
theorem cE.drew{lo:Nat}{w:World}{A:List fm}(h:cE lo w A):cE lo w.drew A:=⟨h.qc,h.all⟩
structure cM(w:World)(A:List fm)(w':World)(A':List fm):Prop where
 c:aQ (aL A) w w'
 k:∀ k,aL A' k→aL A k∨w.heap.size≤k
theorem cM.refl(w:World)(A:List fm):cM w A w A:=⟨aQ.refl _ _,fun _ h=>Or.inl h⟩
theorem cM.trans{w w1 w2:World}{A A1 A2:List fm}(h:cM w A w1 A1)(k:cM w1 A1 w2 A2):cM w A w2 A2 :=
 ⟨h.c.trans k.c (fun i hi hk=>by
  rcases h.k i hk with e | e
  ·exact e
  ·omega),fun i hi=>by
  rcases k.k i hi with e | e
  ·exact h.k i e
  ·exact Or.inr (Nat.le_trans h.c.size e)⟩
theorem cM.aI{w w':World}{A:List fm}(hb:Below w.heap.size w w'):cM w A w' A:=⟨aQ.aI hb,fun _ h=>Or.inl h⟩
theorem cM.below{w w1 w':World}{A A':List fm}(h:cM w A w1 A')(hb:Below w1.heap.size w1 w'):cM w A w' A':=h.trans (cM.aI hb)
theorem aL.bM{A B:List fm}{k:Nat}:aL (A++B) k↔aL A k∨aL B k:=by
 constructor
 ·rintro⟨p,hp,rfl⟩
  exact(List.mem_append.1 hp).elim (fun h=>Or.inl ⟨p,h,rfl⟩) (fun h=>Or.inr ⟨p,h,rfl⟩)
 ·rintro(⟨p,hp,rfl⟩ | ⟨p,hp,rfl⟩)
  ·exact⟨p,List.mem_append_left _ hp,rfl⟩
  ·exact⟨p,List.mem_append_right _ hp,rfl⟩
theorem aL.one{a:fm}{k:Nat}:aL [a] k↔k=a.1:=by
 constructor
 ·rintro⟨p,hp,rfl⟩
  rw[List.mem_singleton.1 hp]
 ·rintro rfl
  exact⟨a,List.mem_singleton.2 rfl,rfl⟩
theorem aL.nil{k:Nat}:¬ aL [] k:=fun⟨p,hp,_⟩=>by cases hp
theorem aL.bZ{A B:List fm}(h:A.Perm B){k:Nat}:aL A k↔aL B k:=⟨fun⟨p,hp,e⟩=>⟨p,h.mem_iff.1 hp,e⟩,fun⟨p,hp,e⟩=>⟨p,h.mem_iff.2 hp,e⟩⟩
theorem cM.bZ{w w':World}{A A' B B':List fm}(h:cM w A w' A')(h1:A.Perm B)(h2:A'.Perm B'):cM w B w' B' :=
 ⟨h.c.mono (fun i _ hi=>(aL.bZ h1).1 hi),fun _ hi=>(h.k _ ((aL.bZ h2).2 hi)).imp (aL.bZ h1).1 id⟩
theorem cE.dE{lo:Nat}{w w':World}{A A' R:List fm}(h:cE lo w (A++R))(h':cE lo w' A')(hg:cM w A w' A'):cE lo w' (A'++R):=by
 obtain⟨hA,hR,hd⟩:=ay.1 h;refine ay.2 ⟨h',hR.nO hg.c (fun k ⟨p,hp,e⟩ ⟨q,hq,e'⟩=>hd q hq p hp (e'.trans e.symm)),fun a ha b hb e=>?_⟩
 rcases hg.k a.1 ⟨a,ha,rfl⟩ with⟨p,hp,e'⟩ | e'
 ·exact hd p hp b hb (e'.trans e)
 ·have:=(hR.lt ⟨b,hb,rfl⟩).2
  omega
theorem cM.dE{w w':World}{A A' R:List fm}(hg:cM w A w' A'):cM w (A++R) w' (A'++R) :=
 ⟨hg.c.mono (fun i _ hi=>aL.bM.2 (Or.inl hi)),fun i hi=>by
  rcases aL.bM.1 hi with h | h
  ·exact(hg.k i h).imp (fun e=>aL.bM.2 (Or.inl e)) id
  ·exact Or.inl (aL.bM.2 (Or.inr h))⟩
def cnt[DecidableEq fm](p:fm)(G:List fm):Nat:=G.count p
theorem aP[DecidableEq fm](p:fm)(A B:List fm):cnt p (A++B)=cnt p A+cnt p B:=List.count_append
theorem bF{A B:List fm}(h:∀ [DecidableEq fm] p,cnt p A=cnt p B):A.Perm B:=by
 have D:DecidableEq fm:=fun a b=>Classical.propDecidable (a=b)
 exact(@List.perm_iff_count fm (@instBEqOfDecidableEq fm D) _ A B).2 (fun p=>@h D p)
def eL(b:Nat)(T:TypeId)(xs:List Value):fm:=(b,fun o=>o=.cells xs.toArray T (0,0))
theorem cE.ap{lo:Nat}{w:World}{G:List fm}{b:Nat}{T:TypeId}{xs:List Value}(h:cE lo w G)(hm:eL b T xs∈G):aZ w b T xs:=by
 obtain⟨_,o,h2,h3,_⟩:=h.all _ hm;exact h2.trans (by rw[show o=_ from h3])
theorem ct{lo:Nat}{w:World}{b:Nat}{T:TypeId}{xs:List Value}(hl:lo≤b)(h:aZ w b T xs)(hT:T+2∉[117+2,246+2,113+2]):cE lo w [eL b T xs] :=
 ⟨by simp,fun p hp=>by
  rw[List.mem_singleton.1 hp]
  exact⟨hl,_,h,rfl,hT⟩⟩
def cx(e:TypeId)(size:Nat)(v:Value)(n:Nat)(xs:List Value):List fm:=match v with
 | .slice (some ⟨g,0,none⟩) m cap=>[(g,fun o=>m=n∧xs.length=n*size∧n≤cap∧cap≤maxLen∧∃ cur,o=.cells cur e (0,0)∧cur.size=cap*size∧cur.toList.take (n*size)=xs)]
 | _=>[]
def du(_:Nat)(v:Value)(n:Nat)(xs:List Value):Prop:=(v=.slice none 0 0∧n=0∧xs=[])∨∃ g cap,v=.slice (some ⟨g,0,none⟩) n cap
theorem du.slice{size n:Nat}{v:Value}{xs:List Value}(h:du size v n xs):∃ a c,v=.slice a n c:=by
 rcases h with⟨rfl,rfl,rfl⟩ | ⟨g,cap,rfl⟩
 ·exact⟨none,0,rfl⟩
 ·exact⟨_,_,rfl⟩
theorem cE.own{lo:Nat}{w:World}{G:List fm}{e:TypeId}{size n:Nat}{v:Value}{xs:List Value}(h:cE lo w G)(hv:du size v n xs)(hm:∀ p∈cx e size v n xs,p∈G):w.ownsRow lo e size v n xs:=by
 rcases hv with⟨rfl,rfl,rfl⟩ | ⟨g,cap,rfl⟩
 ·exact⟨by simp,Or.inl ⟨rfl,rfl⟩⟩
 ·obtain⟨h1,o,h2,h3,_⟩:=h.all _ (hm _ (List.mem_singleton.2 rfl))
  obtain⟨_,h4,h5,h6,cur,rfl,h7,h8⟩:=h3;exact⟨h4,Or.inr ⟨g,cap,cur,rfl,h1,h2,h5,h6,h7,h8⟩⟩
theorem fQ{lo:Nat}{w:World}{e:TypeId}{size n:Nat}{v:Value}{xs:List Value}(h:w.ownsRow lo e size v n xs)(hT:e+2∉[117+2,246+2,113+2]):cE lo w (cx e size v n xs)∧du size v n xs:=by
 obtain⟨h1,h2⟩:=h
 rcases h2 with⟨rfl,rfl⟩ | ⟨g,cap,cur,rfl,h3,h4,h5,h6,h7,h8⟩
 ·exact⟨cE.nil _ _,Or.inl ⟨rfl,rfl,by simpa using h1⟩⟩
 ·refine⟨⟨by simp[cx],fun p hp=>?_⟩,Or.inr ⟨g,cap,rfl⟩⟩
  rw[List.mem_singleton.1 hp];exact⟨h3,_,h4,⟨rfl,h1,h5,h6,cur,rfl,h7,h8⟩,hT⟩
theorem be{e:TypeId}{size n:Nat}{v:Value}{xs:List Value}(hv:du size v n xs){k:Nat}:aL (cx e size v n xs) k↔v.ownBlock=some k:=by
 rcases hv with⟨rfl,rfl,rfl⟩ | ⟨g,cap,rfl⟩
 ·exact⟨fun h=>(aL.nil h).elim,fun h=>by cases h⟩
 ·rw[cx,aL.one]
  exact⟨fun h=>by rw[h];rfl,fun h=>by cases h;rfl⟩
end Go.Proofs.YtkpfplbmmglkkaaGreatDoor
namespace Go.Proofs.YtkpfplbmmglkkaaGreatDoor
open Go.Proofs.Tryz
def cd(sm:List UInt8→List UInt8)(P:List UInt8):List UInt8:=(P.length.toUInt8::P)++sm (P.length.toUInt8::P)
def QB(n:Nat):Bool:=decide (1≤n)&&decide (n≤120)
theorem ox{n:Nat}:QB n=true↔1≤n∧n≤120:=by simp[QB]
def kH(sm:List UInt8→List UInt8)(F:List UInt8):Option (List UInt8) :=
 if 5≤F.length∧QB (F.length-5)=true∧cd sm ((F.drop 1).take (F.length-5))=F then some ((F.drop 1).take (F.length-5)) else none
section
variable {sm:List UInt8→List UInt8}
theorem sE (wZ:∀ L,(sm L).length=4)(P:List UInt8):(cd sm P).length=P.length+5:=by simp[cd,wZ]
theorem Vv{n:Nat}(h:n≤120):n.toUInt8.toNat=n:=by simp[Nat.toUInt8,UInt8.toNat_ofNat'];omega
theorem tW (wZ:∀ L,(sm L).length=4)(P:List UInt8)(h:QB P.length=true):kH sm (cd sm P)=some P:=by
 have hl:=sE wZ P
 have he:((cd sm P).drop 1).take ((cd sm P).length-5)=P:=by
  rw[hl];simp[cd]
 unfold kH;rw[he,if_pos ⟨by omega,by rw[hl];simpa using h,rfl⟩]
end
end Go.Proofs.YtkpfplbmmglkkaaGreatDoor
namespace Go.Proofs.YtkpfplbmmglkkaaGreatDoor
open Go.Proofs.Tryz
open Go.RowKit
def Rd(w:World)(v:Value)(L:List UInt8):Prop :=
 (v=.slice none 0 0∧L=[])∨∃ a c,v=.slice (some a) L.length c∧∀ j u,(L.map bJ)[j]? = some u→w.cell? (a.add j)=some u
theorem Rd.slice{w:World}{v:Value}{L:List UInt8}(h:Rd w v L):∃ a c,v=.slice a L.length c:=by
 rcases h with⟨rfl,rfl⟩ | ⟨a,c,rfl,_⟩
 ·exact⟨none,0,rfl⟩
 ·exact⟨_,_,rfl⟩
theorem fG.rd{w:World}{lo:Nat}{v:Value}{L:List UInt8}(h:fG w lo v L):Rd w v L:=by
 rcases h.2 with⟨rfl,h0⟩ | ⟨g,cap,cur,hv,r⟩
 ·exact Or.inl ⟨rfl,List.eq_nil_of_length_eq_zero h0⟩
 ·exact Or.inr ⟨_,_,hv,fun j u hu=>h.cells (g:=g) (by rw[hv];rfl) j u hu⟩
theorem dF(a:Addr)(j:Nat)(h:a.spot=none):a.add j=⟨a.block,a.off+j,none⟩:=by
 obtain⟨b,o,s⟩:=a;simp only at h;subst h;unfold Addr.add
 split<;>simp_all
theorem Rd.at{w:World}{v:Value}{L:List UInt8}(h:Rd w v L)(h0:0<L.length):∃ b o c,v=.slice (some (aj b o)) L.length c∧b<w.heap.size∧∀ j (hj:j<L.length),w.cell? ⟨b,o+j,none⟩=some (vB (L[j].toNat:Int)):=by
 rcases h with⟨_,rfl⟩ | ⟨a,c,rfl,hc⟩
 ·simp at h0
 ·obtain⟨b,o,s⟩:=a
  have h1:=hc 0 (bJ L[0]) (by simp[List.getElem?_eq_getElem h0]);have h2:(⟨b,o,s⟩:Addr).add 0=⟨b,o,s⟩:=by unfold Addr.add;simp
  rw[h2] at h1;have hs:s=none:=World.cell?_spot h1;subst hs;refine⟨b,o,c,rfl,World.block_lt_of_cell? _ _ h1,fun j hj=>?_⟩;have:=hc j (bJ L[j]) (by simp[List.getElem?_eq_getElem hj]);rw[dF _ _ rfl] at this;exact this
theorem Rd.same{w w':World}{v:Value}{L:List UInt8}(h:Rd w v L){B:Nat}(hb:Below B w w')(hB:∀ k,v.ownBlock=some k→0<L.length→k<B):Rd w' v L:=by
 rcases h with h | ⟨a,c,rfl,hc⟩
 ·exact Or.inl h
 ·refine Or.inr ⟨a,c,rfl,fun j u hu=>?_⟩
  have hl:0<L.length:=by
   rcases Nat.eq_zero_or_pos L.length with e | e
   ·have:=List.eq_nil_of_length_eq_zero e;subst this;simp at hu
   ·exact e
  have h1:=hc j u hu;have h2:(a.add j).block=a.block:=by unfold Addr.add;split<;>rfl
  rw[hb.cell (p:=a.add j) (by rw[h2];exact hB a.block rfl hl)];exact h1
theorem Rd.lt{w:World}{v:Value}{L:List UInt8}(h:Rd w v L):∀ k,v.ownBlock=some k→0<L.length→k<w.heap.size:=by
 intro k hk hl;obtain⟨b,o,c,rfl,hb,_⟩:=h.at hl;simp[Value.ownBlock] at hk;omega
theorem Rd.gr{w w':World}{v:Value}{L:List UInt8}(h:Rd w v L)(hb:Below w.heap.size w w'):Rd w' v L:=h.same hb h.lt
def qd(L:List UInt8):ByteArray:=⟨L.toArray⟩
theorem J2(L:List UInt8):strOfNums (L.map fun c=>(c.toNat:Int))=qd L:=by
 unfold strOfNums qd
 congr 2
 rw[List.map_map]
 conv=>rhs;rw[← List.map_id L]
 apply List.map_congr_left;intro c _;simp
theorem Ea(L:List UInt8):(qd L).toList=L:=by rw[ByteArray.toList_eq];rfl
theorem Rd.conv{w:World}{v:Value}{L:List UInt8}(h:Rd w v L):(convert 103 9 v).run Tryz.prog w=.ok (.string (qd L)) w:=by
 rcases h with⟨rfl,rfl⟩ | ⟨a,c,rfl,hc⟩
 ·exact run_convert_bytes_nil (P:=Tryz.prog) w 103 5 underlying103 underlying5 0 0 9 underlying9
 ·have hl:(loadCells a L.length).run Tryz.prog w=.ok ((L.map fun c=>(c.toNat:Int)).map (Value.int .u8)).toArray w:=by
   have:=run_loadCells_list (P:=Tryz.prog) w a ((L.map fun c=>(c.toNat:Int)).map (Value.int .u8)) (fun j u hj=>hc j u (by rw[List.map_map] at hj;exact hj));simpa using this
  rw[run_convert_bytes_string w 103 9 5 _ L.length c underlying103 underlying5 underlying9,run_bytesToString w _ L.length c _ hl,foldl_push_bytes];have e:=J2 L;unfold strOfNums at e;simp only[ByteArray.empty,ByteArray.emptyWithCapacity];rw[← e];simp;rfl
theorem Eb(w:World){o:Oper}{a:Act}{K:Act→World→Prop}{Q:Exit→Act→World→Prop}(s x:Operand)
  (ho:o.op=.call { callee:=.builtin .append,args:=#[s,x],argTypes:=#[103,103] })
  (v:Value) (L:List UInt8) (lo:Nat) (hs:a.eval s=v) (hP:fG w lo v L) (v2:Value) (L2:List UInt8) (hx:a.eval x=v2) (CE:Rd w v2 L2)
  (hlen:L.length+L2.length≤100000000000) (di:lo≤w.heap.size)
  (h:∀ a' c' w',fG w' lo (.slice a' (L++L2).length c') (L++L2)→gd w w' v (.slice a' (L++L2).length c')→K (a.put o.dst (.slice a' (L++L2).length c')) w'):o.wp Tryz.prog a w K Q:=by
 obtain⟨iI,rE,zj,uZ,zk⟩:=info_parts Tryz.infoByte
 obtain⟨v',w',hr,h2,h3⟩:∃ v' w',(Builtin.append_ #[103,103] o.type #[v,v2]).run Tryz.prog w=.ok v' w'∧fG w' lo v' (L++L2)∧gd w w' v v':=by
  rcases CE with⟨rfl,rfl⟩ | ⟨ad,cap,sB,jO⟩
  ·exact⟨v,w,run_append_owned_none w lo 103 o.type 5 iI 1 underlying103 rE v L.length _ hP,by simpa using hP,gd.refl _ _⟩
  ·subst sB
   obtain⟨v',w',hr,h2,h3,_,h5⟩:=run_append_own_at (P:=Tryz.prog) w lo 103 o.type 5 iI (vB 0) 1 1 underlying103 rE zj uZ zk rfl (by decide) v L.length (L.map bJ) hP ad L2.length cap (L2.map bJ) (by simp) jO (fun u hu=>by obtain⟨q,_,rfl⟩:=List.mem_map.1 hu;rfl) (by unfold maxLen;omega) (by omega) di;refine⟨v',w',hr,?_,h3,fun k hk=>?_⟩
   ·show w'.ownsRow _ _ _ _ _ _
    rw[List.length_append,List.map_append];exact h2
   ·rcases h5 with h5 | h5
    ·exact Or.inl (h5 ▸ hk)
    ·rw[hk] at h5;cases h5;exact Or.inr (Nat.le_refl _)
 obtain⟨a',c',Mr⟩:=ax h2;subst Mr;unfold Oper.wp execOp;simp only[ho,resolve,invoke,builtin,Sem.run_bind,Sem.run_pure,Result.andThen_ok,List.map_toArray,List.map_cons,List.map_nil,hs,hx,hr];exact h a' c' w' h2 h3
theorem kr(w:World){ops:Array Oper}{rest:List Oper}{o:Oper}{a:Act}{Q:Exit→Act→World→Prop}(JA:o.guard=none)(s x:Operand)
  (ho:o.op=.call { callee:=.builtin .append,args:=#[s,x],argTypes:=#[103,103] })
  (v:Value) (L:List UInt8) (lo:Nat) (hs:a.eval s=v) (hP:fG w lo v L) (v2:Value) (L2:List UInt8) (hx:a.eval x=v2) (CE:Rd w v2 L2) (M:List UInt8) (hM:L++L2=M)
  (hlen:L.length+L2.length≤100000000000) (di:lo≤w.heap.size)
  (h:∀ a' c' w',fG w' lo (.slice a' M.length c') M→gd w w' v (.slice a' M.length c')→wpList Tryz.prog ops Q rest (a.put o.dst (.slice a' M.length c')) w'):wpList Tryz.prog ops Q (o::rest) a w:=by
 subst hM;exact wpList_plain JA fun _ hK=>Eb w s x ho v L lo hs hP v2 L2 hx CE hlen di fun a' c' w' h2 h3=>hK _ _ (h a' c' w' h2 h3)
theorem Vw(a:Option Addr)(l c:Nat)(w:World):(binOp .eql 103 (.slice a l c) (.slice none 0 0)).run Tryz.prog w=.ok (.bool a.isNone) w:=by
 have h1:∀ d:Nat,(Op.equalIn (d+1) 103 (.slice a l c) (.slice none 0 0)).run Tryz.prog w=.ok a.isNone w:=fun d=>by cases a<;>simp[Op.equalIn,run_underlying underlying103]
 have h2:(Op.equal 103 (.slice a l c) (.slice none 0 0)).run Tryz.prog w=.ok a.isNone w:=h1 9999;simp[binOp,h2]
theorem My(w:World)(L:List UInt8)(cs:Array Value)(h:cs.toList=L.map bJ)(hm:L.length≤100):fG (w.alloc (.cells cs 5)) w.heap.size (.slice (some (aj w.heap.size 0)) L.length L.length) L:=by
 have:=World.ownsRow_lit (base:=w.heap.size) (e:=5) (size:=1) w cs L.length (Nat.le_refl _) (by unfold maxLen;omega) (by have:=congrArg List.length h;simpa using this);rw[h] at this;exact this
theorem mL(n:Int)(w:World):
  aT 170 #[vI n] w fun e w'=>e=.returned (.bool (decide (1≤n)&&decide (n≤120)))∧w'=w:=by
 go_enter func170,ntmps170
 go_wp2
 ·have h:1≤n:=by assumption
  go_ret
  exact⟨bR (by simp[h]),rfl⟩
 ·have h:n<1:=by assumption
  go_ret
  exact⟨bR (by simp;omega),rfl⟩
theorem zx(w:World)(v v2:Value)(L M:List UInt8)(h:Rd w v L)(h2:Rd w v2 M):
  aT 228 #[v,v2] w fun e w'=>e=.returned (.bool (decide (L=M)))∧w'=w:=by
 have hc:=h.conv;have jO:=h2.conv
 go_enter func228,ntmps228
 go_wp2
 go_ret
 exact⟨bR (by rw[Bool.eq_iff_iff];simp[Ea]),rfl⟩
def Od(z:Int):Int:=bif (bits BinOp.and IntKind.u32 z 1==1) then bits BinOp.xor IntKind.u32 (z / 2) 3988292384 else z / 2
def F5:Nat→Int→Int
 | 0,z=>z
 | n+1,z=>Od (F5 n z)
def Vx(z:Int)(c:UInt8):Int:=F5 8 (bits BinOp.xor IntKind.u32 z ((c.toNat:Int) % 4294967296))
def Ec(L:List UInt8):Int:=L.foldl Vx 4294967295
def xS(L:List UInt8):Int:=bits BinOp.xor IntKind.u32 IntKind.u32.max (Ec L)
theorem tX(op:BinOp)(x y:Int):0≤bits op IntKind.u32 x y∧bits op IntKind.u32 x y<4294967296:=by
 unfold bits
 have:∀ n:Int,0≤IntKind.u32.wrap n∧IntKind.u32.wrap n<4294967296:=fun n=>by
  have e:IntKind.u32.wrap n=n % 4294967296:=by unfold IntKind.wrap;simp[IntKind.bits,IntKind.signed]
  rw[e];omega
 exact this _
theorem Vy{z:Int}(h:0≤z∧z<4294967296):0≤Od z∧Od z<4294967296:=by
 unfold Od;cases (bits BinOp.and IntKind.u32 z 1==1)
 ·simp only[cond_false];omega
 ·rw[cond_true];exact tX _ _ _
theorem Ed:∀ (n:Nat) {z:Int},0≤z∧z<4294967296→0≤F5 n z∧F5 n z<4294967296
 | 0,_,h=>h
 | n+1,_,h=>Vy (Ed n h)
theorem Vz(z:Int)(c:UInt8):0≤Vx z c∧Vx z c<4294967296:=Ed 8 (tX _ _ _)
theorem VA(L:List UInt8):0≤Ec L∧Ec L<4294967296:=by
 unfold Ec
 rcases List.eq_nil_or_concat L with rfl | ⟨M,c,rfl⟩
 ·simp
 ·rw[List.concat_eq_append,List.foldl_append];exact Vz _ _
theorem Oe(w:World)(v:Value)(L:List UInt8)(h:Rd w v L)(hl:L.length≤1000000):
  aT 171 #[v] w fun e w'=>e=.returned (.int .u32 (xS L))∧w'=w:=by
 obtain⟨a,c,rfl⟩:=h.slice;have H:=U h;clear h
 go_enter func171,ntmps171
 go_wp2
 go_loop [3,5,6,9] (fun r x5 x6 i=>∃ k:Nat,k≤L.length∧i=.int .i64 k∧r=.int .u32 (Ec (L.take k))) (fun _ _ _ i=>L.length-(intOf i).toNat)
 case atStart=>exact⟨0,Nat.zero_le _,rfl,rfl⟩
 case round=>
  obtain⟨k,hk,rfl,rfl⟩:=hrel;have hbd:=VA (L.take k)
  by_cases bC:k<L.length
  ·obtain⟨b,o,c',hv,hb,hc⟩:=H.o.at (by omega)
   obtain⟨rfl,rfl⟩:a=some (aj b o)∧c=c':=by simpa using hv
   have JE:=hc k bC;have HS:=U (show Ec (L.take (k+1))=Vx (Ec (L.take k)) L[k] by unfold Ec;rw[List.take_succ_eq_append_getElem bC,List.foldl_append];rfl);generalize Ec (L.take k)=z at *;generalize L[k]=d at *;clear hc
   go_wp2_with fail
   go_loop [3,6,17] (fun r x6 j=>∃ q:Nat,q≤8∧j=.int .i64 q∧r=.int .u32 (F5 q (bits BinOp.xor IntKind.u32 z ((d.toNat:Int) % 4294967296)))) (fun _ _ j=>8-(intOf j).toNat)
   case atStart=>exact⟨0,Nat.zero_le _,rfl,rfl⟩
   case round=>
    obtain⟨q,hq,rfl,rfl⟩:=hrel;have VB:=Ed q (tX BinOp.xor z ((d.toNat:Int) % 4294967296))
    by_cases arH:q<8
    ·have HQ:=U (show F5 (q+1) (bits BinOp.xor IntKind.u32 z ((d.toNat:Int) % 4294967296))=Od (F5 q (bits BinOp.xor IntKind.u32 z ((d.toNat:Int) % 4294967296))) from rfl)
     generalize F5 q (bits BinOp.xor IntKind.u32 z ((d.toNat:Int) % 4294967296))=y at *;have HC:=U (show Od y=bif (bits BinOp.and IntKind.u32 y 1==1) then bits BinOp.xor IntKind.u32 (y / 2) 3988292384 else y / 2 from rfl)
     go_wp2_with fail
     ·have ht:(bits BinOp.and IntKind.u32 y 1==1)=true:=by assumption
      go_round
      case rel=>exact⟨q+1,by omega,by go_num,by rw[HQ.o,HC.o,ht];rfl⟩
      case measure=>simp[intOf];omega
     ·have ht:(bits BinOp.and IntKind.u32 y 1==1)=false:=by assumption
      go_round
      case rel=>exact⟨q+1,by omega,by go_num,by rw[HQ.o,HC.o,ht];rfl⟩
      case measure=>simp[intOf];omega
    ·obtain rfl:q=8:=by omega
     go_wp2_with fail
     go_round
     case rel=>exact⟨k+1,by omega,by go_num,by rw[HS.o];rfl⟩
     case measure=>simp[intOf];omega
  ·go_wp2_with fail
   go_ret
   exact⟨mH (by rw[List.take_of_length_le (by omega)];rfl),rfl⟩
def eQ(L:List UInt8):List UInt8:=[(xS L / 16777216).toNat.toUInt8,(xS L / 65536).toNat.toUInt8,(xS L / 256).toNat.toUInt8,(xS L).toNat.toUInt8]
theorem tY(L:List UInt8):(eQ L).length=4:=rfl
def Re(w:World)(P:List UInt8)(e:Ending)(w':World):Prop :=
 Below w.heap.size w w'∧bif QB P.length then ∃ a c,e=.returned (.tuple #[.slice a (cd eQ P).length c,.int .i64 0])∧fG w' w.heap.size (.slice a (cd eQ P).length c) (cd eQ P)
  else e=.returned (.tuple #[.slice none 0 0,.int .i64 7])
theorem zy(w:World)(v:Value)(L:List UInt8)(h:Rd w v L)(h0:0<L.length)(hl:L.length≤1000000000):
  aT 227 #[v] w fun e w'=>∃ a c,e=.returned (.slice a L.length c)∧fG w' w.heap.size (.slice a L.length c) L∧Below w.heap.size w w':=by
 obtain⟨b,o,c,rfl,hb,_⟩:=h.at h0;have H:=U h;clear h;have hq:=Vw (some (aj b o)) L.length c w
 go_enter func227,ntmps227
 go_wp2_with (at_builtin;refine kr _ rfl _ _ rfl _ [] w.heap.size rfl (My _ [] _ rfl (by simp)) _ L rfl (H.o.gr ((Below.refl _ _).alloc (Nat.le_refl _) _)) L rfl (by simp;omega) (by simp) ?_)
 intro a1 c1 w1 aA ku;have bi:Below w.heap.size w w1:=((Below.refl _ _).alloc (Nat.le_refl _) _).trans (ku.below (fun k hk=>by simp[Value.ownBlock] at hk;omega) (by simp))
 go_wp2_with fail
 go_ret
 exact⟨a1,c1,rfl,aA,bi⟩
theorem F6(w:World)(v:Value)(P:List UInt8)(h:Rd w v P)(hl:P.length≤maxLen):
  aT 121 #[v] w (Re w P):=by
 obtain⟨pa,pc,rfl⟩:=h.slice;unfold maxLen at hl;have H:=U h;clear h
 by_cases bX:QB P.length=true
 ·have hb:=ox.1 bX
  have hi:(decide (1≤(P.length:Int))&&decide ((P.length:Int)≤120))=true:=by simp;omega
  have HO:=U bX;clear bX
  go_enter func121,ntmps121
  go_wp2_with fail
  refine(mL _ _).mono ?_;rintro e w1 ⟨rfl,rfl⟩;rw[hi];have ZF:([P.length.toUInt8]++P).length≤121:=by simp;omega
  have ZG:=U (show cd eQ P=([P.length.toUInt8]++P)++eQ ([P.length.toUInt8]++P) from rfl);obtain⟨M,HM⟩:∃ M,Hid ([P.length.toUInt8]++P=M):=⟨_,rfl⟩
  have hM:M.length≤121:=by rw[← HM.o];exact ZF
  have HF:Hid (cd eQ P=M++eQ M):=by rw[← HM.o];exact ZG
  clear ZF ZG
  go_wp2_with (at_builtin;refine kr _ rfl (.tmp 13) (.tmp 14) rfl _ [P.length.toUInt8] w1.heap.size rfl (qP _ _ _ (by rw[Vv hb.2])) _ P rfl (H.o.gr ((Below.refl _ _).alloc (Nat.le_refl _) _)) M HM.o (by rw[List.length_singleton];omega) (by simp) ?_)
  intro a1 c1 w2 aW nG;have qf:Below w1.heap.size w1 w2:=((Below.refl _ _).alloc (Nat.le_refl _) _).trans (nG.below (fun k hk=>by simp[Value.ownBlock] at hk;omega) (by simp));have BY:=qf.size;have gX:=U aW;clear aW nG
  go_wp2_with fail
  refine(Oe _ _ M gX.o.rd (by omega)).mono ?_;rintro e w3 ⟨rfl,rfl⟩;have hsb:0≤xS M∧xS M<4294967296:=tX _ _ _;have HS:=U (show eQ M=[(xS M / 16777216).toNat.toUInt8,(xS M / 65536).toNat.toUInt8,(xS M / 256).toNat.toUInt8,(xS M).toNat.toUInt8] from rfl);generalize xS M=z at *;obtain⟨FF,HFF⟩:∃ FF,Hid (M++eQ M=FF):=⟨_,rfl⟩
  have Rf:Hid (cd eQ P=FF):=HF.o.trans HFF.o
  go_wp2_with (at_builtin;refine kr _ rfl (.tmp 18) (.tmp 30) rfl _ M w1.heap.size rfl (gX.o.same ((Below.refl _ _).alloc (Nat.le_refl _) _)) _ (eQ M) rfl (My _ (eQ M) _ (by rw[HS.o];simp[bJ];omega) (by rw[HS.o];simp)).rd FF HFF.o (by rw[HS.o];simp;omega) (by simp;omega) ?_)
  intro a3 c3 w4 iA pI;have xb:Below w1.heap.size w1 w4:=(qf.alloc BY _).trans (pI.below (fun k hk=>(gX.o.lt k hk).1) (by simp;omega));have rY:=U iA;clear iA pI
  go_wp2_with fail
  go_ret2
  refine⟨xb,?_⟩;rw[HO.o,Rf.o];exact⟨a3,c3,rfl,rY.o⟩
 ·have nH:QB P.length=false:=by simpa using bX
  have hi:(decide (1≤(P.length:Int))&&decide ((P.length:Int)≤120))=false:=by
   rw[← nH];unfold QB;rw[Bool.eq_iff_iff];simp;omega
  have HO:=U nH;clear bX nH
  go_enter func121,ntmps121
  go_wp2_with fail
  refine(mL _ _).mono ?_;rintro e w1 ⟨rfl,rfl⟩;rw[hi]
  go_wp2_with fail
  go_ret2
  refine⟨Below.refl _ _,?_⟩;rw[HO.o];rfl
end Go.Proofs.YtkpfplbmmglkkaaGreatDoor
