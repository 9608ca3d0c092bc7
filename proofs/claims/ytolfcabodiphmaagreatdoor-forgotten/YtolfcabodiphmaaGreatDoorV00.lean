/- Bytes in memory, and what is put behind them: for the program's texts, the reference's and the statements'. -/
import Derived.Test.YtolfcabodiphmaaGreatDoorRows
import Derived.WalkKit
import Derived.WalkSpells
import Derived.WalkLawsBesides
import Derived.Deep.LoopGhost
import Derived.Deep.QuietTactic
import Derived.BigQuiet
import Derived.Deep.AppendLies
import Derived.Maps.AppendAt
import Derived.Conc.LoneSelect
import Derived.Laws.StructEq
import Derived.MapKept
import Derived.DeepKeys3
import Derived.Deep.RegionWith
import Derived.Below
import Derived.Laws.BytesArg
import Derived.Deep.CutRange
import Derived.Laws.ResultCell
import Derived.Laws.IdiomRangeMap
set_option linter.unusedSimpArgs false
set_option linter.unusedVariables false
set_option maxHeartbeats 2000000
set_option maxRecDepth 100000
namespace Go.Proofs.YtolfcabodiphmaaGreatDoor
open Go.Proofs.Tryz
open Go.RowKit
theorem nK{k:IntKind}{a b:Int}(h:a=b):Ending.returned (.int k a)=.returned (.int k b):=by rw[h]
theorem bM{a b:Bool}(h:a=b):Ending.returned (.bool a)=.returned (.bool b):=by rw[h]
theorem hid{p:Prop}(h:p):Hid p:=h
theorem aC{w w':World}{lo:Nat}{e:TypeId}{size n:Nat}{v:Value}{xs:List Value}(h:w.ownsRow lo e size v n xs)(hs:∀ g,v.ownBlock=some g→w'.heap[g]? = w.heap[g]?):w'.ownsRow lo e size v n xs:=by
 obtain⟨h1,h2⟩:=h
 refine⟨h1,?_⟩
 rcases h2 with h2 | ⟨g,cap,cur,hv,hg,hh,r⟩
 ·exact Or.inl h2
 ·exact Or.inr ⟨g,cap,cur,hv,hg,by rw[hs g (by rw[hv];rfl)];exact hh,r⟩
theorem ay{w:World}{lo:Nat}{e:TypeId}{size n:Nat}{v:Value}{xs:List Value}(h:w.ownsRow lo e size v n xs):∃ a c,v=.slice a n c:=by
 rcases h.2 with⟨rfl,rfl⟩ | ⟨g,cap,cur,rfl,_⟩
 ·exact⟨none,0,rfl⟩
 ·exact⟨_,_,rfl⟩
theorem mM{w:World}{lo:Nat}{e:TypeId}{size n:Nat}{v:Value}{xs:List Value}(h:w.ownsRow lo e size v n xs){g:Nat}(hg:v.ownBlock=some g):∃ cur,w.heap[g]? = some (.cells cur e (0,0)):=by
 rcases h.2 with⟨rfl,_⟩ | ⟨g',cap,cur,rfl,_,hh,_⟩
 ·simp[Value.ownBlock] at hg
 ·simp[Value.ownBlock] at hg;subst hg;exact⟨cur,hh⟩
theorem own_ne{w:World}{lo lo':Nat}{e e':TypeId}{size size' n n':Nat}{v v':Value}{xs xs':List Value}(h:w.ownsRow lo e size v n xs)(h':w.ownsRow lo' e' size' v' n' xs')(he:e≠e'){g g':Nat}(hg:v.ownBlock=some g)(hg':v'.ownBlock=some g'):g≠g':=by
 intro hh;subst hh
 obtain⟨c,hc⟩:=mM h hg
 obtain⟨c',hc'⟩:=mM h' hg'
 rw[hc] at hc';simp at hc';exact he hc'.2
def aZ(c:UInt8):Value:=.int .u8 c.toNat
def gZ(w:World)(lo:Nat)(v:Value)(L:List UInt8):Prop:=w.ownsRow lo 5 1 v L.length (L.map aZ)
theorem gZ.same{w w':World}{lo:Nat}{v:Value}{L:List UInt8}(h:gZ w lo v L)(hb:Below w.heap.size w w'):gZ w' lo v L :=
 aC h (fun g hg=>hb.block g (h.lt g hg).2)
structure Grew(w w':World)(v v':Value):Prop where
 g:w.grownBy w' v.ownBlock
 b:∀ k,v'.ownBlock=some k→v.ownBlock=some k∨w.heap.size≤k
theorem Grew.refl(w:World)(v:Value):Grew w w v v:=⟨World.grownBy.refl _ _,fun _ hk=>Or.inl hk⟩
theorem Grew.trans{w w1 w2:World}{v v1 v2:Value}(h:Grew w w1 v v1)(k:Grew w1 w2 v1 v2):Grew w w2 v v2:=by
 refine⟨⟨k.g.os.trans h.g.os,k.g.tape.trans h.g.tape,k.g.output.trans h.g.output,Nat.le_trans h.g.size k.g.size,fun q hq hne=>?_⟩,fun q hq=>?_⟩
 ·rw[k.g.block q (Nat.lt_of_lt_of_le hq h.g.size) (fun e=>?_),h.g.block q hq hne]
  rcases h.b q e.symm with e' | e'
  ·exact hne e'.symm
  ·omega
 ·rcases k.b q hq with e | e
  ·exact h.b q e
  ·exact Or.inr (Nat.le_trans h.g.size e)
theorem Grew.call{w w':World}{v:Value}(hb:Below w.heap.size w w'):Grew w w' v v:=⟨⟨hb.os,hb.tape,hb.output,hb.size,fun k hk _=>hb.block k hk⟩,fun _ hk=>Or.inl hk⟩
theorem Grew.below{w w':World}{v v':Value}{B:Nat}(h:Grew w w' v v')(hB:∀ k,v.ownBlock=some k→B≤k)(hw:B≤w.heap.size):Below B w w' :=
 (Below.refl B w).grown h.g hw hB
theorem Tryz.infoByte:(Tryz.prog.info? 5).map (fun i=>(i.zero,i.size,i.bytes))=some (some (.int .u8 0),1,1):=by kernel_rfl
theorem F7(w:World){o:Oper}{a:Act}{K:Act→World→Prop}{Q:Exit→Act→World→Prop}(s x:Operand)
  (ho:o.op=.call { callee:=.builtin .append,args:=#[s,x],argTypes:=#[64,64] })
  (v:Value) (L:List UInt8) (lo:Nat) (hs:a.eval s=v) (hP:gZ w lo v L) (v2:Value) (L2:List UInt8) (lo2:Nat) (hx:a.eval x=v2) (hP2:gZ w lo2 v2 L2)
  (hlen:L.length+L2.length≤100000000000) (hlo:lo≤w.heap.size)
  (h:∀ a' c' w',gZ w' lo (.slice a' (L++L2).length c') (L++L2)→Grew w w' v (.slice a' (L++L2).length c')→K (a.put o.dst (.slice a' (L++L2).length c')) w'):o.wp Tryz.prog a w K Q:=by
 obtain⟨iI,uS,hI0,hI1,hI2⟩:=info_parts Tryz.infoByte
 obtain⟨v',w',hr,h2,h3⟩:∃ v' w',(Builtin.append_ #[64,64] o.type #[v,v2]).run Tryz.prog w=.ok v' w'∧gZ w' lo v' (L++L2)∧Grew w w' v v':=by
  rcases hP2.2 with⟨rfl,h0⟩ | ⟨g,cap,cur,hv2,_⟩
  ·have hL2:L2=[]:=List.eq_nil_of_length_eq_zero h0
   subst hL2
   exact⟨v,w,run_append_owned_none w lo 64 o.type 5 iI 1 underlying64 uS v L.length _ hP,by simpa using hP,Grew.refl _ _⟩
  ·subst hv2
   obtain⟨v',w',hr,h2,h3,_,h5⟩:=run_append_own_at (P:=Tryz.prog) w lo 64 o.type 5 iI (.int .u8 0) 1 1 underlying64 uS hI0 hI1 hI2 rfl (by decide) v L.length (L.map aZ) hP ⟨g,0,none⟩ L2.length cap (L2.map aZ) (by simp) (hP2.cells (g:=g) rfl) (fun u hu=>by obtain⟨q,_,rfl⟩:=List.mem_map.1 hu;rfl) (by unfold maxLen;omega) (by omega) hlo
   refine⟨v',w',hr,?_,h3,fun k hk=>?_⟩
   ·show w'.ownsRow _ _ _ _ _ _
    rw[List.length_append,List.map_append];exact h2
   ·rcases h5 with h5 | h5
    ·exact Or.inl (h5 ▸ hk)
    ·rw[hk] at h5;cases h5;exact Or.inr (Nat.le_refl _)
 obtain⟨a',c',hv'⟩:=ay h2
 subst hv'
 unfold Oper.wp execOp
 simp only[ho,resolve,invoke,builtin,Sem.run_bind,Sem.run_pure,Result.andThen_ok,List.map_toArray,List.map_cons,List.map_nil,hs,hx,hr]
 exact h a' c' w' h2 h3
theorem fB(w:World){ops:Array Oper}{rest:List Oper}{o:Oper}{a:Act}{Q:Exit→Act→World→Prop}(hgd:o.guard=none)(s x:Operand)
  (ho:o.op=.call { callee:=.builtin .append,args:=#[s,x],argTypes:=#[64,64] })
  (v:Value) (L:List UInt8) (lo:Nat) (hs:a.eval s=v) (hP:gZ w lo v L) (v2:Value) (L2:List UInt8) (lo2:Nat) (hx:a.eval x=v2) (hP2:gZ w lo2 v2 L2)
  (hlen:L.length+L2.length≤100000000000) (hlo:lo≤w.heap.size)
  (h:∀ a' c' w',gZ w' lo (.slice a' (L++L2).length c') (L++L2)→Grew w w' v (.slice a' (L++L2).length c')→wpList Tryz.prog ops Q rest (a.put o.dst (.slice a' (L++L2).length c')) w'):wpList Tryz.prog ops Q (o::rest) a w :=
 wpList_plain hgd fun _ hK=>F7 w s x ho v L lo hs hP v2 L2 lo2 hx hP2 hlen hlo fun a' c' w' h2 h3=>hK _ _ (h a' c' w' h2 h3)
theorem sS(w:World)(c:UInt8)(z:Int)(hz:z=(c.toNat:Int)):gZ (w.alloc (.cells #[.int .u8 z] 5)) w.heap.size (.slice (some ⟨w.heap.size,0,none⟩) 1 1) [c]:=by
 subst hz
 exact World.ownsRow_lit (base:=w.heap.size) (e:=5) (size:=1) w #[.int .u8 c.toNat] 1 (Nat.le_refl _) (by unfold maxLen;omega) rfl
theorem DW(w:World){o:Oper}{a:Act}{K:Act→World→Prop}{Q:Exit→Act→World→Prop}(s x:Operand)(t e:TypeId)(z:Value)(size bytes:Nat)
  (ho:o.op=.call { callee:=.builtin .append,args:=#[s,x],argTypes:=#[t,t] }) (ht:Tryz.prog.underlying t=some (.slice e)) (hi:(Tryz.prog.info? e).map (fun i=>(i.zero,i.size,i.bytes))=some (some z,size,bytes))
  (hzs:z.cells.size=size) (hsz:0<size) (v:Value) (n:Nat) (xs:List Value) (lo:Nat) (hs:a.eval s=v) (hP:w.ownsRow lo e size v n xs) (ad:Addr) (m c:Nat) (news:List Value) (hx:a.eval x=.slice (some ad) m c)
  (hl:news.length=m*size) (hnews:∀ j u,news[j]? = some u→w.cell? (ad.add j)=some u) (h1:∀ u∈news,u.oneCell'=true) (hlen:n+m≤maxLen) (hbytes:(n+m)*bytes≤140737488355328) (hlo:lo≤w.heap.size)
  (h:∀ a' c' w',w'.ownsRow lo e size (.slice a' (n+m) c') (n+m) (xs++news)→Grew w w' v (.slice a' (n+m) c')→K (a.put o.dst (.slice a' (n+m) c')) w'):o.wp Tryz.prog a w K Q:=by
 obtain⟨iI,uS,hI0,hI1,hI2⟩:=info_parts hi
 obtain⟨v',w',hr,h2,h3,_,h5⟩:=run_append_own_at (P:=Tryz.prog) w lo t o.type e iI z size bytes ht uS hI0 hI1 hI2 hzs hsz v n xs hP ad m c news hl hnews h1 hlen hbytes hlo
 obtain⟨a',c',hv'⟩:=ay h2
 subst hv'
 have hG:Grew w w' v (.slice a' (n+m) c'):=⟨h3,fun k hk=>by
  rcases h5 with h5 | h5
  ·exact Or.inl (h5 ▸ hk)
  ·rw[hk] at h5;cases h5;exact Or.inr (Nat.le_refl _)⟩
 unfold Oper.wp execOp
 simp only[ho,resolve,invoke,builtin,Sem.run_bind,Sem.run_pure,Result.andThen_ok,List.map_toArray,List.map_cons,List.map_nil,hs,hx,hr]
 exact h a' c' w' h2 hG
theorem eG(w:World){ops:Array Oper}{rest:List Oper}{o:Oper}{a:Act}{Q:Exit→Act→World→Prop}(hgd:o.guard=none)(s x:Operand)(t e:TypeId)(z:Value)(size bytes:Nat)
  (ho:o.op=.call { callee:=.builtin .append,args:=#[s,x],argTypes:=#[t,t] }) (ht:Tryz.prog.underlying t=some (.slice e)) (hi:(Tryz.prog.info? e).map (fun i=>(i.zero,i.size,i.bytes))=some (some z,size,bytes))
  (hzs:z.cells.size=size) (hsz:0<size) (v:Value) (n:Nat) (xs:List Value) (lo:Nat) (hs:a.eval s=v) (hP:w.ownsRow lo e size v n xs) (ad:Addr) (m c:Nat) (news:List Value) (hx:a.eval x=.slice (some ad) m c)
  (hl:news.length=m*size) (hnews:∀ j u,news[j]? = some u→w.cell? (ad.add j)=some u) (h1:∀ u∈news,u.oneCell'=true) (N:Nat) (hN:n+m=N) (X:List Value) (hX:xs++news=X) (hlen:n+m≤maxLen) (hbytes:(n+m)*bytes≤140737488355328) (hlo:lo≤w.heap.size)
  (h:∀ a' c' w',w'.ownsRow lo e size (.slice a' N c') N X→Grew w w' v (.slice a' N c')→wpList Tryz.prog ops Q rest (a.put o.dst (.slice a' N c')) w'):wpList Tryz.prog ops Q (o::rest) a w:=by
 subst hN hX
 exact wpList_plain hgd fun _ hK=>DW w s x t e z size bytes ho ht hi hzs hsz v n xs lo hs hP ad m c news hx hl hnews h1 hlen hbytes hlo fun a' c' w' h2 h3=>hK _ _ (h a' c' w' h2 h3)
end Go.Proofs.YtolfcabodiphmaaGreatDoor
namespace Go.Proofs.YtolfcabodiphmaaGreatDoor
open Go.Proofs.Tryz
open Go.RowKit Go.Conc
def Tf(P:Program)(c:Code)(Q:Exit→Act→World→Prop)(a:Act)(w:World):Prop :=
 ∀ (b:Frame) (k:List Item) (cs:List Frame),b.kind=.normal →
  ∃ e a' w',Q e a' w'∧Arrives P (lone (b.at a (.code c::k)) cs w) b k cs e a' w'
section
variable {P:Program} {Q:Exit→Act→World→Prop} {a:Act} {w:World}
theorem oK{c:Code}(h:c.wp P Q a w):Tf P c Q a w:=fun b k cs _=>h b k cs
theorem zZ{x y:Code}(h:Tf P x (Exit.then (Tf P y Q) Q) a w):Tf P (Code.seq x y) Q a w:=by
 intro b k cs hb
 obtain⟨e,a₁,w₁,hq,harr⟩:=h b (.code y::k) cs hb
 cases e with
 | normal=>
  obtain⟨e₂,a₂,w₂,hq₂,harr₂⟩:=hq b k cs hb
  exact⟨e₂,a₂,w₂,hq₂,.of_steps (.head step_seq harr) harr₂⟩
 | exit id=>exact⟨_,a₁,w₁,hq,.of_steps (.one step_seq) (.pass (x:=.code y) rfl (fun _ _=>.inl (by simp)) harr)⟩
 | goto l=>exact⟨_,a₁,w₁,hq,.of_steps (.one step_seq) (.pass (x:=.code y) rfl (fun _ _=>.inl (by simp)) harr)⟩
 | ret=>exact⟨_,a₁,w₁,hq,.of_steps (.one step_seq) (.pass (x:=.code y) rfl (fun _ _=>.inl (by simp)) harr)⟩
 | panic ch=>exact⟨_,a₁,w₁,hq,.of_steps (.one step_seq) (.pass (x:=.code y) rfl (fun _ _=>.inl (by simp)) harr)⟩
 | outgrown=>exact⟨_,a₁,w₁,hq,.of_steps (.one step_seq) (.pass (x:=.code y) rfl (fun _ _=>.inl (by simp)) harr)⟩
theorem gI{x y:Code}(h:∀ K:Act→World→Prop,(∀ a w,Tf P y Q a w→K a w)→x.wp P (Exit.then K Q) a w):Tf P (Code.seq x y) Q a w :=
 zZ (oK (h _ fun _ _ h=>h))
theorem Eu{id:Nat}{c:Code}(h:Tf P c (Exit.inBlock id Q) a w):Tf P (Code.block id c) Q a w:=by
 intro b k cs hb
 obtain⟨e,a₁,w₁,hq,harr⟩:=h b (.inBlock id::k) cs hb
 cases e with
 | normal=>exact⟨.normal,a₁,w₁,hq,.head step_block (Steps.trans harr (.one step_inBlock))⟩
 | exit id'=>
  by_cases hid:id'=id
  ·simp only[Exit.inBlock,hid,if_true] at hq
   exact⟨.normal,a₁,w₁,hq,.head step_block (harr k (by simp[exitTo,hid]))⟩
  ·simp only[Exit.inBlock,hid,if_false] at hq
   refine⟨.exit id',a₁,w₁,hq,fun k' hk=>.head step_block (harr k' ?_)⟩
   have:(id==id')=false:=by simp;exact fun h=>hid h.symm
   simp[exitTo,this,hk]
 | goto l=>exact⟨_,a₁,w₁,hq,fun k' hk=>.head step_block (harr k' (by simp[gotoIn,hk]))⟩
 | ret=>exact⟨_,a₁,w₁,hq,.of_steps (.one step_block) harr⟩
 | panic ch=>exact⟨_,a₁,w₁,hq,.of_steps (.one step_block) harr⟩
 | outgrown=>exact⟨_,a₁,w₁,hq,.of_steps (b:=b) (k:=k) (cs:=cs) (e:=.outgrown) (.one step_block) harr⟩
theorem TF{c:Code}(I:Act→World→Prop)(μ:Act→World→Nat)(h₀:I a w)
  (round:∀ a w,I a w→Tf P c (Exit.then (fun a' w'=>I a' w' ∧ μ a' w' < μ a w) Q) a w):Tf P (Code.loop c) Q a w:=by
 intro b k cs hb
 have key:∀ n a w,μ a w=n→I a w→∃ e a' w',Q e a' w'∧Arrives P (lone (b.at a (.code c::.inLoop c::k)) cs w) b k cs e a' w':=by
  intro n
  induction n using Nat.strongRecOn with
  | _ n ih=>
   intro a w hn hI
   obtain⟨e,a₁,w₁,hq,harr⟩:=round a w hI b (.inLoop c::k) cs hb
   cases e with
   | normal=>
    obtain⟨hI₁,hlt⟩:=hq
    obtain⟨e₂,a₂,w₂,hq₂,harr₂⟩:=ih (μ a₁ w₁) (hn ▸ hlt) a₁ w₁ rfl hI₁
    exact⟨e₂,a₂,w₂,hq₂,.of_steps (Steps.trans harr (.one step_inLoop)) harr₂⟩
   | exit id=>exact⟨_,a₁,w₁,hq,.pass (x:=.inLoop c) rfl (fun _ _=>.inl (by simp)) harr⟩
   | goto l=>exact⟨_,a₁,w₁,hq,.pass (x:=.inLoop c) rfl (fun _ _=>.inl (by simp)) harr⟩
   | ret=>exact⟨_,a₁,w₁,hq,.pass (x:=.inLoop c) rfl (fun _ _=>.inl (by simp)) harr⟩
   | panic ch=>exact⟨_,a₁,w₁,hq,.pass (x:=.inLoop c) rfl (fun _ _=>.inl (by simp)) harr⟩
   | outgrown=>exact⟨_,a₁,w₁,hq,.pass (x:=.inLoop c) rfl (fun _ _=>.inl (by simp)) harr⟩
 obtain⟨e,a',w',hq,harr⟩:=key _ a w rfl h₀
 exact⟨e,a',w',hq,.of_steps (.one step_loop) harr⟩
def NW(P:Program)(ops:Array Oper)(Q:Exit→Act→World→Prop)(l:List Nat)(a:Act)(w:World):Prop :=
 ∀ (b:Frame) (k:List Item) (cs:List Frame),b.kind=.normal →
  ∃ e a' w',Q e a' w'∧Arrives P (lone (b.at a (.inRegion ops l::k)) cs w) b k cs e a' w'
theorem uT{id:Nat}{ops:Array Oper}(h:NW P ops Q (List.range ops.size) a w):Tf P (Code.region id ops false) Q a w :=
 fun b k cs hb=>let ⟨e,a',w',q,r⟩:=h b k cs hb;⟨e,a',w',q,.of_steps (.one step_region) r⟩
theorem Aa{ops:Array Oper}(h:Q .normal a w):NW P ops Q [] a w:=fun b k cs _=>⟨.normal,a,w,h,.one step_region_end⟩
theorem qQ{ops:Array Oper}{i:Nat}{l:List Nat}{o:Oper}{v:Value}{w':World}(ho:ops[i]? = some o)(hw:Region.wanted o (yielded ops a.tmps)=true)(hr:(execOp a.eval o).run P w=.ok (.value v) w')(h:NW P ops Q l (a.put o.dst v) w'):NW P ops Q (i::l) a w:=by
 intro b k cs hb
 obtain⟨e,a',w'',hq,harr⟩:=h b k cs hb
 refine⟨e,a',w'',hq,.of_steps (.one (step_lone_go ?_)) harr⟩
 have hfin:(b.at a (.inRegion ops (i::l)::k)).finish v=b.at (a.put o.dst v) (.inRegion ops l::k):=by
  rw[Frame.finish_at,ho];rfl
 rw[stepG_op (P:=P) (b:=b) (k:=k) (cs:=cs) (w:=w) (rest:=l) ho hw,← hfin]
 simp[stepG.apply,hr]
theorem vU{ops:Array Oper}{i:Nat}{l:List Nat}{o:Oper}{v:Value}{w':World}(ho:ops[i]? = some o)
  (hs:∀ (b:Frame) (k:List Item) (cs:List Frame),b.kind=.normal→step P (solo (G (b.at a (.inRegion ops (i::l)::k)) cs) w)=.next (solo (G ((b.at a (.inRegion ops (i::l)::k)).finish v) cs) w'))
  (h:NW P ops Q l (a.put o.dst v) w'):NW P ops Q (i::l) a w:=by
 intro b k cs hb
 obtain⟨e,a',w'',hq,harr⟩:=h b k cs hb
 have hfin:(b.at a (.inRegion ops (i::l)::k)).finish v=b.at (a.put o.dst v) (.inRegion ops l::k):=by
  rw[Frame.finish_at,ho];rfl
 have:=hs b k cs hb
 rw[hfin] at this
 exact⟨e,a',w'',hq,.of_steps (.one this) harr⟩
theorem vV{b:Frame}(h:b.kind=.normal):b.kind≠.early:=by rw[h];intro e;cases e
theorem TG{ops:Array Oper}{i:Nat}{l:List Nat}{o:Oper}{c cap s r:Nat}{buf:Array Value}{tm:Bool}{v z:Value}(ho:ops[i]? = some o)(hw:Region.wanted o (yielded ops a.tmps)=true)
  (hr:(execOp a.eval o).run P w=.ok (.comm #[scase c v z] false .select) w) (hc:w.heap[c]? = some (.chan cap buf false s r tm)) (hroom:buf.size<cap)
  (h:NW P ops Q l (a.put o.dst (.tuple #[goInt 0,.bool false])) (w.setChan c cap (buf.push v) false (s+1) r tm)):NW P ops Q (i::l) a w :=
 vU ho (fun _ _ _ hb=>step_lone_select_send_room (stepG_comm ho hw (vV hb) hr) hc hroom) h
theorem TI{ops:Array Oper}{i:Nat}{l:List Nat}{o:Oper}{c cap s r:Nat}{buf:Array Value}{tm:Bool}{v z:Value}(ho:ops[i]? = some o)(hw:Region.wanted o (yielded ops a.tmps)=true)
  (hr:(execOp a.eval o).run P w=.ok (.comm #[scase c v z] false .select) w) (hc:w.heap[c]? = some (.chan cap buf false s r tm)) (hfull:cap≤buf.size)
  (h:NW P ops Q l (a.put o.dst (.tuple #[goInt (-1),.bool false])) w):NW P ops Q (i::l) a w :=
 vU ho (fun _ _ _ hb=>step_lone_select_send_full (stepG_comm ho hw (vV hb) hr) hc hfull) h
theorem TJ{ops:Array Oper}{i:Nat}{l:List Nat}{o:Oper}{c cap s r:Nat}{buf:Array Value}{tm:Bool}{z:Value}(ho:ops[i]? = some o)(hw:Region.wanted o (yielded ops a.tmps)=true)
  (hr:(execOp a.eval o).run P w=.ok (.comm #[rcase c z] false .select) w) (hc:w.heap[c]? = some (.chan cap buf false s r tm)) (hsome:0<buf.size)
  (h:NW P ops Q l (a.put o.dst (.tuple #[goInt 0,.bool true,buf.getD 0 undef])) (w.setChan c cap (buf.extract 1 buf.size) false s (r+1) tm)):NW P ops Q (i::l) a w :=
 vU ho (fun _ _ _ hb=>step_lone_select_recv_buf (stepG_comm ho hw (vV hb) hr) hc hsome) h
theorem TK{ops:Array Oper}{i:Nat}{l:List Nat}{o:Oper}{c cap s r:Nat}{tm:Bool}{z:Value}(ho:ops[i]? = some o)(hw:Region.wanted o (yielded ops a.tmps)=true)
  (hr:(execOp a.eval o).run P w=.ok (.comm #[rcase c z] false .select) w) (hc:w.heap[c]? = some (.chan cap #[] false s r tm))
  (h:NW P ops Q l (a.put o.dst (.tuple #[goInt (-1),.bool false,z])) w):NW P ops Q (i::l) a w :=
 vU ho (fun _ _ _ hb=>step_lone_select_default (stepG_comm ho hw (vV hb) hr) hc) h
theorem pG{f:FuncId}{fn:Func}{c:Code}{args:Array Value}{R:Ending→World→Prop}(hf:P.funcs[f]? = some fn)(hb:fn.body=some c)
  (h:Tf P c (bodyPost P fn R) { tmps:=args++Array.replicate (fn.ntmps-args.size) undef,defers:=[] } w):Calls P f args w R:=by
 intro cs
 let b:Frame:={ (default:Frame) with fn:=f,kind:=.normal }
 have henter:Frame.enter P f args .normal=b.at { tmps:=args++Array.replicate (fn.ntmps-args.size) undef,defers:=[] } [.code c]:=by
  simp[Frame.enter,Frame.at,hf,hb,b]
 obtain⟨e,a',w',hq,harr⟩:=h b [] cs rfl
 rw[← henter] at harr
 cases e with
 | normal=>
  obtain⟨hd,v,hr,hR⟩:=hq
  exact⟨.returned v,w',_,hR,Steps.trans harr (.one step_end),rfl,rfl,hd,rfl,fn,hf,hr⟩
 | ret=>
  obtain⟨hd,v,hr,hR⟩:=hq
  obtain⟨todo,hs⟩:=harr
  exact⟨.returned v,w',_,hR,hs,rfl,rfl,hd,rfl,fn,hf,hr⟩
 | panic chain=>
  obtain⟨hd,hR⟩:=hq
  obtain⟨todo,hs⟩:=harr
  exact⟨.panicked chain,w',_,hR,hs,rfl,rfl,hd,fn,hf⟩
 | exit id=>exact hq.elim
 | goto l=>exact hq.elim
 | outgrown=>exact⟨.outgrown,w',b,hq,harr.resolve_left (by simp[b]),rfl,trivial⟩
end
end Go.Proofs.YtolfcabodiphmaaGreatDoor
namespace Go.Proofs.YtolfcabodiphmaaGreatDoor
open Go.Proofs.Tryz
open Go.RowKit
structure aG(F:Nat→Prop)(w w':World):Prop where
 os:w'.os=w.os
 tape:w'.tape=w.tape
 output:w'.output=w.output
 size:w.heap.size≤w'.heap.size
 block:∀ k,k<w.heap.size→¬ F k→w'.heap[k]? = w.heap[k]?
theorem aG.refl(F:Nat→Prop)(w:World):aG F w w:=⟨rfl,rfl,rfl,Nat.le_refl _,fun _ _ _=>rfl⟩
theorem aG.trans{F G:Nat→Prop}{a b c:World}(h:aG F a b)(k:aG G b c)(hg:∀ i,i<a.heap.size→G i→F i):aG F a c :=
 ⟨k.os.trans h.os,k.tape.trans h.tape,k.output.trans h.output,Nat.le_trans h.size k.size,fun i hi hf=>(k.block i (Nat.lt_of_lt_of_le hi h.size) (fun e=>hf (hg i hi e))).trans (h.block i hi hf)⟩
theorem aG.same{F:Nat→Prop}{a b c:World}(h:aG F a b)(k:aG F b c):aG F a c:=h.trans k (fun _ _ e=>e)
theorem aG.mono{F G:Nat→Prop}{a b:World}(h:aG F a b)(hg:∀ i,i<a.heap.size→F i→G i):aG G a b :=
 ⟨h.os,h.tape,h.output,h.size,fun i hi hf=>h.block i hi (fun e=>hf (hg i hi e))⟩
theorem aG.of_below{F:Nat→Prop}{a b:World}(h:Below a.heap.size a b):aG F a b:=⟨h.os,h.tape,h.output,h.size,fun i hi _=>h.block i hi⟩
theorem aG.below{F:Nat→Prop}{a b:World}(h:aG F a b){B:Nat}(hB:B≤a.heap.size)(hF:∀ i,F i→B≤i):Below B a b :=
 ⟨h.os,h.tape,h.output,h.size,fun i hi=>h.block i (by omega) (fun e=>by have:=hF i e;omega)⟩
theorem aG.pI{F:Nat→Prop}{a b c:World}(h:aG F a b)(k:Below b.heap.size b c):aG F a c:=h.same (aG.of_below k)
theorem aG.alloc{F:Nat→Prop}{a b:World}(h:aG F a b)(o:Obj):aG F a (b.alloc o):=h.pI ((Below.refl _ _).alloc (Nat.le_refl _) o)
theorem aG.drew{F:Nat→Prop}{a b:World}(h:aG F a b):aG F a b.drew:=⟨h.os,h.tape,h.output,h.size,h.block⟩
theorem aG.setCell{F:Nat→Prop}{a b:World}(h:aG F a b)(p:Addr)(u:Value)(hp:p.block<a.heap.size→F p.block):aG F a (b.setCell p u) :=
 ⟨h.os,h.tape,h.output,by simpa using h.size,fun k hk hf=>by
  rw[Below.heap_setCell b p u k (fun e=>hf (e ▸ hp (e ▸ hk)))]
  exact h.block k hk hf⟩
theorem aG.setChan{F:Nat→Prop}{a b:World}(h:aG F a b)(c cap:Nat)(buf:Array Value)(cl:Bool)(s r:Nat)(tm:Bool)(hc:c<a.heap.size→F c):aG F a (b.setChan c cap buf cl s r tm) :=
 ⟨h.os,h.tape,h.output,by simpa[World.setChan] using h.size,fun k hk hf=>by
  rw[← h.block k hk hf]
  simp only[World.setChan]
  have hne:c≠k:=fun e=>by subst e;exact hf (hc hk)
  rw[Array.getElem?_setIfInBounds_ne hne]⟩
theorem aG.grew{F:Nat→Prop}{a b:World}{v v':Value}(h:Grew a b v v')(hv:∀ k,v.ownBlock=some k→F k):aG F a b :=
 ⟨h.g.os,h.g.tape,h.g.output,h.g.size,fun k hk hf=>h.g.block k hk (fun e=>hf (hv k e.symm))⟩
theorem aG.cell{F:Nat→Prop}{a b:World}(h:aG F a b){p:Addr}(hp:p.block<a.heap.size)(hf:¬ F p.block):b.cell? p=a.cell? p:=World.cell?_of_block (w:=a) (h.block p.block hp hf)
theorem aG.own{F:Nat→Prop}{a b:World}(h:aG F a b){lo:Nat}{e:TypeId}{size n:Nat}{v:Value}{xs:List Value}(ho:a.ownsRow lo e size v n xs)(hf:∀ g,v.ownBlock=some g→¬ F g):b.ownsRow lo e size v n xs :=
 aC ho (fun g hg=>h.block g (ho.lt g hg).2 (hf g hg))
structure aP where
 kind:Nat
 token:Nat
 session:Nat
 number:Nat
 position:Nat
 data:ByteArray
def pc(p:aP):Array Value:=#[.int .u8 p.kind,.int .u64 p.token,.int .u64 p.session,.int .u64 p.number,.int .u64 p.position,.string p.data]
def pv(p:aP):Value:=.agg (pc p)
def vW(p q:aP):Bool:=((p.kind:Int)==q.kind)&&(((p.token:Int)==q.token)&&(((p.session:Int)==q.session)&&(((p.number:Int)==q.number)&&(((p.position:Int)==q.position)&&(p.data.toList==q.data.toList)))))
theorem vX{p q:aP}:vW p q=true↔p=q:=by
 obtain⟨a,b,c,d,e,f⟩:=p
 obtain⟨a',b',c',d',e',f'⟩:=q
 simp only[vW,Bool.and_eq_true,beq_iff_eq,aP.mk.injEq]
 constructor
 ·rintro⟨h1,h2,h3,h4,h5,h6⟩
  refine⟨by omega,by omega,by omega,by omega,by omega,?_⟩
  rw[ByteArray.toList_eq,ByteArray.toList_eq] at h6
  exact ByteArray.ext (Array.toList_inj.1 h6)
 ·rintro⟨rfl,rfl,rfl,rfl,rfl,rfl⟩
  simp
theorem Ew:Tryz.prog.fieldsOf 124 = #[{ name:= "Kind",type:=122,offset:=0,embedded:=false,tag:= "",pkgPath:= "",byteOffset:=0 },{ name:= "Token",type:=55,offset:=1,embedded:=false,tag:= "",pkgPath:= "",byteOffset:=8 },{ name:= "Session",type:=55,offset:=2,embedded:=false,tag:= "",pkgPath:= "",byteOffset:=16 },{ name:= "Number",type:=55,offset:=3,embedded:=false,tag:= "",pkgPath:= "",byteOffset:=24 },{ name:= "Position",type:=55,offset:=4,embedded:=false,tag:= "",pkgPath:= "",byteOffset:=32 },{ name:= "Data",type:=9,offset:=5,embedded:=false,tag:= "",pkgPath:= "",byteOffset:=40 }]:=by
 simp[Program.fieldsOf,underlying124]
theorem PK(w:World)(p q:aP):(Op.equal 124 (pv p) (pv q)).run Tryz.prog w=.ok (vW p q) w:=by
 unfold pv pc vW
 rw[Op.equal,Op.maxDepth,run_equalIn_struct w 9999 124 _ _ (by rw[Ew,underlying124]) Tryz.stoodInHeld124,Ew]
 simp[Op.eqFields,go_sem]
 by_cases h1:(p.kind:Int)=q.kind
 ·by_cases h2:(p.token:Int)=q.token
  ·by_cases h3:(p.session:Int)=q.session
   ·by_cases h4:(p.number:Int)=q.number
    ·by_cases h5:(p.position:Int)=q.position
     ·by_cases h6:p.data.toList=q.data.toList
      ·simp[h1,h2,h3,h4,h5,h6]
      ·simp[h1,h2,h3,h4,h5,h6]
     ·simp[h1,h2,h3,h4,h5]
    ·simp[h1,h2,h3,h4]
   ·simp[h1,h2,h3]
  ·simp[h1,h2]
 ·simp[h1]
theorem Lj(w:World)(em:Bool)(p:aP)(N:Nat):(Instr.checkKey em (N+1+1) 124 (pv p)).run Tryz.prog w=.ok () w:=by
 have h1:∀ z:Int,(Instr.checkKey em (N+1) 122 (.int .u8 z)).run Tryz.prog w=.ok () w:=fun z=>MapKept.run_checkKey underlying122 (by simp[MapKept.IsKey]) em N
 have h2:∀ z:Int,(Instr.checkKey em (N+1) 55 (.int .u64 z)).run Tryz.prog w=.ok () w:=fun z=>MapKept.run_checkKey underlying55 (by simp[MapKept.IsKey]) em N
 have h3:∀ z:ByteArray,(Instr.checkKey em (N+1) 9 (.string z)).run Tryz.prog w=.ok () w:=fun z=>MapKept.run_checkKey underlying9 (by simp[MapKept.IsKey]) em N
 generalize hM:N+1=M at *
 rw[Instr.checkKey]
 unfold pv pc
 simp[run_underlying underlying124,go_sem,h1,h2,h3]
theorem sU(w:World)(em:Bool)(p:aP):(Instr.checkKey em 10000 124 (pv p)).run Tryz.prog w=.ok () w:=Lj w em p 9998
theorem Az(w:World)(p:aP):∀ (es:List MapEntry) (L:List aP) (i:Nat),es.map (fun e=>e.key)=L.map pv→(Instr.findAsking 124 (pv p) es i).run Tryz.prog w=.ok ((L.findIdx? (vW p)).bind fun j=>(es[j]?).map fun e=>(i+j,e.val)) w
 | [],[],i,_=>by simp[Instr.findAsking]
 | [],_::_,i,h=>by simp at h
 | _::_,[],i,h=>by simp at h
 | e::es,q::L,i,h=>by
  simp only[List.map_cons,List.cons.injEq] at h
  rw[Instr.findAsking]
  simp only[Sem.run_bind,h.1,PK,Result.andThen_ok]
  cases hb:vW p q with
  | true=>simp[List.findIdx?_cons,hb]
  | false=>
   simp only[Bool.false_eq_true,if_false,Az w p es L (i+1) h.2,List.findIdx?_cons,hb]
   congr 1
   cases L.findIdx? (vW p) with
   | none=>rfl
   | some j=>
    simp only[Option.bind_some,Option.map_some,List.getElem?_cons_succ]
    congr 1
    funext x
    congr 1
    omega
theorem vY(w:World)(p:aP)(es:List MapEntry)(L:List aP)(h:es.map (fun e=>e.key)=L.map pv):(Instr.findKey 124 (pv p) es).run Tryz.prog w=.ok ((L.findIdx? (vW p)).bind fun j=>(es[j]?).map fun e=>(j,e.val)) w:=by
 unfold Instr.findKey
 simp only[Sem.run_bind,run_underlying underlying124,Result.andThen_ok]
 cases es with
 | nil=>
  cases L with
  | nil=>simp[Instr.findNow]
  | cons q L=>simp at h
 | cons e es=>
  have hn:∀ d:Array Field,Instr.findNow (.struct d) (pv p) (e::es) 0=none:=fun d=>by simp[Instr.findNow,Instr.sameNow,pv]
  rw[hn]
  simp only
  rw[Az w p (e::es) L 0 h]
  simp
def Waits(w:World)(m:Nat)(L:List aP):Prop:=∃ es clock,w.heap[m]? = some (.map es clock)∧es.toList.map (fun e=>e.key)=L.map pv∧∀ e∈es.toList,e.val=.agg #[]
theorem Ey{p:aP}{L:List aP}(h:¬ p∈L):L.findIdx? (vW p)=none:=by
 rw[List.findIdx?_eq_none_iff]
 intro x hx
 cases hb:vW p x with
 | false=>rfl
 | true=>exact absurd (vX.1 hb ▸ hx) h
theorem AA{p:aP}{L:List aP}(h:p∈L):∃ j,L.findIdx? (vW p)=some j∧j<L.length:=by
 cases e:L.findIdx? (vW p) with
 | none=>
  rw[List.findIdx?_eq_none_iff] at e
  have:=e p h
  rw[vX.2 rfl] at this
  cases this
 | some j=>
  refine⟨j,rfl,?_⟩
  rw[List.findIdx?_eq_some_iff_getElem] at e
  exact e.1
def pJ(p:aP)(L:List aP):Decidable (p∈L):=match h:L.findIdx? (vW p) with
 | some _=>.isTrue (by
  rw[List.findIdx?_eq_some_iff_getElem] at h
  obtain⟨hj,hb,_⟩:=h
  rw[vX.1 hb]
  exact List.getElem_mem hj)
 | none=>.isFalse (fun hp=>by
  obtain⟨j,e,_⟩:=AA hp
  rw[e] at h
  cases h)
theorem PL(w:World):(zeroValue 184).run Tryz.prog w=.ok (.agg #[]) w:=by
 simp[go_sem]
theorem kJ{w:World}{m:Nat}{L:List aP}(h:Waits w m L)(p:aP):(Instr.lookup 89 (.map (some m)) (pv p) true).run Tryz.prog w=.ok (.tuple #[.agg #[],.bool (@decide (p∈L) (pJ p L))]) w:=by
 obtain⟨es,clock,hb,hk,hv⟩:=h
 by_cases hp:p∈L
 ·obtain⟨j,hj,hjl⟩:=AA hp
  have hlen:j<es.toList.length:=by have:=congrArg List.length hk;simp only[List.length_map] at this;omega
  have hval:=hv _ (List.getElem_mem hlen)
  have he:es[j]? = some es.toList[j]:=by rw[← Array.getElem?_toList,List.getElem?_eq_getElem hlen]
  simp[Instr.lookup,run_underlying underlying89,MapKept.run_getObj_map hb,sU,vY w p es.toList L hk,hj,he,Result.andThen,hp]
  simpa using hval
 ·simp[Instr.lookup,run_underlying underlying89,MapKept.run_getObj_map hb,sU,vY w p es.toList L hk,Ey hp,PL,Result.andThen,hp]
def nM(w:World)(m:Nat)(p:aP):World:=match w.heap[m]? with
 | some (.map es clock)=>{ w with heap:=w.heap.setIfInBounds m (.map (es.push ⟨pv p,.agg #[],clock⟩) (clock+1)) }
 | _=>w
theorem Ll{w:World}{m:Nat}{L:List aP}(h:Waits w m L)(p:aP)(hp:¬ p∈L):(Instr.mapUpdate 89 (.map (some m)) (pv p) (.agg #[])).run Tryz.prog w=.ok () (nM w m p):=by
 obtain⟨es,clock,hb,hk,hv⟩:=h
 unfold nM
 rw[hb]
 simp[Instr.mapUpdate,run_underlying underlying89,MapKept.run_getObj_map hb,sU,vY w p es.toList L hk,Ey hp,MapKept.run_setObj_map _ hb,Result.andThen]
theorem DX{w:World}{m:Nat}{L:List aP}(h:Waits w m L)(p:aP):Waits (nM w m p) m (L++[p]):=by
 obtain⟨es,clock,hb,hk,hv⟩:=h
 have hlt:m<w.heap.size:=(Array.getElem?_eq_some_iff.1 hb).1
 unfold nM
 rw[hb]
 refine⟨es.push ⟨pv p,.agg #[],clock⟩,clock+1,by simp[hlt],by simp[hk],fun e he=>?_⟩
 simp only[Array.toList_push,List.mem_append,List.mem_singleton] at he
 rcases he with he | rfl
 ·exact hv e he
 ·rfl
theorem y7{F:Nat→Prop}(w:World)(m:Nat)(p:aP)(hm:F m):aG F w (nM w m p):=by
 unfold nM
 split
 ·refine⟨rfl,rfl,rfl,by simp,fun k hk hf=>?_⟩
  have hne:m≠k:=fun e=>by subst e;exact hf hm
  rw[Array.getElem?_setIfInBounds_ne hne]
 ·exact aG.refl _ _
def nN(w:World)(m:Nat):World:=match w.heap[m]? with
 | some (.map es clock)=>{ w with heap:=w.heap.setIfInBounds m (.map (es.eraseIdxIfInBounds 0) clock) }
 | _=>w
theorem Lm{w:World}{m:Nat}{p:aP}{L:List aP}(h:Waits w m (p::L))(ty:TypeId):(Builtin.delete_ #[89,124] ty #[.map (some m),pv p]).run Tryz.prog w=.ok (.tuple #[]) (nN w m):=by
 obtain⟨es,clock,hb,hk,hv⟩:=h
 have hlen:0<es.toList.length:=by have:=congrArg List.length hk;simp only[List.length_map,List.length_cons] at this;omega
 have he:es[0]? = some es.toList[0]:=by rw[← Array.getElem?_toList,List.getElem?_eq_getElem hlen]
 have h0:(p::L).findIdx? (vW p)=some 0:=by rw[List.findIdx?_cons,vX.2 rfl];rfl
 unfold nN
 rw[hb]
 simp[Builtin.delete_,run_underlying underlying89,MapKept.run_getObj_map hb,sU,vY w p es.toList (p::L) hk,h0,he,MapKept.run_setObj_map _ hb,Result.andThen]
theorem DY{w:World}{m:Nat}{p:aP}{L:List aP}(h:Waits w m (p::L)):Waits (nN w m) m L:=by
 obtain⟨es,clock,hb,hk,hv⟩:=h
 have hlt:m<w.heap.size:=(Array.getElem?_eq_some_iff.1 hb).1
 have ht:(es.eraseIdxIfInBounds 0).toList=es.toList.tail:=by
  obtain⟨l⟩:=es
  simp
 unfold nN
 rw[hb]
 refine⟨es.eraseIdxIfInBounds 0,clock,by simp[hlt],?_,fun e he=>?_⟩
 ·rw[ht,List.map_tail,hk];rfl
 ·rw[ht] at he
  exact hv e (List.mem_of_mem_tail he)
theorem IQ{F:Nat→Prop}(w:World)(m:Nat)(hm:F m):aG F w (nN w m):=by
 unfold nN
 split
 ·refine⟨rfl,rfl,rfl,by simp,fun k hk hf=>?_⟩
  have hne:m≠k:=fun e=>by subst e;exact hf hm
  rw[Array.getElem?_setIfInBounds_ne hne]
 ·exact aG.refl _ _
open Go.Conc
def bU(up:Bool)(L:List aP)(p:aP):List aP :=
 letI:=pJ p L
 if up=true∧¬ p∈L∧L.length<60 then L++[p] else L
def o8(w:World)(q:Nat)(L:List aP):Prop:=∃ s r,w.heap[q]? = some (.chan 60 (L.map pv).toArray false s r false)
theorem Ez(w:World)(b q m:Nat)(L:List aP)(p:aP)(c6:w.cell? ⟨b,6,none⟩=some (.bool true))(c7:w.cell? ⟨b,7,none⟩=some (.chan (some q)))(c8:w.cell? ⟨b,8,none⟩=some (.map (some m)))(hq:o8 w q L)(hm:Waits w m L)(hp:¬ p∈L)(hl:L.length<60)(hb:b<w.heap.size):
  Calls Tryz.prog 71 #[.pointer (some ⟨b,0,none⟩),.agg #[.int .u8 p.kind,.int .u64 p.token,.int .u64 p.session,.int .u64 p.number,.int .u64 p.position,.string p.data]] w (fun e w'=>e=.returned (.bool true)∧aG (fun k=>k=q∨k=m) w w'∧o8 w' q (L++[p])∧Waits w' m (L++[p])):=by
 refine pG func71 rfl ?_
 simp only[ntmps71,List.size_toArray,List.length_cons,List.length_nil,Nat.reduceAdd,Nat.reduceSub,Array.replicate_succ,
   Array.replicate_zero,List.push_toArray,List.append_toArray,List.nil_append,List.cons_append]
 refine gI (fun K hK=>?_)
 go_wp2_with fail
 generalize hw1:w.alloc (.cells #[.int .u8 p.kind,.int .u64 p.token,.int .u64 p.session,.int .u64 p.number,.int .u64 p.position,.string p.data] 124)=w1
 have hb1:Below w.heap.size w w1:=by rw[← hw1];exact(Below.refl _ _).alloc (Nat.le_refl _) _
 have hh1:w1.heap[w.heap.size]? = some (.cells #[.int .u8 p.kind,.int .u64 p.token,.int .u64 p.session,.int .u64 p.number,.int .u64 p.position,.string p.data] 124 (0,0)):=by rw[← hw1];exact heap_alloc_new w _
 have d6:w1.cell? ⟨b,6,none⟩=some (.bool true):=(hb1.cell (p:=⟨b,6,none⟩) hb).trans c6
 have d7:w1.cell? ⟨b,7,none⟩=some (.chan (some q)):=(hb1.cell (p:=⟨b,7,none⟩) hb).trans c7
 have d8:w1.cell? ⟨b,8,none⟩=some (.map (some m)):=(hb1.cell (p:=⟨b,8,none⟩) hb).trans c8
 have e0:w1.cell? ⟨w.heap.size,0,none⟩=some (.int .u8 p.kind):=by simp[World.cell?,hh1]
 have e1:w1.cell? ⟨w.heap.size,1,none⟩=some (.int .u64 p.token):=by simp[World.cell?,hh1]
 have e2:w1.cell? ⟨w.heap.size,2,none⟩=some (.int .u64 p.session):=by simp[World.cell?,hh1]
 have e3:w1.cell? ⟨w.heap.size,3,none⟩=some (.int .u64 p.number):=by simp[World.cell?,hh1]
 have e4:w1.cell? ⟨w.heap.size,4,none⟩=some (.int .u64 p.position):=by simp[World.cell?,hh1]
 have e5:w1.cell? ⟨w.heap.size,5,none⟩=some (.string p.data):=by simp[World.cell?,hh1]
 obtain⟨s,r,hqq⟩:=hq
 have hql:q<w.heap.size:=(Array.getElem?_eq_some_iff.1 hqq).1
 have hm1:Waits w1 m L:=by
  obtain⟨es,clock,h1,h2⟩:=hm
  exact⟨es,clock,(hb1.block m (Array.getElem?_eq_some_iff.1 h1).1).trans h1,h2⟩
 have hml:m<w.heap.size:=by
  obtain⟨es,clock,h1,h2⟩:=hm
  exact(Array.getElem?_eq_some_iff.1 h1).1
 have hq1:w1.heap[q]? = some (.chan 60 (L.map pv).toArray false s r false):=(hb1.block q hql).trans hqq
 have hlk:(Instr.lookup 89 (.map (some m)) (.agg #[.int .u8 p.kind,.int .u64 p.token,.int .u64 p.session,.int .u64 p.number,.int .u64 p.position,.string p.data]) true).run Tryz.prog w1.drew=.ok (.tuple #[.agg #[],.bool false]) w1.drew:=by
  have:=kJ (w:=w1.drew) hm1 p
  rwa [@decide_eq_false _ (pJ p L) hp] at this
 have hn1:=hb1.size
 have hwl:w.heap.size<w1.heap.size:=(Array.getElem?_eq_some_iff.1 hh1).1
 obtain⟨w2,hw2⟩:∃ w2,w1.alloc (.cells #[] 184)=w2:=⟨_,rfl⟩
 have hb2:Below w1.heap.size w1 w2:=by rw[← hw2];exact(Below.refl _ _).alloc (Nat.le_refl _) _
 have f8:(w1.alloc (.cells #[] 184)).cell? ⟨b,8,none⟩=some (.map (some m)):=by rw[hw2];exact(hb2.cell (p:=⟨b,8,none⟩) (Nat.lt_of_lt_of_le hb hn1)).trans d8
 have g0:(w1.alloc (.cells #[] 184)).cell? ⟨w.heap.size,0,none⟩=some (.int .u8 p.kind):=by rw[hw2];exact(hb2.cell (p:=⟨w.heap.size,0,none⟩) hwl).trans e0
 have g1:(w1.alloc (.cells #[] 184)).cell? ⟨w.heap.size,1,none⟩=some (.int .u64 p.token):=by rw[hw2];exact(hb2.cell (p:=⟨w.heap.size,1,none⟩) hwl).trans e1
 have g2:(w1.alloc (.cells #[] 184)).cell? ⟨w.heap.size,2,none⟩=some (.int .u64 p.session):=by rw[hw2];exact(hb2.cell (p:=⟨w.heap.size,2,none⟩) hwl).trans e2
 have g3:(w1.alloc (.cells #[] 184)).cell? ⟨w.heap.size,3,none⟩=some (.int .u64 p.number):=by rw[hw2];exact(hb2.cell (p:=⟨w.heap.size,3,none⟩) hwl).trans e3
 have g4:(w1.alloc (.cells #[] 184)).cell? ⟨w.heap.size,4,none⟩=some (.int .u64 p.position):=by rw[hw2];exact(hb2.cell (p:=⟨w.heap.size,4,none⟩) hwl).trans e4
 have g5:(w1.alloc (.cells #[] 184)).cell? ⟨w.heap.size,5,none⟩=some (.string p.data):=by rw[hw2];exact(hb2.cell (p:=⟨w.heap.size,5,none⟩) hwl).trans e5
 have hm2:Waits (w1.alloc (.cells #[] 184)) m L:=by
  obtain⟨es,clock,h1,h2⟩:=hm1
  exact⟨es,clock,by rw[hw2];exact(hb2.block m (Array.getElem?_eq_some_iff.1 h1).1).trans h1,h2⟩
 have hlk2:(Instr.lookup 89 (.map (some m)) (.agg #[.int .u8 p.kind,.int .u64 p.token,.int .u64 p.session,.int .u64 p.number,.int .u64 p.position,.string p.data]) true).run Tryz.prog (w1.alloc (.cells #[] 184)).drew=.ok (.tuple #[.agg #[],.bool false]) (w1.alloc (.cells #[] 184)).drew:=by
  have:=kJ (w:=(w1.alloc (.cells #[] 184)).drew) hm2 p
  rwa [@decide_eq_false _ (pJ p L) hp] at this
 clear hw2 hb2 hm2
 have HM:=hid hm
 have HM1:=hid hm1
 have HP:=hid hp
 have XA:=hid hq1
 have HH1:=hid hh1
 clear hm hm1 hp hq1 hqq hh1 hw1 c6 c7 c8
 refine gI (fun K hK=>?_)
 go_wp2_with fail
 refine gI (fun K hK=>?_)
 go_wp2_with fail
 go_region
 all_goals
  go_wp2_with fail
  obtain⟨w3,hw3⟩:∃ w3,(w1.alloc (.cells #[] 184)).drew=w3:=⟨_,rfl⟩
  rw[hw3]
  have hb3:Below w1.heap.size w1 w3:=by rw[← hw3];exact((Below.refl _ _).alloc (Nat.le_refl _) _).drew
  have hz3:=hb3.size
  have k7:w3.cell? ⟨b,7,none⟩=some (.chan (some q)):=(hb3.cell (p:=⟨b,7,none⟩) (Nat.lt_of_lt_of_le hb hn1)).trans d7
  have k8:w3.cell? ⟨b,8,none⟩=some (.map (some m)):=(hb3.cell (p:=⟨b,8,none⟩) (Nat.lt_of_lt_of_le hb hn1)).trans d8
  have l0:w3.cell? ⟨w.heap.size,0,none⟩=some (.int .u8 p.kind):=(hb3.cell (p:=⟨w.heap.size,0,none⟩) hwl).trans e0
  have l1:w3.cell? ⟨w.heap.size,1,none⟩=some (.int .u64 p.token):=(hb3.cell (p:=⟨w.heap.size,1,none⟩) hwl).trans e1
  have l2:w3.cell? ⟨w.heap.size,2,none⟩=some (.int .u64 p.session):=(hb3.cell (p:=⟨w.heap.size,2,none⟩) hwl).trans e2
  have l3:w3.cell? ⟨w.heap.size,3,none⟩=some (.int .u64 p.number):=(hb3.cell (p:=⟨w.heap.size,3,none⟩) hwl).trans e3
  have l4:w3.cell? ⟨w.heap.size,4,none⟩=some (.int .u64 p.position):=(hb3.cell (p:=⟨w.heap.size,4,none⟩) hwl).trans e4
  have l5:w3.cell? ⟨w.heap.size,5,none⟩=some (.string p.data):=(hb3.cell (p:=⟨w.heap.size,5,none⟩) hwl).trans e5
  have NY:=hid ((hb3.block q (by omega)).trans XA.out)
  have NZ:Hid (Waits w3 m L):=by
   obtain⟨es,clock,h1,h2⟩:=HM1.out
   exact⟨es,clock,(hb3.block m (by omega)).trans h1,h2⟩
  clear hw3 d6 d7 d8 e0 e1 e2 e3 e4 e5 f8 g0 g1 g2 g3 g4 g5 hlk hlk2
  refine gI (fun K hK=>?_)
  go_wp2_with fail
  refine zZ ?_
  refine uT ?_
  refine TG (c:=q) (cap:=60) (buf:=(L.map pv).toArray) (s:=s) (r:=r) (tm:=false) (v:=pv p) rfl rfl (by simp[go_sem,execOp,scase,Act.eval,pv,pc];rfl) NY.out (by simpa using hl) ?_
  obtain⟨w4,hw4⟩:∃ w4,w3.setChan q 60 ((L.map pv).toArray.push (pv p)) false (s+1) r false=w4:=⟨_,rfl⟩
  rw[hw4]
  refine qQ (v:=.int .i64 0) (w':=w4) rfl rfl (by simp[go_sem,goInt]) ?_
  refine qQ (v:=.bool true) (w':=w4) rfl rfl (by simp[go_sem]) ?_
  refine Aa ?_
  refine oK ?_
  have hc4:aG (fun k=>k=q) w3 w4:=by rw[← hw4];exact(aG.refl _ _).setChan _ _ _ _ _ _ _ (fun _=>rfl)
  have hz4:=hc4.size
  have hqb:b≠q:=fun e=>by
   have h1:=NY.out
   rw[← e] at h1
   have h2:=k8
   simp only[World.cell?,h1] at h2
   cases h2
  have hqm:m≠q:=fun e=>by
   obtain⟨es,clock,h1,_⟩:=NZ.out
   rw[e,NY.out] at h1
   cases h1
  have m8:w4.cell? ⟨b,8,none⟩=some (.map (some m)):=(hc4.cell (p:=⟨b,8,none⟩) (by show b<w3.heap.size;omega) hqb).trans k8
  have hne:¬ w.heap.size=q:=by omega
  have hl3:w.heap.size<w3.heap.size:=by omega
  have n0:w4.cell? ⟨w.heap.size,0,none⟩=some (.int .u8 p.kind):=(hc4.cell (p:=⟨w.heap.size,0,none⟩) hl3 hne).trans l0
  have n1:w4.cell? ⟨w.heap.size,1,none⟩=some (.int .u64 p.token):=(hc4.cell (p:=⟨w.heap.size,1,none⟩) hl3 hne).trans l1
  have n2:w4.cell? ⟨w.heap.size,2,none⟩=some (.int .u64 p.session):=(hc4.cell (p:=⟨w.heap.size,2,none⟩) hl3 hne).trans l2
  have n3:w4.cell? ⟨w.heap.size,3,none⟩=some (.int .u64 p.number):=(hc4.cell (p:=⟨w.heap.size,3,none⟩) hl3 hne).trans l3
  have n4:w4.cell? ⟨w.heap.size,4,none⟩=some (.int .u64 p.position):=(hc4.cell (p:=⟨w.heap.size,4,none⟩) hl3 hne).trans l4
  have n5:w4.cell? ⟨w.heap.size,5,none⟩=some (.string p.data):=(hc4.cell (p:=⟨w.heap.size,5,none⟩) hl3 hne).trans l5
  have HM4:Hid (Waits w4 m L):=by
   obtain⟨es,clock,h1,h2⟩:=NZ.out
   exact⟨es,clock,(hc4.block m (by omega) hqm).trans h1,h2⟩
  have HQ4:Hid (o8 w4 q (L++[p])):=⟨s+1,r,by
   rw[← hw4,heap_setChan _ _ _ _ _ _ _ _ (by omega)]
   simp⟩
  have hup:(Instr.mapUpdate 89 (.map (some m)) (.agg #[.int .u8 p.kind,.int .u64 p.token,.int .u64 p.session,.int .u64 p.number,.int .u64 p.position,.string p.data]) (.agg #[])).run Tryz.prog w4.drew=.ok () (nM w4.drew m p):=Ll (w:=w4.drew) HM4.out p HP.out
  clear hw4 k7 k8 l0 l1 l2 l3 l4 l5
  go_wp2_with fail
  go_region
  all_goals
   go_wp2_with fail
   go_ret
   have c1:aG (fun k=>k=q∨k=m) w w3:=aG.of_below (hb1.trans (hb3.mono hn1))
   have c2:aG (fun k=>k=q∨k=m) w3 w4:=hc4.mono (fun i _ h=>Or.inl h)
   have c3:aG (fun k=>k=q∨k=m) w4 (nM w4.drew m p):=((aG.refl _ w4).drew).same (y7 _ m p (Or.inr rfl))
   refine⟨rfl,c1.same (c2.same c3),?_,DX (w:=w4.drew) HM4.out p⟩
   obtain⟨s',r',h⟩:=HQ4.out
   exact⟨s',r',((y7 (F:=fun k=>k=m) w4.drew m p rfl).block q (by show q<w4.heap.size;omega) (fun e=>hqm e.symm)).trans h⟩
theorem EC(w:World)(b:Nat)(p:aP)(c6:w.cell? ⟨b,6,none⟩=some (.bool false))(hb:b<w.heap.size):
  Calls Tryz.prog 71 #[.pointer (some ⟨b,0,none⟩),.agg #[.int .u8 p.kind,.int .u64 p.token,.int .u64 p.session,.int .u64 p.number,.int .u64 p.position,.string p.data]] w (fun e w'=>e=.returned (.bool false)∧Below w.heap.size w w'):=by
 have hb1:Below w.heap.size w (w.alloc (.cells #[.int .u8 p.kind,.int .u64 p.token,.int .u64 p.session,.int .u64 p.number,.int .u64 p.position,.string p.data] 124)):=(Below.refl _ _).alloc (Nat.le_refl _) _
 have d6:=(hb1.cell (p:=⟨b,6,none⟩) hb).trans c6
 clear c6
 go_enter func71,ntmps71
 go_wp2_with fail
 go_ret
 exact⟨rfl,hb1⟩
theorem AB(w:World)(b q m:Nat)(L:List aP)(p:aP)(c6:w.cell? ⟨b,6,none⟩=some (.bool true))(c7:w.cell? ⟨b,7,none⟩=some (.chan (some q)))(c8:w.cell? ⟨b,8,none⟩=some (.map (some m)))(hq:o8 w q L)(hm:Waits w m L)(hp:p∈L)(hb:b<w.heap.size):
  Calls Tryz.prog 71 #[.pointer (some ⟨b,0,none⟩),.agg #[.int .u8 p.kind,.int .u64 p.token,.int .u64 p.session,.int .u64 p.number,.int .u64 p.position,.string p.data]] w (fun e w'=>e=.returned (.bool true)∧Below w.heap.size w w'):=by
 obtain⟨w1,hw1⟩:∃ w1,w.alloc (.cells #[.int .u8 p.kind,.int .u64 p.token,.int .u64 p.session,.int .u64 p.number,.int .u64 p.position,.string p.data] 124)=w1:=⟨_,rfl⟩
 have hb1:Below w.heap.size w w1:=by rw[← hw1];exact(Below.refl _ _).alloc (Nat.le_refl _) _
 have hh1:w1.heap[w.heap.size]? = some (.cells #[.int .u8 p.kind,.int .u64 p.token,.int .u64 p.session,.int .u64 p.number,.int .u64 p.position,.string p.data] 124 (0,0)):=by rw[← hw1];exact heap_alloc_new w _
 have d6:w1.cell? ⟨b,6,none⟩=some (.bool true):=(hb1.cell (p:=⟨b,6,none⟩) hb).trans c6
 have d7:w1.cell? ⟨b,7,none⟩=some (.chan (some q)):=(hb1.cell (p:=⟨b,7,none⟩) hb).trans c7
 have d8:w1.cell? ⟨b,8,none⟩=some (.map (some m)):=(hb1.cell (p:=⟨b,8,none⟩) hb).trans c8
 have e0:w1.cell? ⟨w.heap.size,0,none⟩=some (.int .u8 p.kind):=by simp[World.cell?,hh1]
 have e1:w1.cell? ⟨w.heap.size,1,none⟩=some (.int .u64 p.token):=by simp[World.cell?,hh1]
 have e2:w1.cell? ⟨w.heap.size,2,none⟩=some (.int .u64 p.session):=by simp[World.cell?,hh1]
 have e3:w1.cell? ⟨w.heap.size,3,none⟩=some (.int .u64 p.number):=by simp[World.cell?,hh1]
 have e4:w1.cell? ⟨w.heap.size,4,none⟩=some (.int .u64 p.position):=by simp[World.cell?,hh1]
 have e5:w1.cell? ⟨w.heap.size,5,none⟩=some (.string p.data):=by simp[World.cell?,hh1]
 obtain⟨s,r,hqq⟩:=hq
 have hql:q<w.heap.size:=(Array.getElem?_eq_some_iff.1 hqq).1
 have hm1:Waits w1 m L:=by
  obtain⟨es,clock,h1,h2⟩:=hm
  exact⟨es,clock,(hb1.block m (Array.getElem?_eq_some_iff.1 h1).1).trans h1,h2⟩
 have hml:m<w.heap.size:=by
  obtain⟨es,clock,h1,h2⟩:=hm
  exact(Array.getElem?_eq_some_iff.1 h1).1
 have hq1:w1.heap[q]? = some (.chan 60 (L.map pv).toArray false s r false):=(hb1.block q hql).trans hqq
 have hlk:(Instr.lookup 89 (.map (some m)) (.agg #[.int .u8 p.kind,.int .u64 p.token,.int .u64 p.session,.int .u64 p.number,.int .u64 p.position,.string p.data]) true).run Tryz.prog w1.drew=.ok (.tuple #[.agg #[],.bool true]) w1.drew:=by
  have:=kJ (w:=w1.drew) hm1 p
  rwa [@decide_eq_true _ (pJ p L) hp] at this
 have hn1:=hb1.size
 have hwl:w.heap.size<w1.heap.size:=(Array.getElem?_eq_some_iff.1 hh1).1
 obtain⟨w2,hw2⟩:∃ w2,w1.alloc (.cells #[] 184)=w2:=⟨_,rfl⟩
 have hb2:Below w1.heap.size w1 w2:=by rw[← hw2];exact(Below.refl _ _).alloc (Nat.le_refl _) _
 have f8:(w1.alloc (.cells #[] 184)).cell? ⟨b,8,none⟩=some (.map (some m)):=by rw[hw2];exact(hb2.cell (p:=⟨b,8,none⟩) (Nat.lt_of_lt_of_le hb hn1)).trans d8
 have g0:(w1.alloc (.cells #[] 184)).cell? ⟨w.heap.size,0,none⟩=some (.int .u8 p.kind):=by rw[hw2];exact(hb2.cell (p:=⟨w.heap.size,0,none⟩) hwl).trans e0
 have g1:(w1.alloc (.cells #[] 184)).cell? ⟨w.heap.size,1,none⟩=some (.int .u64 p.token):=by rw[hw2];exact(hb2.cell (p:=⟨w.heap.size,1,none⟩) hwl).trans e1
 have g2:(w1.alloc (.cells #[] 184)).cell? ⟨w.heap.size,2,none⟩=some (.int .u64 p.session):=by rw[hw2];exact(hb2.cell (p:=⟨w.heap.size,2,none⟩) hwl).trans e2
 have g3:(w1.alloc (.cells #[] 184)).cell? ⟨w.heap.size,3,none⟩=some (.int .u64 p.number):=by rw[hw2];exact(hb2.cell (p:=⟨w.heap.size,3,none⟩) hwl).trans e3
 have g4:(w1.alloc (.cells #[] 184)).cell? ⟨w.heap.size,4,none⟩=some (.int .u64 p.position):=by rw[hw2];exact(hb2.cell (p:=⟨w.heap.size,4,none⟩) hwl).trans e4
 have g5:(w1.alloc (.cells #[] 184)).cell? ⟨w.heap.size,5,none⟩=some (.string p.data):=by rw[hw2];exact(hb2.cell (p:=⟨w.heap.size,5,none⟩) hwl).trans e5
 have hm2:Waits (w1.alloc (.cells #[] 184)) m L:=by
  obtain⟨es,clock,h1,h2⟩:=hm1
  exact⟨es,clock,by rw[hw2];exact(hb2.block m (Array.getElem?_eq_some_iff.1 h1).1).trans h1,h2⟩
 have hlk2:(Instr.lookup 89 (.map (some m)) (.agg #[.int .u8 p.kind,.int .u64 p.token,.int .u64 p.session,.int .u64 p.number,.int .u64 p.position,.string p.data]) true).run Tryz.prog (w1.alloc (.cells #[] 184)).drew=.ok (.tuple #[.agg #[],.bool true]) (w1.alloc (.cells #[] 184)).drew:=by
  have:=kJ (w:=(w1.alloc (.cells #[] 184)).drew) hm2 p
  rwa [@decide_eq_true _ (pJ p L) hp] at this
 have hb3:Below w1.heap.size w1 (w1.alloc (.cells #[] 184)).drew:=by rw[hw2];exact hb2.drew
 have hbb:=hb1.trans (hb3.mono hn1)
 clear hw2 hb2 hm2 hm hm1 hp hq1 hqq hh1 c6 c7 c8 hb3
 go_enter func71,ntmps71
 go_wp2_with fail
 go_region
 all_goals
  go_wp2_with fail
  go_ret
  exact⟨rfl,hbb⟩
theorem TM(w:World)(b q m:Nat)(up:Bool)(L:List aP)(p:aP)(c6:w.cell? ⟨b,6,none⟩=some (.bool up))(c7:w.cell? ⟨b,7,none⟩=some (.chan (some q)))(c8:w.cell? ⟨b,8,none⟩=some (.map (some m)))(hq:o8 w q L)(hm:Waits w m L)(hl:L.length<60)(hb:b<w.heap.size):
  Calls Tryz.prog 71 #[.pointer (some ⟨b,0,none⟩),.agg #[.int .u8 p.kind,.int .u64 p.token,.int .u64 p.session,.int .u64 p.number,.int .u64 p.position,.string p.data]] w (fun e w'=>(∃ r:Bool,e=.returned (.bool r))∧aG (fun k=>k=q∨k=m) w w'∧o8 w' q (bU up L p)∧Waits w' m (bU up L p)):=by
 have same:∀ w',Below w.heap.size w w'→o8 w' q L∧Waits w' m L:=fun w' h=>by
  obtain⟨s,r,h1⟩:=hq
  obtain⟨es,clock,h2,h3⟩:=hm
  exact⟨⟨s,r,(h.block q (Array.getElem?_eq_some_iff.1 h1).1).trans h1⟩,⟨es,clock,(h.block m (Array.getElem?_eq_some_iff.1 h2).1).trans h2,h3⟩⟩
 cases up with
 | false=>
  refine(EC w b p c6 hb).mono ?_
  rintro e w' ⟨rfl,h⟩
  have hs:=same w' h
  exact⟨⟨_,rfl⟩,aG.of_below h,by rw[bU,if_neg (by simp)];exact hs.1,by rw[bU,if_neg (by simp)];exact hs.2⟩
 | true=>
  by_cases hp:p∈L
  ·refine(AB w b q m L p c6 c7 c8 hq hm hp hb).mono ?_
   rintro e w' ⟨rfl,h⟩
   have hs:=same w' h
   exact⟨⟨_,rfl⟩,aG.of_below h,by rw[bU,if_neg (by simp[hp])];exact hs.1,by rw[bU,if_neg (by simp[hp])];exact hs.2⟩
  ·refine(Ez w b q m L p c6 c7 c8 hq hm hp hl hb).mono ?_
   rintro e w' ⟨rfl,h1,h2,h3⟩
   exact⟨⟨_,rfl⟩,h1,by rw[bU,if_pos ⟨rfl,hp,hl⟩];exact h2,by rw[bU,if_pos ⟨rfl,hp,hl⟩];exact h3⟩
def fK(kind token session number position:Nat):aP:=⟨kind,token,session,number,position,⟨#[]⟩⟩
def y8(up:Bool)(L:List aP)(p:aP):Bool:=up&&(@decide (p∈L) (pJ p L)||decide (L.length<60))
structure F8 where
 number:Nat
 request:Nat
 name:ByteArray
 base:ByteArray
 start:Nat
 got:Nat
 values:List ByteArray
 fin:Nat
structure Ti where
 number:Nat
 request:Nat
 answer:ByteArray
 kind:Nat
 value:ByteArray
structure CP where
 last:Int
 had:Bool
 up:Bool
 L:List aP
 token:Nat
 attempt:Nat
 session:Nat
 silence:Nat
 asked:List aP
 next:Nat
 streams:List F8
 made:Nat
 calls:List Ti
 called:Nat
namespace CP
def post(c:CP)(p:aP):CP:={ c with L:=bU c.up c.L p }
def posts(c:CP)(ps:List aP):CP:={ c with L:=ps.foldl (bU c.up) c.L }
def sealed(c:CP)(r:aP):aP:={ r with token:=c.token,session:=c.session }
def speak(c:CP):CP:=if c.session=0 then c.post (fK 0 c.token 0 c.attempt 0) else(c.post (fK 1 c.token c.session 0 0)).posts (c.asked.map c.sealed)
def raise(c:CP)(conn:Int):CP:={ c with last:=conn,had:=true,up:=true,L:=[] }
def isUp(c:CP)(conn:Int):Bool:=c.up&&decide (conn=c.last)
def down(c:CP):CP:={ c with up:=false,L:=[] }
end CP
def F8.finish(k:Nat)(s:F8):F8:=if s.fin=0 then { s with fin:=k } else s
def Ti.finish(k:Nat)(v:ByteArray)(c:Ti):Ti:=if c.kind=0 then { c with kind:=k,value:=v } else c
namespace CP
def leave(c:CP):CP:={ c with streams:=c.streams.map (F8.finish 3),calls:=c.calls.map (Ti.finish 3 ⟨#[]⟩),attempt:=c.attempt+1,session:=0,next:=0,asked:=[],L:=[] }
def tick(D:Nat)(c:CP):CP:=let c1:={ c with silence:=c.silence+1 };(if c1.session≠0∧D≤c1.silence then c1.leave else c1).speak
def oh(c:CP)(p:aP):Bool:=decide (c.session≠0)&&(decide (p.token=c.token)&&decide (p.session=c.session))
def forget(c:CP)(below:Nat):CP:={ c with asked:=c.asked.filter (fun r=>!decide (r.number<below)) }
def XB(c:CP)(p:aP):Option Nat:=c.streams.findIdx? (fun s=>decide (s.request=p.number)&&decide (s.fin=0))
def reader(c:CP)(p:aP):Option Nat:=if c.oh p then c.XB p else none
def vZ(c:CP)(p:aP)(f:F8→F8):CP:=match c.reader p with
 | none=>c
 | some i=>{ c with streams:=c.streams.modify i f }
def tell(c:CP)(p:aP):CP :=
 if c.oh p then
  let c1:=c.forget (p.number+1)
  match c1.reader p with
  | none=>c1.post (fK 5 c.token c.session p.number 0)
  | some i=>match c1.streams[i]? with
   | some s=>c1.post (fK 4 c.token c.session p.number s.got)
   | none=>c1
 else c
def welcome(c:CP)(p:aP):CP:=if c.session=0∧p.token=c.token∧p.number=c.attempt then { c with session:=p.session }.speak else c
def heard(c:CP)(p:aP):CP:=if c.oh p then c.forget p.number else c
def unknown(c:CP)(p:aP):CP:=if c.oh p then c.leave.speak else c
end CP
abbrev Dec:=ByteArray→List UInt8→Option ByteArray
def F8.add(dec:Dec)(room:Nat)(p:aP)(s:F8):F8 :=
 if p.position=s.got+1∧s.values.length<room then match dec s.base p.data.toList with
  | some t=>{ s with values:=s.values++[t],got:=s.got+1 }
  | none=>s
 else s
def F8.cut(s:F8):Nat:=if s.got=s.start then 4 else 3
namespace CP
def item(dec:Dec)(R:Nat)(c:CP)(p:aP):CP:=(c.vZ p (F8.add dec R p)).tell p
def finished(c:CP)(p:aP):CP:=(c.vZ p (fun s=>if s.got=p.position then s.finish 2 else s)).tell p
def lost(c:CP)(p:aP):CP:=(c.vZ p (fun s=>if s.got<p.position then s.finish s.cut else s)).tell p
def missed(c:CP)(p:aP):CP:=(c.vZ p (fun s=>s.finish 4)).tell p
def qR(c:CP)(r:Nat):Option Nat:=c.calls.findIdx? (fun o=>decide (o.request=r)&&decide (o.kind=0))
def answered(dec:Dec)(c:CP)(p:aP):CP :=
 if c.oh p then
  let c1:=c.forget (p.number+1)
  let c2:=match c1.qR p.number with
   | none=>c1
   | some i=>{ c1 with calls:=c1.calls.modify i (fun o=>match dec o.answer p.data.toList with | some t=>o.finish 1 t | none=>o) }
  c2.post (fK 5 c.token c.session p.number 0)
 else c
def take(dec:Dec)(R:Nat)(c:CP)(p:aP):CP :=
 if 6≤p.kind∧p.kind≤13 then
  let c:={ c with silence:=0 }
  if p.kind=6 then c.welcome p else if p.kind=7 then c.heard p else if p.kind=8 then c.item dec R p else if p.kind=9 then c.finished p else if p.kind=10 then c.lost p else if p.kind=11 then c.missed p else if p.kind=12 then c.answered dec p else c.unknown p
 else c
def isFull(W:Nat)(c:CP):Bool:=decide (8≤c.streams.length)||decide (W≤c.asked.length)
def request(c:CP)(p:aP):CP :=
 let p:={ p with number:=c.next }
 let c1:={ c with next:=c.next+1,asked:=c.asked++[p] }
 if c.session=0 then c1 else c1.post (c.sealed p)
def subscribe(c:CP)(name base:ByteArray)(position:Nat):CP :=
 let c1:=c.request { fK 2 0 0 0 position with data:=name }
 {c1 with streams:=c1.streams++[⟨c.made,c.next,name,base,position,position,[],0⟩],made:=c.made+1 }
def call(c:CP)(name answer:ByteArray)(data:ByteArray):CP :=
 let c1:=c.request { fK 3 0 0 0 0 with data:=name++⟨#[32]⟩++data }
 {c1 with calls:=c1.calls++[⟨c.called,c.next,answer,0,⟨#[]⟩⟩],called:=c.called+1 }
end CP
structure Tj where
 name:ByteArray
 base:ByteArray
 count:Nat
 kept:List (List UInt8)
 fin:Bool
namespace Tj
def first(t:Tj):Nat:=t.count-t.kept.length+1
def add(R:Nat)(d:List UInt8)(t:Tj):Tj:={ t with count:=t.count+1,kept:=if t.kept.length+1≤R then t.kept++[d] else(t.kept++[d]).drop 1 }
end Tj
structure F9 where
 number:Nat
 topic:Nat
 got:Nat
 sent:Nat
 missed:Bool
structure IU where
 token:Nat
 attempt:Nat
 number:Nat
 silence:Nat
 next:Nat
 feeds:List F9
 answers:List aP
structure zK where
 token:Nat
 session:Nat
 request:Nat
 answer:ByteArray
structure Lp where
 name:ByteArray
 value:ByteArray
 back:zK
structure SP where
 last:Int
 had:Bool
 up:Bool
 L:List aP
 aX:List Tj
 aT:Option IU
 cur:Bool
 begun:Nat
 waits:List Lp
 given:Nat
 owed:List (Nat × zK)
def IU.heard(s:IU):aP:=fK 7 s.token s.number s.next 0
def aae(up:Bool)(mk:Nat→aP):Nat→Nat→List aP→Nat × List aP
 | 0,sent,L=>(sent,L)
 | n+1,sent,L=>if y8 up L (mk (sent+1))=true then aae up mk n (sent+1) (bU up L (mk (sent+1))) else(sent,L)
def adE(token session:Nat)(t:Tj)(f:F9)(position:Nat):aP:=⟨8,token,session,f.number,position,⟨((t.kept[position-t.first]?).getD []).toArray⟩⟩
def aaf(up:Bool)(W token session:Nat)(t:Tj)(f:F9)(L:List aP):F9 × List aP :=
 if f.missed=true then(f,bU up L (fK 11 token session f.number 0))
 else if f.got+1<t.first then(f,bU up L (fK 10 token session f.number (f.got+1)))
 else if t.fin=true∧f.got=t.count then(f,bU up L (fK 9 token session f.number t.count))
 else let r:=aae up (adE token session t f) (min t.count (f.got+W)-f.sent) f.sent L
  ({ f with sent:=r.1 },r.2)
namespace SP
def post(s:SP)(p:aP):SP:={ s with L:=bU s.up s.L p }
def quit(s:SP):SP:={ s with cur:=false,L:=[] }
def mO(up:Bool)(W:Nat)(o:IU)(Ts:List Tj)(sel:F9→Bool)(pre:F9→F9):List F9→List aP→List F9 × List aP
 | [],L=>([],L)
 | f::r,L=>match (if sel f then Ts[f.topic]? else none) with
  | some t=>
   let a:=aaf up W o.token o.number t (pre f) L
   let b:=mO up W o Ts sel pre r a.2
   (a.1::b.1,b.2)
  | none=>
   let b:=mO up W o Ts sel pre r L
   (f::b.1,b.2)
def speak(W:Nat)(s:SP):SP:=match s.cur,s.aT with
 | true,some o=>
  let L1:=o.answers.foldl (bU s.up) (bU s.up s.L o.heard)
  let r:=mO s.up W o s.aX (fun _=>true) (fun f=>{ f with sent:=f.got }) o.feeds L1
  {s with aT:=some { o with feeds:=r.1 },L:=r.2 }
 | _,_=>s.post (fK 7 0 0 0 0)
def tick(W D:Nat)(s:SP):SP :=
 (match s.aT with
 | none=>s
 | some o=>if o.silence+1<D then { s with aT:=some { o with silence:=o.silence+1 } } else if s.cur then { s with aT:=none }.quit else { s with aT:=none }).speak W
def raise(s:SP)(conn:Int):SP:={ s with last:=conn,had:=true,up:=true,L:=[],cur:=false }
def isUp(s:SP)(conn:Int):Bool:=s.up&&decide (conn=s.last)
def down(s:SP):SP:={ s with up:=false,L:=[] }
def hello(s:SP)(p:aP):SP :=
 let s1:=match s.aT with
  | none=>{ s with begun:=s.begun+1,aT:=some ⟨p.token,p.number,s.begun+1,0,0,[],[]⟩ }
  | some o=>if o.attempt<p.number then { s with begun:=s.begun+1,aT:=some ⟨p.token,p.number,s.begun+1,0,0,[],[]⟩,cur:=false } else s
 match s1.aT with
 | some o=>if o.attempt=p.number then { s1 with cur:=true }.post (fK 6 o.token o.number o.attempt 0) else s1
 | none=>s1
def aW(W:Nat)(s:SP)(p:aP):SP × Bool:=match s.aT with
 | some o=>if o.number=p.session then(if s.cur then s else { s with cur:=true }.speak W,true) else(s.post (fK 13 p.token p.session 0 0),false)
 | none=>(s.post (fK 13 p.token p.session 0 0),false)
def here(W:Nat)(s:SP)(p:aP):SP :=
 let r:=s.aW W p
 if r.2 then match r.1.aT with | some o=>r.1.post o.heard | none=>r.1 else r.1
def request(W:Nat)(s:SP)(p:aP):SP × Bool :=
 let r:=s.aW W p
 if r.2 then match r.1.aT with
  | some o=>
   if p.number=o.next then({ r.1 with aT:=some { o with next:=o.next+1 } }.post { o with next:=o.next+1 }.heard,true)
   else(r.1.post o.heard,false)
  | none=>(r.1,false)
 else(r.1,false)
def aaW(s:SP)(name:ByteArray):Option Nat:=s.aX.findIdx? (fun t=>t.name.toList==name.toList)
def TN(W:Nat)(s:SP)(i:Nat):SP:=match s.aT with
 | some o=>match o.feeds[i]? with
  | some f=>match s.aX[f.topic]? with
   | some t=>
    let a:=aaf s.up W o.token o.number t f s.L
    {s with aT:=some { o with feeds:=o.feeds.set i a.1 },L:=a.2 }
   | none=>s
  | none=>s
 | none=>s
def subscribe(W:Nat)(s:SP)(p:aP):SP :=
 let r:=s.request W p
 if r.2 then match r.1.aaW p.data,r.1.aT with
  | some k,some o=>match r.1.aX[k]? with
   | some t=>{ r.1 with aT:=some { o with feeds:=o.feeds++[F9.mk p.number k p.position p.position (decide (t.count<p.position))] } }.TN W o.feeds.length
   | none=>r.1
  | _,_=>r.1
 else r.1
def F9.advance(position:Nat)(f:F9):F9:=if position≤f.got then f else { f with got:=position,sent:=max f.sent position }
def got(W:Nat)(s:SP)(p:aP):SP :=
 let r:=s.aW W p
 if r.2 then match r.1.aT with
  | some o=>match o.feeds.findIdx? (fun f=>decide (f.number=p.number)) with
   | some i=>match o.feeds[i]? with
    | some f=>if p.position≤f.got then r.1 else { r.1 with aT:=some { o with feeds:=o.feeds.set i (F9.advance p.position f) } }.TN W i
    | none=>r.1
   | none=>r.1
  | none=>r.1
 else r.1
def done(W:Nat)(s:SP)(p:aP):SP :=
 let r:=s.aW W p
 if r.2 then match r.1.aT with
  | some o=>{ r.1 with aT:=some { o with feeds:=o.feeds.filter (fun f=>!decide (f.number=p.number)),answers:=o.answers.filter (fun a=>!decide (a.number=p.number)) } }
  | none=>r.1
 else r.1
abbrev Ask:=List UInt8→Option (ByteArray × ByteArray × ByteArray)
def call(ask:Ask)(W:Nat)(s:SP)(p:aP):SP :=
 let r:=s.request W p
 if r.2 then match ask p.data.toList,r.1.aT with
  | some (name,value,answer),some o=>{ r.1 with waits:=r.1.waits++[⟨name,value,⟨o.token,o.number,p.number,answer⟩⟩] }
  | _,_=>r.1
 else r.1
def take(ask:Ask)(W:Nat)(s:SP)(p:aP):SP :=
 if p.kind≤5 then
  let s:=match s.aT with | some o=>{ s with aT:=some { o with silence:=0 } } | none=>s
  if p.kind=0 then s.hello p else if p.kind=1 then s.here W p else if p.kind=2 then s.subscribe W p else if p.kind=3 then s.call ask W p else if p.kind=4 then s.got W p else s.done W p
 else s
def XD(W:Nat)(s:SP)(k:Nat):SP:=match s.cur,s.aT with
 | true,some o=>
  let r:=mO s.up W o s.aX (fun f=>decide (f.topic=k)) id o.feeds s.L
  {s with aT:=some { o with feeds:=r.1 },L:=r.2 }
 | _,_=>s
def finish(W:Nat)(s:SP)(k:Nat):SP:={ s with aX:=s.aX.modify k (fun t=>{ t with fin:=true }) }.XD W k
def restart(s:SP):SP:={ s with aT:=none,waits:=[] }.quit
def next(s:SP):SP:=match s.waits with
 | []=>s
 | q::r=>{ s with waits:=r,given:=s.given+1,owed:=s.owed++[(s.given,q.back)] }
def reply(s:SP)(id:Nat)(d:List UInt8):SP:=match s.owed.find? (fun x=>decide (x.1=id)) with
 | none=>s
 | some (_,y)=>
  let s1:={ s with owed:=s.owed.filter (fun x=>!decide (x.1=id)) }
  match s.aT with
  | some o=>if o.number=y.session then
    let a:aP:=⟨12,o.token,o.number,y.request,0,⟨d.toArray⟩⟩
    let s2:={ s1 with aT:=some { o with answers:=o.answers++[a] } }
    if s.cur then s2.post a else s2
   else s1
  | none=>s1
end SP
structure uq where
 name:ByteArray
 value:ByteArray
 answer:ByteArray
 id:Int
 ended:Nat
structure StW where
 topic:Nat
 start:Nat
 given:Nat
 ended:Nat
 late:Bool
structure PkP where
 conn:Nat
 p:aP
structure WP where
 s:SP
 c:CP
 W:Nat
 D:Nat
 R:Nat
 conn:Nat
 o9:Nat
 qU:Nat
 toS:List PkP
 toC:List PkP
 v0:List ByteArray
 v1:List ByteArray
 v2:List ByteArray
 d0:Bool
 d1:Bool
 d2:Bool
 streams:List StW
 calls:List uq
 came:Nat
 bK:Nat
 bC:Nat
 cause:Bool
 aaX:Bool
namespace WP
def jQ(w:WP):WP:={ w with bK:=w.bK+1,cause:=w.cause||decide (w.D≤w.bK+1),c:=w.c.tick w.D }
def lG(w:WP):WP:={ w with bC:=w.bC+1,cause:=w.cause||decide (w.D≤w.bC+1),s:=w.s.tick w.W w.D }
def up0(w:WP):WP:={ w with conn:=w.conn+1,o9:=w.conn+1,qU:=w.conn+1,c:=(w.c.raise ((w.conn+1:Nat):Int)).speak,s:=w.s.raise ((w.conn+1:Nat):Int) }
def PN(w:WP):WP:={ w with c:={ w.c with L:=[] } }
def PO(w:WP):WP:={ w with s:={ w.s with L:=[] } }
end WP
def aK(w:World)(b:Nat)(T:TypeId)(xs:List Value):Prop:=w.heap[b]? = some (.cells xs.toArray T (0,0))
theorem aK.lt{w:World}{b:Nat}{T:TypeId}{xs:List Value}(h:aK w b T xs):b<w.heap.size:=(Array.getElem?_eq_some_iff.1 h).1
theorem aK.cell{w:World}{b:Nat}{T:TypeId}{xs:List Value}(h:aK w b T xs)(i:Nat):w.cell? ⟨b,i,none⟩=xs[i]?:=by
 have:w.heap[b]? = some (.cells xs.toArray T (0,0)):=h
 simp[World.cell?,this]
theorem aK.frozen{w:World}{b:Nat}{T:TypeId}{xs:List Value}(h:aK w b T xs)(i:Nat):w.frozen? ⟨b,i,none⟩=false:=by
 have:w.heap[b]? = some (.cells xs.toArray T (0,0)):=h
 simp[World.frozen?,this]
theorem aK.set{w:World}{b:Nat}{T:TypeId}{xs:List Value}(h:aK w b T xs)(i:Nat)(v:Value):aK (w.setCell ⟨b,i,none⟩ v) b T (xs.set i v):=by
 unfold aK
 rw[heap_setCell_same w b i xs.toArray T v h]
 simp
theorem aK.dB{F:Nat→Prop}{w w':World}{b:Nat}{T:TypeId}{xs:List Value}(h:aK w b T xs)(hc:aG F w w')(hf:¬ F b):aK w' b T xs:=(hc.block b h.lt hf).trans h
theorem aK.below{w w':World}{b:Nat}{T:TypeId}{xs:List Value}(h:aK w b T xs)(hc:Below w.heap.size w w'):aK w' b T xs:=(hc.block b h.lt).trans h
theorem o8.lt{w:World}{q:Nat}{L:List aP}(h:o8 w q L):q<w.heap.size:=by
 obtain⟨s,r,h⟩:=h
 exact(Array.getElem?_eq_some_iff.1 h).1
theorem o8.dB{F:Nat→Prop}{w w':World}{q:Nat}{L:List aP}(h:o8 w q L)(hc:aG F w w')(hf:¬ F q):o8 w' q L:=by
 have hl:=h.lt
 obtain⟨s,r,h⟩:=h
 exact⟨s,r,(hc.block q hl hf).trans h⟩
theorem Waits.lt{w:World}{m:Nat}{L:List aP}(h:Waits w m L):m<w.heap.size:=by
 obtain⟨es,clock,h,_⟩:=h
 exact(Array.getElem?_eq_some_iff.1 h).1
theorem Waits.dB{F:Nat→Prop}{w w':World}{m:Nat}{L:List aP}(h:Waits w m L)(hc:aG F w w')(hf:¬ F m):Waits w' m L:=by
 have hl:=h.lt
 obtain⟨es,clock,h,hk⟩:=h
 exact⟨es,clock,(hc.block m hl hf).trans h,hk⟩
abbrev uw(i0 i1 i2 i3:Value)(last:Int)(had up:Bool)(q m:Nat)(tl:List Value):List Value:=i0::i1::i2::i3::.int .i64 last::.bool had::.bool up::.chan (some q)::.map (some m)::tl
theorem PS(w:World):(Instr.makeChan 88 (.int .i64 60)).run Tryz.prog w=.ok (.chan (some w.heap.size)) (w.alloc (.chan 60 #[] false 0 0 false)):=by
 have h:(Tryz.prog.info? 124).map (·.bytes)=some 56:=by kernel_rfl
 obtain⟨i,hi,hb⟩:=Option.map_eq_some_iff.1 h
 simpa using run_makeChan (P:=Tryz.prog) (w:=w) underlying88 hi .i64 60 (by omega) (by rw[hb];omega)
theorem empty_any(w:World)(b:Nat)(T:TypeId)(i0 i1 i2 i3:Value)(last:Int)(had up:Bool)(vq vm:Value)(tl:List Value)(hB:aK w b T (i0::i1::i2::i3::.int .i64 last::.bool had::.bool up::vq::vm::tl)):
  Calls Tryz.prog 63 #[.pointer (some ⟨b,0,none⟩)] w (fun e w'=>e=.returned (.tuple #[])∧∃ q m,w.heap.size≤q∧w.heap.size≤m∧aK w' b T (uw i0 i1 i2 i3 last had up q m tl)∧o8 w' q []∧Waits w' m []∧aG (fun k=>k=b) w w'):=by
 have hlt:=hB.lt
 have hmk:=PS w
 generalize hw1:w.alloc (.chan 60 #[] false 0 0 false)=w1 at hmk
 have hb1:Below w.heap.size w w1:=by rw[← hw1];exact(Below.refl _ _).alloc (Nat.le_refl _) _
 have hB1:=hB.below hb1
 have hq1:w1.heap[w.heap.size]? = some (.chan 60 #[] false 0 0 false):=by rw[← hw1];exact heap_alloc_new w _
 have hz1:w1.heap.size=w.heap.size+1:=by rw[← hw1];simp
 have d7:w1.cell? ⟨b,7,none⟩=some vq:=hB1.cell 7
 have g7:=hB1.frozen 7
 have hB2:=hB1.set 7 (.chan (some w.heap.size))
 have hbb:b≠w.heap.size:=by omega
 have hq2:(w1.setCell ⟨b,7,none⟩ (.chan (some w.heap.size))).heap[w.heap.size]? = some (.chan 60 #[] false 0 0 false):=by rw[Below.heap_setCell _ _ _ _ (fun e=>hbb e.symm)];exact hq1
 have hc2:aG (fun k=>k=b) w (w1.setCell ⟨b,7,none⟩ (.chan (some w.heap.size))):=(aG.of_below hb1).setCell _ _ (fun _=>rfl)
 have hz2:(w1.setCell ⟨b,7,none⟩ (.chan (some w.heap.size))).heap.size=w.heap.size+1:=by simp[hz1]
 generalize hw2:w1.setCell ⟨b,7,none⟩ (.chan (some w.heap.size))=w2 at *
 have hb3:Below w2.heap.size w2 (w2.alloc (.map #[] 0)):=(Below.refl _ _).alloc (Nat.le_refl _) _
 have hB3:=hB2.below hb3
 have hq3:=(hb3.block w.heap.size (by omega)).trans hq2
 have IV:(w2.alloc (.map #[] 0)).heap[w2.heap.size]? = some (.map #[] 0):=heap_alloc_new w2 _
 have hc3:=hc2.pI hb3
 have hz3:(w2.alloc (.map #[] 0)).heap.size=w.heap.size+2:=by simp[hz2]
 generalize hw3:w2.alloc (.map #[] 0)=w3 at *
 have hmm:(Instr.makeMap 89 none).run Tryz.prog w2=.ok (.map (some w2.heap.size)) w3:=by rw[← hw3];rfl
 have d8:w3.cell? ⟨b,8,none⟩=some vm:=hB3.cell 8
 have g8:=hB3.frozen 8
 have HB3:=hid hB3
 have HZ2:=hid hz2
 clear hz2 hz3 hz1
 have NY:=hid hq3
 have NZ:=hid IV
 clear hB hB1 hB2 hB3 hq1 hq2 hq3 IV hb3 hc2 hb1
 go_enter func63,ntmps63
 go_wp2_with fail
 go_end0
 refine⟨rfl,w.heap.size,w2.heap.size,Nat.le_refl _,by have:=HZ2.out;omega,HB3.out.set 8 (.map (some w2.heap.size)),⟨0,0,?_⟩,⟨#[],0,?_,rfl,fun e he=>by simp at he⟩,hc3.setCell _ _ (fun _=>rfl)⟩
 ·rw[Below.heap_setCell _ _ _ _ (fun e=>hbb e.symm)]
  exact NY.out
 ·rw[Below.heap_setCell _ _ _ _ (by show w2.heap.size≠b;have:=HZ2.out;omega)]
  exact NZ.out
theorem PU(w:World)(q:Nat):(binOp .eql 88 (.chan (some q)) (.chan none)).run Tryz.prog w=.ok (.bool false) w:=by
 have h1:∀ d:Nat,(Op.equalIn (d+1) 88 (.chan (some q)) (.chan none)).run Tryz.prog w=.ok false w:=fun d=>by simp[Op.equalIn,run_underlying underlying88]
 have h2:(Op.equal 88 (.chan (some q)) (.chan none)).run Tryz.prog w=.ok false w:=h1 9999
 simp[binOp,h2]
theorem ED(w:World)(b:Nat)(T:TypeId)(i0 i1 i2 i3:Value)(last:Int)(had up:Bool)(q m:Nat)(tl:List Value)(hB:aK w b T (uw i0 i1 i2 i3 last had up q m tl))(conn:Int)(hc:had=false∨last<conn):
  Calls Tryz.prog 50 #[.pointer (some ⟨b,0,none⟩),.int .i64 conn] w (fun e w'=>e=.returned (.bool true)∧∃ q' m',w.heap.size≤q'∧w.heap.size≤m'∧aK w' b T (uw i0 i1 i2 i3 conn true true q' m' tl)∧o8 w' q' []∧Waits w' m' []∧aG (fun k=>k=b) w w'):=by
 have d4:w.cell? ⟨b,4,none⟩=some (.int .i64 last):=hB.cell 4
 have d5:w.cell? ⟨b,5,none⟩=some (.bool had):=hB.cell 5
 have d6:w.cell? ⟨b,6,none⟩=some (.bool up):=hB.cell 6
 have d7:w.cell? ⟨b,7,none⟩=some (.chan (some q)):=hB.cell 7
 have g4:=hB.frozen 4
 have hq:=PU w q
 have hB1:aK (w.setCell ⟨b,4,none⟩ (.int .i64 conn)) b T (uw i0 i1 i2 i3 conn had up q m tl):=hB.set 4 _
 have hc1:aG (fun k=>k=b) w (w.setCell ⟨b,4,none⟩ (.int .i64 conn)):=(aG.refl _ _).setCell _ _ (fun _=>rfl)
 obtain⟨w1,hw1⟩:∃ w1,w.setCell ⟨b,4,none⟩ (.int .i64 conn)=w1:=⟨_,rfl⟩
 rw[hw1] at hB1 hc1
 have k5:w1.cell? ⟨b,5,none⟩=some (.bool had):=hB1.cell 5
 have g5:=hB1.frozen 5
 have hB2:aK (w1.setCell ⟨b,5,none⟩ (.bool true)) b T (uw i0 i1 i2 i3 conn true up q m tl):=hB1.set 5 _
 have hc2:aG (fun k=>k=b) w (w1.setCell ⟨b,5,none⟩ (.bool true)):=hc1.setCell _ _ (fun _=>rfl)
 obtain⟨w2,hw2⟩:∃ w2,w1.setCell ⟨b,5,none⟩ (.bool true)=w2:=⟨_,rfl⟩
 rw[hw2] at hB2 hc2
 have l6:w2.cell? ⟨b,6,none⟩=some (.bool up):=hB2.cell 6
 have g6:=hB2.frozen 6
 have hB3:aK (w2.setCell ⟨b,6,none⟩ (.bool true)) b T (uw i0 i1 i2 i3 conn true true q m tl):=hB2.set 6 _
 have hc3:aG (fun k=>k=b) w (w2.setCell ⟨b,6,none⟩ (.bool true)):=hc2.setCell _ _ (fun _=>rfl)
 obtain⟨w3,hw3⟩:∃ w3,w2.setCell ⟨b,6,none⟩ (.bool true)=w3:=⟨_,rfl⟩
 rw[hw3] at hB3 hc3
 have HB3:=hid hB3
 clear hB hB1 hB2 hB3 hc1 hc2
 have hz3:=hc3.size
 have hc':had=true→last<conn:=fun e=>by
  rcases hc with h | h
  ·rw[h] at e;cases e
  ·exact h
 clear hc
 cases had
 all_goals
  try (have hcc:=hc' rfl)
  clear hc'
  go_enter func50,ntmps50
  go_wp2_with fail
  refine(empty_any _ b T i0 i1 i2 i3 conn true true _ _ tl HB3.out).mono ?_;rintro e w4 ⟨rfl,q',m',h1,h2,h3,h4,h5,h6⟩
  have H4:=hid h4
  go_wp2_with fail
  go_ret
  exact⟨rfl,q',m',by omega,by omega,h3,H4.out,h5,hc3.same h6⟩
theorem IW(w:World)(b:Nat)(T:TypeId)(i0 i1 i2 i3:Value)(last:Int)(had up:Bool)(q m:Nat)(tl:List Value)(hB:aK w b T (uw i0 i1 i2 i3 last had up q m tl))(conn:Int):
  Calls Tryz.prog 86 #[.pointer (some ⟨b,0,none⟩),.int .i64 conn] w (fun e w'=>e=.returned (.bool (up&&decide (conn=last)))∧w'=w):=by
 have d4:w.cell? ⟨b,4,none⟩=some (.int .i64 last):=hB.cell 4
 have d6:w.cell? ⟨b,6,none⟩=some (.bool up):=hB.cell 6
 clear hB
 cases up
 all_goals
  go_enter func86,ntmps86
  go_wp2_with fail
  go_ret
  exact⟨by first | rfl | (congr 2),rfl⟩
theorem aK.Gf{w:World}{b q:Nat}{T:TypeId}{xs:List Value}{L:List aP}(h:aK w b T xs)(k:o8 w q L):b≠q:=fun e=>by
 obtain⟨s,r,k⟩:=k
 have h':w.heap[b]? = _:=h
 rw[e,k] at h'
 cases h'
theorem aK.mP{w:World}{b m:Nat}{T:TypeId}{xs:List Value}{L:List aP}(h:aK w b T xs)(k:Waits w m L):b≠m:=fun e=>by
 obtain⟨es,clock,k,_⟩:=k
 have h':w.heap[b]? = _:=h
 rw[e,k] at h'
 cases h'
theorem o8.mP{w:World}{q m:Nat}{L M:List aP}(h:o8 w q L)(k:Waits w m M):q≠m:=fun e=>by
 obtain⟨es,clock,k,_⟩:=k
 obtain⟨s,r,h⟩:=h
 rw[e,k] at h
 cases h
structure iq(w:World)(b:Nat)(T:TypeId)(i0 i1 i2 i3:Value)(last:Int)(had up:Bool)(tl:List Value)(L:List aP)(q m:Nat):Prop where
 blk:aK w b T (uw i0 i1 i2 i3 last had up q m tl)
 uH:o8 w q L
 AL:Waits w m L
theorem iq.drew{w:World}{b:Nat}{T:TypeId}{i0 i1 i2 i3:Value}{last:Int}{had up:Bool}{tl:List Value}{L:List aP}{q m:Nat}(h:iq w b T i0 i1 i2 i3 last had up tl L q m):iq w.drew b T i0 i1 i2 i3 last had up tl L q m:=⟨h.blk,h.uH,h.AL⟩
theorem iq.below{w w':World}{b:Nat}{T:TypeId}{i0 i1 i2 i3:Value}{last:Int}{had up:Bool}{tl:List Value}{L:List aP}{q m:Nat}(h:iq w b T i0 i1 i2 i3 last had up tl L q m)(hb:Below w.heap.size w w'):iq w' b T i0 i1 i2 i3 last had up tl L q m :=
 ⟨h.blk.below hb,h.uH.dB (F:=fun _=>False) (aG.of_below hb) id,h.AL.dB (F:=fun _=>False) (aG.of_below hb) id⟩
theorem iq.dB{F:Nat→Prop}{w w':World}{b:Nat}{T:TypeId}{i0 i1 i2 i3:Value}{last:Int}{had up:Bool}{tl:List Value}{L:List aP}{q m:Nat}(h:iq w b T i0 i1 i2 i3 last had up tl L q m)(hc:aG F w w')(h1:¬ F b)(h2:¬ F q)(h3:¬ F m):iq w' b T i0 i1 i2 i3 last had up tl L q m :=
 ⟨h.blk.dB hc h1,h.uH.dB hc h2,h.AL.dB hc h3⟩
theorem iq.post{w:World}{b:Nat}{T:TypeId}{i0 i1 i2 i3:Value}{last:Int}{had up:Bool}{tl:List Value}{L:List aP}{q m:Nat}(h:iq w b T i0 i1 i2 i3 last had up tl L q m)(p:aP)(hl:L.length<60):
  Calls Tryz.prog 71 #[.pointer (some ⟨b,0,none⟩),.agg #[.int .u8 p.kind,.int .u64 p.token,.int .u64 p.session,.int .u64 p.number,.int .u64 p.position,.string p.data]] w (fun e w'=>(∃ r:Bool,e=.returned (.bool r))∧iq w' b T i0 i1 i2 i3 last had up tl (bU up L p) q m∧aG (fun k=>k=q∨k=m) w w'):=by
 refine(TM w b q m up L p (h.blk.cell 6) (h.blk.cell 7) (h.blk.cell 8) h.uH h.AL hl h.blk.lt).mono ?_
 rintro e w' ⟨h1,h2,h3,h4⟩
 exact⟨h1,⟨h.blk.dB h2 (fun e=>e.elim (h.blk.Gf h.uH) (h.blk.mP h.AL)),h3,h4⟩,h2⟩
abbrev adG(token:Nat)(silence:Int)(asked:Value)(next:Nat)(streams:Value)(made:Nat)(calls:Value)(called:Nat):List Value:=[.int .u64 token,.int .u64 0,.int .u64 0,.int .i64 silence,asked,.int .u64 next,streams,.int .i64 made,calls,.int .i64 called]
theorem PV(w:World)(b q m:Nat)(L:List aP)(p:aP)(c6:w.cell? ⟨b,6,none⟩=some (.bool true))(c7:w.cell? ⟨b,7,none⟩=some (.chan (some q)))(c8:w.cell? ⟨b,8,none⟩=some (.map (some m)))(hq:o8 w q L)(hm:Waits w m L)(hp:¬ p∈L)(hl:60≤L.length)(hb:b<w.heap.size):
  Calls Tryz.prog 71 #[.pointer (some ⟨b,0,none⟩),.agg #[.int .u8 p.kind,.int .u64 p.token,.int .u64 p.session,.int .u64 p.number,.int .u64 p.position,.string p.data]] w (fun e w'=>e=.returned (.bool false)∧Below w.heap.size w w'):=by
 refine pG func71 rfl ?_
 simp only[ntmps71,List.size_toArray,List.length_cons,List.length_nil,Nat.reduceAdd,Nat.reduceSub,Array.replicate_succ,
   Array.replicate_zero,List.push_toArray,List.append_toArray,List.nil_append,List.cons_append]
 refine gI (fun K hK=>?_)
 go_wp2_with fail
 generalize hw1:w.alloc (.cells #[.int .u8 p.kind,.int .u64 p.token,.int .u64 p.session,.int .u64 p.number,.int .u64 p.position,.string p.data] 124)=w1
 have hb1:Below w.heap.size w w1:=by rw[← hw1];exact(Below.refl _ _).alloc (Nat.le_refl _) _
 have hh1:w1.heap[w.heap.size]? = some (.cells #[.int .u8 p.kind,.int .u64 p.token,.int .u64 p.session,.int .u64 p.number,.int .u64 p.position,.string p.data] 124 (0,0)):=by rw[← hw1];exact heap_alloc_new w _
 have d6:w1.cell? ⟨b,6,none⟩=some (.bool true):=(hb1.cell (p:=⟨b,6,none⟩) hb).trans c6
 have d7:w1.cell? ⟨b,7,none⟩=some (.chan (some q)):=(hb1.cell (p:=⟨b,7,none⟩) hb).trans c7
 have d8:w1.cell? ⟨b,8,none⟩=some (.map (some m)):=(hb1.cell (p:=⟨b,8,none⟩) hb).trans c8
 have e0:w1.cell? ⟨w.heap.size,0,none⟩=some (.int .u8 p.kind):=by simp[World.cell?,hh1]
 have e1:w1.cell? ⟨w.heap.size,1,none⟩=some (.int .u64 p.token):=by simp[World.cell?,hh1]
 have e2:w1.cell? ⟨w.heap.size,2,none⟩=some (.int .u64 p.session):=by simp[World.cell?,hh1]
 have e3:w1.cell? ⟨w.heap.size,3,none⟩=some (.int .u64 p.number):=by simp[World.cell?,hh1]
 have e4:w1.cell? ⟨w.heap.size,4,none⟩=some (.int .u64 p.position):=by simp[World.cell?,hh1]
 have e5:w1.cell? ⟨w.heap.size,5,none⟩=some (.string p.data):=by simp[World.cell?,hh1]
 obtain⟨s,r,hqq⟩:=hq
 have hql:q<w.heap.size:=(Array.getElem?_eq_some_iff.1 hqq).1
 have hm1:Waits w1 m L:=by
  obtain⟨es,clock,h1,h2⟩:=hm
  exact⟨es,clock,(hb1.block m (Array.getElem?_eq_some_iff.1 h1).1).trans h1,h2⟩
 have hml:m<w.heap.size:=by
  obtain⟨es,clock,h1,h2⟩:=hm
  exact(Array.getElem?_eq_some_iff.1 h1).1
 have hq1:w1.heap[q]? = some (.chan 60 (L.map pv).toArray false s r false):=(hb1.block q hql).trans hqq
 have hlk:(Instr.lookup 89 (.map (some m)) (.agg #[.int .u8 p.kind,.int .u64 p.token,.int .u64 p.session,.int .u64 p.number,.int .u64 p.position,.string p.data]) true).run Tryz.prog w1.drew=.ok (.tuple #[.agg #[],.bool false]) w1.drew:=by
  have:=kJ (w:=w1.drew) hm1 p
  rwa [@decide_eq_false _ (pJ p L) hp] at this
 have hn1:=hb1.size
 have hwl:w.heap.size<w1.heap.size:=(Array.getElem?_eq_some_iff.1 hh1).1
 obtain⟨w2,hw2⟩:∃ w2,w1.alloc (.cells #[] 184)=w2:=⟨_,rfl⟩
 have hb2:Below w1.heap.size w1 w2:=by rw[← hw2];exact(Below.refl _ _).alloc (Nat.le_refl _) _
 have f8:(w1.alloc (.cells #[] 184)).cell? ⟨b,8,none⟩=some (.map (some m)):=by rw[hw2];exact(hb2.cell (p:=⟨b,8,none⟩) (Nat.lt_of_lt_of_le hb hn1)).trans d8
 have g0:(w1.alloc (.cells #[] 184)).cell? ⟨w.heap.size,0,none⟩=some (.int .u8 p.kind):=by rw[hw2];exact(hb2.cell (p:=⟨w.heap.size,0,none⟩) hwl).trans e0
 have g1:(w1.alloc (.cells #[] 184)).cell? ⟨w.heap.size,1,none⟩=some (.int .u64 p.token):=by rw[hw2];exact(hb2.cell (p:=⟨w.heap.size,1,none⟩) hwl).trans e1
 have g2:(w1.alloc (.cells #[] 184)).cell? ⟨w.heap.size,2,none⟩=some (.int .u64 p.session):=by rw[hw2];exact(hb2.cell (p:=⟨w.heap.size,2,none⟩) hwl).trans e2
 have g3:(w1.alloc (.cells #[] 184)).cell? ⟨w.heap.size,3,none⟩=some (.int .u64 p.number):=by rw[hw2];exact(hb2.cell (p:=⟨w.heap.size,3,none⟩) hwl).trans e3
 have g4:(w1.alloc (.cells #[] 184)).cell? ⟨w.heap.size,4,none⟩=some (.int .u64 p.position):=by rw[hw2];exact(hb2.cell (p:=⟨w.heap.size,4,none⟩) hwl).trans e4
 have g5:(w1.alloc (.cells #[] 184)).cell? ⟨w.heap.size,5,none⟩=some (.string p.data):=by rw[hw2];exact(hb2.cell (p:=⟨w.heap.size,5,none⟩) hwl).trans e5
 have hm2:Waits (w1.alloc (.cells #[] 184)) m L:=by
  obtain⟨es,clock,h1,h2⟩:=hm1
  exact⟨es,clock,by rw[hw2];exact(hb2.block m (Array.getElem?_eq_some_iff.1 h1).1).trans h1,h2⟩
 have hlk2:(Instr.lookup 89 (.map (some m)) (.agg #[.int .u8 p.kind,.int .u64 p.token,.int .u64 p.session,.int .u64 p.number,.int .u64 p.position,.string p.data]) true).run Tryz.prog (w1.alloc (.cells #[] 184)).drew=.ok (.tuple #[.agg #[],.bool false]) (w1.alloc (.cells #[] 184)).drew:=by
  have:=kJ (w:=(w1.alloc (.cells #[] 184)).drew) hm2 p
  rwa [@decide_eq_false _ (pJ p L) hp] at this
 clear hw2 hb2 hm2
 have HM:=hid hm
 have HM1:=hid hm1
 have HP:=hid hp
 have XA:=hid hq1
 have HH1:=hid hh1
 clear hm hm1 hp hq1 hqq hh1 hw1 c6 c7 c8
 refine gI (fun K hK=>?_)
 go_wp2_with fail
 refine gI (fun K hK=>?_)
 go_wp2_with fail
 go_region
 all_goals
  go_wp2_with fail
  obtain⟨w3,hw3⟩:∃ w3,(w1.alloc (.cells #[] 184)).drew=w3:=⟨_,rfl⟩
  rw[hw3]
  have hb3:Below w1.heap.size w1 w3:=by rw[← hw3];exact((Below.refl _ _).alloc (Nat.le_refl _) _).drew
  have hz3:=hb3.size
  have k7:w3.cell? ⟨b,7,none⟩=some (.chan (some q)):=(hb3.cell (p:=⟨b,7,none⟩) (Nat.lt_of_lt_of_le hb hn1)).trans d7
  have k8:w3.cell? ⟨b,8,none⟩=some (.map (some m)):=(hb3.cell (p:=⟨b,8,none⟩) (Nat.lt_of_lt_of_le hb hn1)).trans d8
  have l0:w3.cell? ⟨w.heap.size,0,none⟩=some (.int .u8 p.kind):=(hb3.cell (p:=⟨w.heap.size,0,none⟩) hwl).trans e0
  have l1:w3.cell? ⟨w.heap.size,1,none⟩=some (.int .u64 p.token):=(hb3.cell (p:=⟨w.heap.size,1,none⟩) hwl).trans e1
  have l2:w3.cell? ⟨w.heap.size,2,none⟩=some (.int .u64 p.session):=(hb3.cell (p:=⟨w.heap.size,2,none⟩) hwl).trans e2
  have l3:w3.cell? ⟨w.heap.size,3,none⟩=some (.int .u64 p.number):=(hb3.cell (p:=⟨w.heap.size,3,none⟩) hwl).trans e3
  have l4:w3.cell? ⟨w.heap.size,4,none⟩=some (.int .u64 p.position):=(hb3.cell (p:=⟨w.heap.size,4,none⟩) hwl).trans e4
  have l5:w3.cell? ⟨w.heap.size,5,none⟩=some (.string p.data):=(hb3.cell (p:=⟨w.heap.size,5,none⟩) hwl).trans e5
  have NY:=hid ((hb3.block q (by omega)).trans XA.out)
  have NZ:Hid (Waits w3 m L):=by
   obtain⟨es,clock,h1,h2⟩:=HM1.out
   exact⟨es,clock,(hb3.block m (by omega)).trans h1,h2⟩
  clear hw3 d6 d7 d8 e0 e1 e2 e3 e4 e5 f8 g0 g1 g2 g3 g4 g5 hlk hlk2
  refine gI (fun K hK=>?_)
  go_wp2_with fail
  refine zZ ?_
  refine uT ?_
  refine TI (c:=q) (cap:=60) (buf:=(L.map pv).toArray) (s:=s) (r:=r) (tm:=false) (v:=pv p) rfl rfl (by simp[go_sem,execOp,scase,Act.eval,pv,pc];rfl) NY.out (by simpa using hl) ?_
  refine qQ (v:=.int .i64 (-1)) (w':=w3) rfl rfl (by simp[go_sem,goInt]) ?_
  refine qQ (v:=.bool false) (w':=w3) rfl rfl (by simp[go_sem]) ?_
  refine Aa ?_
  refine oK ?_
  go_wp2_with fail
  go_ret
  exact⟨rfl,hb1.trans (hb3.mono hn1)⟩
theorem iq.aag{w:World}{b:Nat}{T:TypeId}{i0 i1 i2 i3:Value}{last:Int}{had up:Bool}{tl:List Value}{L:List aP}{q m:Nat}(h:iq w b T i0 i1 i2 i3 last had up tl L q m)(p:aP):
  Calls Tryz.prog 71 #[.pointer (some ⟨b,0,none⟩),.agg #[.int .u8 p.kind,.int .u64 p.token,.int .u64 p.session,.int .u64 p.number,.int .u64 p.position,.string p.data]] w (fun e w'=>e=.returned (.bool (y8 up L p))∧iq w' b T i0 i1 i2 i3 last had up tl (bU up L p) q m∧aG (fun k=>k=q∨k=m) w w'):=by
 have c6:w.cell? ⟨b,6,none⟩=some (.bool up):=h.blk.cell 6
 have c7:w.cell? ⟨b,7,none⟩=some (.chan (some q)):=h.blk.cell 7
 have c8:w.cell? ⟨b,8,none⟩=some (.map (some m)):=h.blk.cell 8
 have same:∀ {w':World},Below w.heap.size w w'→iq w' b T i0 i1 i2 i3 last had up tl L q m∧aG (fun k=>k=q∨k=m) w w':=fun hb=>⟨h.below hb,aG.of_below hb⟩
 cases up with
 | false=>
  refine(EC w b p c6 h.blk.lt).mono ?_
  rintro e w' ⟨rfl,hb⟩
  exact⟨by simp[y8],by rw[bU,if_neg (by simp)];exact(same hb).1,(same hb).2⟩
 | true=>
  by_cases hp:p∈L
  ·refine(AB w b q m L p c6 c7 c8 h.uH h.AL hp h.blk.lt).mono ?_
   rintro e w' ⟨rfl,hb⟩
   exact⟨by simp[y8,hp],by rw[bU,if_neg (by simp[hp])];exact(same hb).1,(same hb).2⟩
  ·by_cases hl:L.length<60
   ·refine(Ez w b q m L p c6 c7 c8 h.uH h.AL hp hl h.blk.lt).mono ?_
    rintro e w' ⟨rfl,h1,h2,h3⟩
    refine⟨by simp[y8,hl],?_,h1⟩
    rw[bU,if_pos ⟨rfl,hp,hl⟩]
    refine⟨h.blk.dB h1 (fun e=>?_),h2,h3⟩
    rcases e with e | e
    ·exact h.blk.Gf h.uH e
    ·exact h.blk.mP h.AL e
   ·refine(PV w b q m L p c6 c7 c8 h.uH h.AL hp (by omega) h.blk.lt).mono ?_
    rintro e w' ⟨rfl,hb⟩
    exact⟨by simp[y8,hp,hl],by rw[bU,if_neg (by simp[hl])];exact(same hb).1,(same hb).2⟩
abbrev fM:=Nat × (Obj→Prop)
def aaY:Obj→Nat
 | .cells _ T _=>T+2
 | _=>0
def okTag(o:Obj):Prop:=aaY o∉[116 + 2,242 + 2,112 + 2]
structure Has(lo:Nat)(w:World)(G:List fM):Prop where
 nodup:(G.map Prod.fst).Nodup
 all:∀ p∈G,lo≤p.1∧∃ o,w.heap[p.1]? = some o∧p.2 o∧okTag o
def Lc(A B:List fM):Prop:=∀ a∈A,∀ b∈B,a.1≠b.1
def Key(G:List fM)(k:Nat):Prop:=∃ p∈G,p.1=k
theorem Lc.symm{A B:List fM}(h:Lc A B):Lc B A:=fun a ha b hb e=>h b hb a ha e.symm
theorem aA{lo:Nat}{w:World}{A B:List fM}:Has lo w (A++B)↔Has lo w A∧Has lo w B∧Lc A B:=by
 constructor
 ·rintro⟨h1,h2⟩
  rw[List.map_append,List.nodup_append] at h1
  refine⟨⟨h1.1,fun p hp=>h2 p (List.mem_append_left _ hp)⟩,⟨h1.2.1,fun p hp=>h2 p (List.mem_append_right _ hp)⟩,fun a ha b hb=>h1.2.2 a.1 (List.mem_map_of_mem ha) b.1 (List.mem_map_of_mem hb)⟩
 ·rintro⟨⟨a1,a2⟩,⟨b1,b2⟩,d⟩
  refine⟨?_,fun p hp=>(List.mem_append.1 hp).elim (a2 p) (b2 p)⟩
  rw[List.map_append,List.nodup_append]
  refine⟨a1,b1,fun x hx y hy=>?_⟩
  obtain⟨p,hp,rfl⟩:=List.mem_map.1 hx
  obtain⟨q,hq,rfl⟩:=List.mem_map.1 hy
  exact d p hp q hq
theorem Has.nil(lo:Nat)(w:World):Has lo w []:=⟨List.nodup_nil,fun p hp=>by cases hp⟩
theorem Has.perm{lo:Nat}{w:World}{A B:List fM}(h:Has lo w A)(hp:A.Perm B):Has lo w B :=
 ⟨(hp.map Prod.fst).nodup_iff.1 h.nodup,fun p hm=>h.all p (hp.mem_iff.2 hm)⟩
theorem Has.lt{lo:Nat}{w:World}{A:List fM}(h:Has lo w A){k:Nat}(hk:Key A k):lo≤k∧k<w.heap.size:=by
 obtain⟨p,hp,rfl⟩:=hk
 obtain⟨h1,o,h2,_⟩:=h.all p hp
 exact⟨h1,(Array.getElem?_eq_some_iff.1 h2).1⟩
theorem Has.keep{lo:Nat}{w w':World}{F:Nat→Prop}{A:List fM}(h:Has lo w A)(hc:aG F w w')(hF:∀ k,Key A k→¬ F k):Has lo w' A :=
 ⟨h.nodup,fun p hp=>by
  obtain⟨h1,o,h2,h3⟩:=h.all p hp
  exact⟨h1,o,(hc.block p.1 (Array.getElem?_eq_some_iff.1 h2).1 (hF _ ⟨p,hp,rfl⟩)).trans h2,h3⟩⟩
theorem Has.below{lo:Nat}{w w':World}{A:List fM}(h:Has lo w A)(hb:Below w.heap.size w w'):Has lo w' A:=h.keep (F:=fun _=>False) (aG.of_below hb) (fun _ _=>id)
theorem Has.drew{lo:Nat}{w:World}{A:List fM}(h:Has lo w A):Has lo w.drew A:=⟨h.nodup,h.all⟩
structure Grow(w:World)(A:List fM)(w':World)(A':List fM):Prop where
 c:aG (Key A) w w'
 k:∀ k,Key A' k→Key A k∨w.heap.size≤k
theorem Grow.refl(w:World)(A:List fM):Grow w A w A:=⟨aG.refl _ _,fun _ h=>Or.inl h⟩
theorem Grow.trans{w w1 w2:World}{A A1 A2:List fM}(h:Grow w A w1 A1)(k:Grow w1 A1 w2 A2):Grow w A w2 A2 :=
 ⟨h.c.trans k.c (fun i hi hk=>by
  rcases h.k i hk with e | e
  ·exact e
  ·omega),fun i hi=>by
  rcases k.k i hi with e | e
  ·exact h.k i e
  ·exact Or.inr (Nat.le_trans h.c.size e)⟩
theorem Grow.of_below{w w':World}{A:List fM}(hb:Below w.heap.size w w'):Grow w A w' A:=⟨aG.of_below hb,fun _ h=>Or.inl h⟩
theorem Grow.drew{w w':World}{A A':List fM}(h:Grow w A w' A'):Grow w A w'.drew A':=⟨h.c.drew,h.k⟩
theorem Grow.below{w w1 w':World}{A A':List fM}(h:Grow w A w1 A')(hb:Below w1.heap.size w1 w'):Grow w A w' A':=h.trans (Grow.of_below hb)
theorem Key.app{A B:List fM}{k:Nat}:Key (A++B) k↔Key A k∨Key B k:=by
 constructor
 ·rintro⟨p,hp,rfl⟩
  exact(List.mem_append.1 hp).elim (fun h=>Or.inl ⟨p,h,rfl⟩) (fun h=>Or.inr ⟨p,h,rfl⟩)
 ·rintro(⟨p,hp,rfl⟩ | ⟨p,hp,rfl⟩)
  ·exact⟨p,List.mem_append_left _ hp,rfl⟩
  ·exact⟨p,List.mem_append_right _ hp,rfl⟩
theorem Key.one{a:fM}{k:Nat}:Key [a] k↔k=a.1:=by
 constructor
 ·rintro⟨p,hp,rfl⟩
  rw[List.mem_singleton.1 hp]
 ·rintro rfl
  exact⟨a,List.mem_singleton.2 rfl,rfl⟩
theorem Key.nil{k:Nat}:¬ Key [] k:=fun⟨p,hp,_⟩=>by cases hp
theorem Key.perm{A B:List fM}(h:A.Perm B){k:Nat}:Key A k↔Key B k:=⟨fun⟨p,hp,e⟩=>⟨p,h.mem_iff.1 hp,e⟩,fun⟨p,hp,e⟩=>⟨p,h.mem_iff.2 hp,e⟩⟩
theorem Grow.perm{w w':World}{A A' B B':List fM}(h:Grow w A w' A')(h1:A.Perm B)(h2:A'.Perm B'):Grow w B w' B' :=
 ⟨h.c.mono (fun i _ hi=>(Key.perm h1).1 hi),fun _ hi=>(h.k _ ((Key.perm h2).2 hi)).imp (Key.perm h1).1 id⟩
theorem Has.swap{lo:Nat}{w w':World}{A A' R:List fM}(h:Has lo w (A++R))(h':Has lo w' A')(hg:Grow w A w' A'):Has lo w' (A'++R):=by
 obtain⟨hA,hR,hd⟩:=aA.1 h
 refine aA.2 ⟨h',hR.keep hg.c (fun k ⟨p,hp,e⟩ ⟨q,hq,e'⟩=>hd q hq p hp (e'.trans e.symm)),fun a ha b hb e=>?_⟩
 rcases hg.k a.1 ⟨a,ha,rfl⟩ with⟨p,hp,e'⟩ | e'
 ·exact hd p hp b hb (e'.trans e)
 ·have:=(hR.lt ⟨b,hb,rfl⟩).2
  omega
theorem Grow.swap{w w':World}{A A' R:List fM}(hg:Grow w A w' A'):Grow w (A++R) w' (A'++R) :=
 ⟨hg.c.mono (fun i _ hi=>Key.app.2 (Or.inl hi)),fun i hi=>by
  rcases Key.app.1 hi with h | h
  ·exact(hg.k i h).imp (fun e=>Key.app.2 (Or.inl e)) id
  ·exact Or.inl (Key.app.2 (Or.inr h))⟩
def cnt [DecidableEq fM] (p:fM) (G:List fM):Nat:=G.count p
theorem aH[DecidableEq fM](p:fM)(A B:List fM):cnt p (A++B)=cnt p A+cnt p B:=List.count_append
theorem aY{A B:List fM}(h:∀ [DecidableEq fM] p,cnt p A=cnt p B):A.Perm B:=by
 have D:DecidableEq fM:=fun a b=>Classical.propDecidable (a=b)
 exact (@List.perm_iff_count fM (@instBEqOfDecidableEq fM D) _ A B).2 (fun p=>@h D p)
def iO(b:Nat)(T:TypeId)(xs:List Value):fM:=(b,fun o=>o=.cells xs.toArray T (0,0))
theorem Has.blk{lo:Nat}{w:World}{G:List fM}{b:Nat}{T:TypeId}{xs:List Value}(h:Has lo w G)(hm:iO b T xs∈G):aK w b T xs:=by
 obtain⟨_,o,h2,h3,_⟩:=h.all _ hm
 exact h2.trans (by rw[show o=_ from h3])
theorem dH{lo:Nat}{w:World}{b:Nat}{T:TypeId}{xs:List Value}(hl:lo≤b)(h:aK w b T xs)(hT:T+2∉[116 + 2,242 + 2,112 + 2]):Has lo w [iO b T xs] :=
 ⟨by simp,fun p hp=>by
  rw[List.mem_singleton.1 hp]
  exact⟨hl,_,h,rfl,hT⟩⟩
def dh(e:TypeId)(size:Nat)(v:Value)(n:Nat)(xs:List Value):List fM:=match v with
 | .slice (some ⟨g,0,none⟩) m cap=>[(g,fun o=>m=n∧xs.length=n*size∧n≤cap∧cap≤maxLen∧∃ cur,o=.cells cur e (0,0)∧cur.size=cap*size∧cur.toList.take (n*size)=xs)]
 | _=>[]
def eX(_:Nat)(v:Value)(n:Nat)(xs:List Value):Prop:=(v=.slice none 0 0∧n=0∧xs=[])∨∃ g cap,v=.slice (some ⟨g,0,none⟩) n cap
theorem eX.slice{size n:Nat}{v:Value}{xs:List Value}(h:eX size v n xs):∃ a c,v=.slice a n c:=by
 rcases h with⟨rfl,rfl,rfl⟩ | ⟨g,cap,rfl⟩
 ·exact⟨none,0,rfl⟩
 ·exact⟨_,_,rfl⟩
theorem Has.own{lo:Nat}{w:World}{G:List fM}{e:TypeId}{size n:Nat}{v:Value}{xs:List Value}(h:Has lo w G)(hv:eX size v n xs)(hm:∀ p∈dh e size v n xs,p∈G):w.ownsRow lo e size v n xs:=by
 rcases hv with⟨rfl,rfl,rfl⟩ | ⟨g,cap,rfl⟩
 ·exact⟨by simp,Or.inl ⟨rfl,rfl⟩⟩
 ·obtain⟨h1,o,h2,h3,_⟩:=h.all _ (hm _ (List.mem_singleton.2 rfl))
  obtain⟨_,h4,h5,h6,cur,rfl,h7,h8⟩:=h3
  exact⟨h4,Or.inr ⟨g,cap,cur,rfl,h1,h2,h5,h6,h7,h8⟩⟩
theorem jR{lo:Nat}{w:World}{e:TypeId}{size n:Nat}{v:Value}{xs:List Value}(h:w.ownsRow lo e size v n xs)(hT:e+2∉[116 + 2,242 + 2,112 + 2]):Has lo w (dh e size v n xs)∧eX size v n xs:=by
 obtain⟨h1,h2⟩:=h
 rcases h2 with⟨rfl,rfl⟩ | ⟨g,cap,cur,rfl,h3,h4,h5,h6,h7,h8⟩
 ·exact⟨Has.nil _ _,Or.inl ⟨rfl,rfl,by simpa using h1⟩⟩
 ·refine⟨⟨by simp[dh],fun p hp=>?_⟩,Or.inr ⟨g,cap,rfl⟩⟩
  rw[List.mem_singleton.1 hp]
  exact⟨h3,_,h4,⟨rfl,h1,h5,h6,cur,rfl,h7,h8⟩,hT⟩
theorem bQ{e:TypeId}{size n:Nat}{v:Value}{xs:List Value}(hv:eX size v n xs){k:Nat}:Key (dh e size v n xs) k↔v.ownBlock=some k:=by
 rcases hv with⟨rfl,rfl,rfl⟩ | ⟨g,cap,rfl⟩
 ·exact⟨fun h=>(Key.nil h).elim,fun h=>by cases h⟩
 ·rw[dh,Key.one]
  exact⟨fun h=>by rw[h];rfl,fun h=>by cases h;rfl⟩
end Go.Proofs.YtolfcabodiphmaaGreatDoor
namespace Go.Proofs.YtolfcabodiphmaaGreatDoor
open Go.Proofs.Tryz
def bT(sm:List UInt8→List UInt8)(P:List UInt8):List UInt8:=(P.length.toUInt8::P)++sm (P.length.toUInt8::P)
def okB(n:Nat):Bool:=decide (1≤n)&&decide (n≤120)
theorem pK{n:Nat}:okB n=true↔1≤n∧n≤120:=by simp[okB]
def kT(sm:List UInt8→List UInt8)(F:List UInt8):Option (List UInt8) :=
 if 5≤F.length∧okB (F.length-5)=true∧bT sm ((F.drop 1).take (F.length-5))=F then some ((F.drop 1).take (F.length-5)) else none
section
variable {sm:List UInt8→List UInt8}
theorem uU (hsm:∀ L,(sm L).length=4)(P:List UInt8):(bT sm P).length=P.length+5:=by simp[bT,hsm]
theorem XE{n:Nat}(h:n≤120):n.toUInt8.toNat=n:=by simp[Nat.toUInt8,UInt8.toNat_ofNat'];omega
theorem wo (hsm:∀ L,(sm L).length=4)(P:List UInt8)(h:okB P.length=true):kT sm (bT sm P)=some P:=by
 have hl:=uU hsm P
 have he:((bT sm P).drop 1).take ((bT sm P).length-5)=P:=by
  rw[hl];simp[bT]
 unfold kT
 rw[he,if_pos ⟨by omega,by rw[hl];simpa using h,rfl⟩]
end
end Go.Proofs.YtolfcabodiphmaaGreatDoor
namespace Go.Proofs.YtolfcabodiphmaaGreatDoor
open Go.Proofs.Tryz
open Go.RowKit
def Rd(w:World)(v:Value)(L:List UInt8):Prop :=
 (v=.slice none 0 0∧L=[])∨∃ a c,v=.slice (some a) L.length c∧∀ j u,(L.map aZ)[j]? = some u→w.cell? (a.add j)=some u
theorem Rd.slice{w:World}{v:Value}{L:List UInt8}(h:Rd w v L):∃ a c,v=.slice a L.length c:=by
 rcases h with⟨rfl,rfl⟩ | ⟨a,c,rfl,_⟩
 ·exact⟨none,0,rfl⟩
 ·exact⟨_,_,rfl⟩
theorem gZ.rd{w:World}{lo:Nat}{v:Value}{L:List UInt8}(h:gZ w lo v L):Rd w v L:=by
 rcases h.2 with⟨rfl,h0⟩ | ⟨g,cap,cur,hv,r⟩
 ·exact Or.inl ⟨rfl,List.eq_nil_of_length_eq_zero h0⟩
 ·exact Or.inr ⟨_,_,hv,fun j u hu=>h.cells (g:=g) (by rw[hv];rfl) j u hu⟩
theorem fE(a:Addr)(j:Nat)(h:a.spot=none):a.add j=⟨a.block,a.off+j,none⟩:=by
 obtain⟨b,o,s⟩:=a
 simp only at h
 subst h
 unfold Addr.add
 split<;>simp_all
theorem Rd.at{w:World}{v:Value}{L:List UInt8}(h:Rd w v L)(h0:0<L.length):∃ b o c,v=.slice (some ⟨b,o,none⟩) L.length c∧b<w.heap.size∧∀ j (hj:j<L.length),w.cell? ⟨b,o+j,none⟩=some (.int .u8 (L[j].toNat:Int)):=by
 rcases h with⟨_,rfl⟩ | ⟨a,c,rfl,hc⟩
 ·simp at h0
 ·obtain⟨b,o,s⟩:=a
  have h1:=hc 0 (aZ L[0]) (by simp[List.getElem?_eq_getElem h0])
  have h2:(⟨b,o,s⟩:Addr).add 0=⟨b,o,s⟩:=by unfold Addr.add;simp
  rw[h2] at h1
  have hs:s=none:=World.cell?_spot h1
  subst hs
  refine⟨b,o,c,rfl,World.block_lt_of_cell? _ _ h1,fun j hj=>?_⟩
  have:=hc j (aZ L[j]) (by simp[List.getElem?_eq_getElem hj])
  rw[fE _ _ rfl] at this
  exact this
theorem Rd.same{w w':World}{v:Value}{L:List UInt8}(h:Rd w v L){B:Nat}(hb:Below B w w')(hB:∀ k,v.ownBlock=some k→0<L.length→k<B):Rd w' v L:=by
 rcases h with h | ⟨a,c,rfl,hc⟩
 ·exact Or.inl h
 ·refine Or.inr ⟨a,c,rfl,fun j u hu=>?_⟩
  have hl:0<L.length:=by
   rcases Nat.eq_zero_or_pos L.length with e | e
   ·have:=List.eq_nil_of_length_eq_zero e;subst this;simp at hu
   ·exact e
  have h1:=hc j u hu
  have h2:(a.add j).block=a.block:=by unfold Addr.add;split<;>rfl
  rw[hb.cell (p:=a.add j) (by rw[h2];exact hB a.block rfl hl)]
  exact h1
theorem Rd.lt{w:World}{v:Value}{L:List UInt8}(h:Rd w v L):∀ k,v.ownBlock=some k→0<L.length→k<w.heap.size:=by
 intro k hk hl
 obtain⟨b,o,c,rfl,hb,_⟩:=h.at hl
 simp[Value.ownBlock] at hk
 omega
theorem Rd.later{w w':World}{v:Value}{L:List UInt8}(h:Rd w v L)(hb:Below w.heap.size w w'):Rd w' v L:=h.same hb h.lt
def strOf(L:List UInt8):ByteArray:=⟨L.toArray⟩
theorem Lr(L:List UInt8):strOfNums (L.map fun c=>(c.toNat:Int))=strOf L:=by
 unfold strOfNums strOf
 congr 2
 rw[List.map_map]
 conv=>rhs;rw[← List.map_id L]
 apply List.map_congr_left
 intro c _
 simp
theorem Gg(L:List UInt8):(strOf L).toList=L:=by rw[ByteArray.toList_eq];rfl
theorem Rd.conv{w:World}{v:Value}{L:List UInt8}(h:Rd w v L):(convert 64 9 v).run Tryz.prog w=.ok (.string (strOf L)) w:=by
 rcases h with⟨rfl,rfl⟩ | ⟨a,c,rfl,hc⟩
 ·exact run_convert_bytes_nil (P:=Tryz.prog) w 64 5 underlying64 underlying5 0 0 9 underlying9
 ·have hl:(loadCells a L.length).run Tryz.prog w=.ok ((L.map fun c=>(c.toNat:Int)).map (Value.int .u8)).toArray w:=by
   have:=run_loadCells_list (P:=Tryz.prog) w a ((L.map fun c=>(c.toNat:Int)).map (Value.int .u8)) (fun j u hj=>hc j u (by rw[List.map_map] at hj;exact hj))
   simpa using this
  rw[run_convert_bytes_string w 64 9 5 _ L.length c underlying64 underlying5 underlying9,run_bytesToString w _ L.length c _ hl,foldl_push_bytes]
  have e:=Lr L
  unfold strOfNums at e
  simp only[ByteArray.empty,ByteArray.emptyWithCapacity]
  rw[← e]
  simp
  rfl
theorem Gh(w:World){o:Oper}{a:Act}{K:Act→World→Prop}{Q:Exit→Act→World→Prop}(s x:Operand)
  (ho:o.op=.call { callee:=.builtin .append,args:=#[s,x],argTypes:=#[64,64] })
  (v:Value) (L:List UInt8) (lo:Nat) (hs:a.eval s=v) (hP:gZ w lo v L) (v2:Value) (L2:List UInt8) (hx:a.eval x=v2) (hP2:Rd w v2 L2)
  (hlen:L.length+L2.length≤100000000000) (hlo:lo≤w.heap.size)
  (h:∀ a' c' w',gZ w' lo (.slice a' (L++L2).length c') (L++L2)→Grew w w' v (.slice a' (L++L2).length c')→K (a.put o.dst (.slice a' (L++L2).length c')) w'):o.wp Tryz.prog a w K Q:=by
 obtain⟨iI,uS,hI0,hI1,hI2⟩:=info_parts Tryz.infoByte
 obtain⟨v',w',hr,h2,h3⟩:∃ v' w',(Builtin.append_ #[64,64] o.type #[v,v2]).run Tryz.prog w=.ok v' w'∧gZ w' lo v' (L++L2)∧Grew w w' v v':=by
  rcases hP2 with⟨rfl,rfl⟩ | ⟨ad,cap,hv2,hc2⟩
  ·exact⟨v,w,run_append_owned_none w lo 64 o.type 5 iI 1 underlying64 uS v L.length _ hP,by simpa using hP,Grew.refl _ _⟩
  ·subst hv2
   obtain⟨v',w',hr,h2,h3,_,h5⟩:=run_append_own_at (P:=Tryz.prog) w lo 64 o.type 5 iI (.int .u8 0) 1 1 underlying64 uS hI0 hI1 hI2 rfl (by decide) v L.length (L.map aZ) hP ad L2.length cap (L2.map aZ) (by simp) hc2 (fun u hu=>by obtain⟨q,_,rfl⟩:=List.mem_map.1 hu;rfl) (by unfold maxLen;omega) (by omega) hlo
   refine⟨v',w',hr,?_,h3,fun k hk=>?_⟩
   ·show w'.ownsRow _ _ _ _ _ _
    rw[List.length_append,List.map_append];exact h2
   ·rcases h5 with h5 | h5
    ·exact Or.inl (h5 ▸ hk)
    ·rw[hk] at h5;cases h5;exact Or.inr (Nat.le_refl _)
 obtain⟨a',c',hv'⟩:=ay h2
 subst hv'
 unfold Oper.wp execOp
 simp only[ho,resolve,invoke,builtin,Sem.run_bind,Sem.run_pure,Result.andThen_ok,List.map_toArray,List.map_cons,List.map_nil,hs,hx,hr]
 exact h a' c' w' h2 h3
theorem kK(w:World){ops:Array Oper}{rest:List Oper}{o:Oper}{a:Act}{Q:Exit→Act→World→Prop}(hgd:o.guard=none)(s x:Operand)
  (ho:o.op=.call { callee:=.builtin .append,args:=#[s,x],argTypes:=#[64,64] })
  (v:Value) (L:List UInt8) (lo:Nat) (hs:a.eval s=v) (hP:gZ w lo v L) (v2:Value) (L2:List UInt8) (hx:a.eval x=v2) (hP2:Rd w v2 L2) (M:List UInt8) (hM:L++L2=M)
  (hlen:L.length+L2.length≤100000000000) (hlo:lo≤w.heap.size)
  (h:∀ a' c' w',gZ w' lo (.slice a' M.length c') M→Grew w w' v (.slice a' M.length c')→wpList Tryz.prog ops Q rest (a.put o.dst (.slice a' M.length c')) w'):wpList Tryz.prog ops Q (o::rest) a w:=by
 subst hM
 exact wpList_plain hgd fun _ hK=>Gh w s x ho v L lo hs hP v2 L2 hx hP2 hlen hlo fun a' c' w' h2 h3=>hK _ _ (h a' c' w' h2 h3)
theorem XF(a:Option Addr)(l c:Nat)(w:World):(binOp .eql 64 (.slice a l c) (.slice none 0 0)).run Tryz.prog w=.ok (.bool a.isNone) w:=by
 have h1:∀ d:Nat,(Op.equalIn (d+1) 64 (.slice a l c) (.slice none 0 0)).run Tryz.prog w=.ok a.isNone w:=fun d=>by cases a<;>simp[Op.equalIn,run_underlying underlying64]
 have h2:(Op.equal 64 (.slice a l c) (.slice none 0 0)).run Tryz.prog w=.ok a.isNone w:=h1 9999
 simp[binOp,h2]
theorem N7(w:World)(L:List UInt8)(cs:Array Value)(h:cs.toList=L.map aZ)(hm:L.length≤100):gZ (w.alloc (.cells cs 5)) w.heap.size (.slice (some ⟨w.heap.size,0,none⟩) L.length L.length) L:=by
 have:=World.ownsRow_lit (base:=w.heap.size) (e:=5) (size:=1) w cs L.length (Nat.le_refl _) (by unfold maxLen;omega) (by have:=congrArg List.length h;simpa using this)
 rw[h] at this
 exact this
theorem nO(n:Int)(w:World):
  Calls Tryz.prog 83 #[.int .i64 n] w fun e w'=>e=.returned (.bool (decide (1≤n)&&decide (n≤120)))∧w'=w:=by
 go_enter func83,ntmps83
 go_wp2
 ·have h:1≤n:=by assumption
  go_ret
  exact⟨bM (by simp[h]),rfl⟩
 ·have h:n<1:=by assumption
  go_ret
  exact⟨bM (by simp;omega),rfl⟩
theorem AO(w:World)(v v2:Value)(L M:List UInt8)(h:Rd w v L)(h2:Rd w v2 M):
  Calls Tryz.prog 157 #[v,v2] w fun e w'=>e=.returned (.bool (decide (L=M)))∧w'=w:=by
 have hc:=h.conv
 have hc2:=h2.conv
 go_enter func157,ntmps157
 go_wp2
 go_ret
 exact⟨bM (by rw[Bool.eq_iff_iff];simp[Gg]),rfl⟩
def PW(z:Int):Int:=bif (bits BinOp.and IntKind.u32 z 1==1) then bits BinOp.xor IntKind.u32 (z / 2) 3988292384 else z / 2
def IX:Nat→Int→Int
 | 0,z=>z
 | n+1,z=>PW (IX n z)
def XG(z:Int)(c:UInt8):Int:=IX 8 (bits BinOp.xor IntKind.u32 z ((c.toNat:Int) % 4294967296))
def Gi(L:List UInt8):Int:=L.foldl XG 4294967295
def zL(L:List UInt8):Int:=bits BinOp.xor IntKind.u32 IntKind.u32.max (Gi L)
theorem wu(op:BinOp)(x y:Int):0≤bits op IntKind.u32 x y∧bits op IntKind.u32 x y<4294967296:=by
 unfold bits
 have:∀ n:Int,0≤IntKind.u32.wrap n∧IntKind.u32.wrap n<4294967296:=fun n=>by
  have e:IntKind.u32.wrap n=n % 4294967296:=by unfold IntKind.wrap;simp[IntKind.bits,IntKind.signed]
  rw[e];omega
 exact this _
theorem XH{z:Int}(h:0≤z∧z<4294967296):0≤PW z∧PW z<4294967296:=by
 unfold PW
 cases (bits BinOp.and IntKind.u32 z 1==1)
 ·simp only[cond_false];omega
 ·rw[cond_true];exact wu _ _ _
theorem Gj:∀ (n:Nat) {z:Int},0≤z∧z<4294967296→0≤IX n z∧IX n z<4294967296
 | 0,_,h=>h
 | n+1,_,h=>XH (Gj n h)
theorem XI(z:Int)(c:UInt8):0≤XG z c∧XG z c<4294967296:=Gj 8 (wu _ _ _)
theorem XJ(L:List UInt8):0≤Gi L∧Gi L<4294967296:=by
 unfold Gi
 rcases List.eq_nil_or_concat L with rfl | ⟨M,c,rfl⟩
 ·simp
 ·rw[List.concat_eq_append,List.foldl_append];exact XI _ _
theorem PX(w:World)(v:Value)(L:List UInt8)(h:Rd w v L)(hl:L.length≤1000000):
  Calls Tryz.prog 84 #[v] w fun e w'=>e=.returned (.int .u32 (zL L))∧w'=w:=by
 obtain⟨a,c,rfl⟩:=h.slice
 have H:=hid h
 clear h
 go_enter func84,ntmps84
 go_wp2
 go_loop [3,5,6,9] (fun r x5 x6 i=>∃ k:Nat,k≤L.length∧i=.int .i64 k∧r=.int .u32 (Gi (L.take k))) (fun _ _ _ i=>L.length-(intOf i).toNat)
 case atStart=>exact⟨0,Nat.zero_le _,rfl,rfl⟩
 case round=>
  obtain⟨k,hk,rfl,rfl⟩:=hrel
  have hbd:=XJ (L.take k)
  by_cases hlt:k<L.length
  ·obtain⟨b,o,c',hv,hb,hc⟩:=H.out.at (by omega)
   obtain⟨rfl,rfl⟩:a=some ⟨b,o,none⟩∧c=c':=by simpa using hv
   have hck:=hc k hlt
   have HS:=hid (show Gi (L.take (k+1))=XG (Gi (L.take k)) L[k] by unfold Gi;rw[List.take_succ_eq_append_getElem hlt,List.foldl_append];rfl)
   generalize Gi (L.take k)=z at *
   generalize L[k]=d at *
   clear hc
   go_wp2_with fail
   go_loop [3,6,17] (fun r x6 j=>∃ q:Nat,q≤8∧j=.int .i64 q∧r=.int .u32 (IX q (bits BinOp.xor IntKind.u32 z ((d.toNat:Int) % 4294967296)))) (fun _ _ j=>8-(intOf j).toNat)
   case atStart=>exact⟨0,Nat.zero_le _,rfl,rfl⟩
   case round=>
    obtain⟨q,hq,rfl,rfl⟩:=hrel
    have hbq:=Gj q (wu BinOp.xor z ((d.toNat:Int) % 4294967296))
    by_cases hlt':q<8
    ·have HQ:=hid (show IX (q+1) (bits BinOp.xor IntKind.u32 z ((d.toNat:Int) % 4294967296))=PW (IX q (bits BinOp.xor IntKind.u32 z ((d.toNat:Int) % 4294967296))) from rfl)
     generalize IX q (bits BinOp.xor IntKind.u32 z ((d.toNat:Int) % 4294967296))=y at *
     have HC:=hid (show PW y=bif (bits BinOp.and IntKind.u32 y 1==1) then bits BinOp.xor IntKind.u32 (y / 2) 3988292384 else y / 2 from rfl)
     go_wp2_with fail
     ·have ht:(bits BinOp.and IntKind.u32 y 1==1)=true:=by assumption
      go_round
      case rel=>exact⟨q+1,by omega,by go_num,by rw[HQ.out,HC.out,ht];rfl⟩
      case measure=>simp[intOf];omega
     ·have ht:(bits BinOp.and IntKind.u32 y 1==1)=false:=by assumption
      go_round
      case rel=>exact⟨q+1,by omega,by go_num,by rw[HQ.out,HC.out,ht];rfl⟩
      case measure=>simp[intOf];omega
    ·obtain rfl:q=8:=by omega
     go_wp2_with fail
     go_round
     case rel=>exact⟨k+1,by omega,by go_num,by rw[HS.out];rfl⟩
     case measure=>simp[intOf];omega
  ·go_wp2_with fail
   go_ret
   exact⟨nK (by rw[List.take_of_length_le (by omega)];rfl),rfl⟩
def fU(L:List UInt8):List UInt8:=[(zL L / 16777216).toNat.toUInt8,(zL L / 65536).toNat.toUInt8,(zL L / 256).toNat.toUInt8,(zL L).toNat.toUInt8]
theorem wG(L:List UInt8):(fU L).length=4:=rfl
def TP(w:World)(P:List UInt8)(e:Ending)(w':World):Prop :=
 Below w.heap.size w w'∧bif okB P.length then ∃ a c,e=.returned (.tuple #[.slice a (bT fU P).length c,.int .i64 0])∧gZ w' w.heap.size (.slice a (bT fU P).length c) (bT fU P)
  else e=.returned (.tuple #[.slice none 0 0,.int .i64 7])
theorem AP(w:World)(v:Value)(L:List UInt8)(h:Rd w v L)(h0:0<L.length)(hl:L.length≤1000000000):
  Calls Tryz.prog 156 #[v] w fun e w'=>∃ a c,e=.returned (.slice a L.length c)∧gZ w' w.heap.size (.slice a L.length c) L∧Below w.heap.size w w':=by
 obtain⟨b,o,c,rfl,hb,_⟩:=h.at h0
 have H:=hid h
 clear h
 have hq:=XF (some ⟨b,o,none⟩) L.length c w
 go_enter func156,ntmps156
 go_wp2_with (at_builtin;refine kK _ rfl _ _ rfl _ [] w.heap.size rfl (N7 _ [] _ rfl (by simp)) _ L rfl (H.out.later ((Below.refl _ _).alloc (Nat.le_refl _) _)) L rfl (by simp;omega) (by simp) ?_)
 intro a1 c1 w1 hb1 hg1
 have hbel:Below w.heap.size w w1:=((Below.refl _ _).alloc (Nat.le_refl _) _).trans (hg1.below (fun k hk=>by simp[Value.ownBlock] at hk;omega) (by simp))
 go_wp2_with fail
 go_ret
 exact⟨a1,c1,rfl,hb1,hbel⟩
theorem wrap_any(w:World)(v:Value)(P:List UInt8)(h:Rd w v P)(hl:P.length≤maxLen):
  Calls Tryz.prog 59 #[v] w (TP w P):=by
 obtain⟨pa,pc,rfl⟩:=h.slice
 unfold maxLen at hl
 have H:=hid h
 clear h
 by_cases hok:okB P.length=true
 ·have hb:=pK.1 hok
  have hi:(decide (1≤(P.length:Int))&&decide ((P.length:Int)≤120))=true:=by simp;omega
  have HO:=hid hok
  clear hok
  go_enter func59,ntmps59
  go_wp2_with fail
  refine(nO _ _).mono ?_;rintro e w1 ⟨rfl,rfl⟩
  rw[hi]
  have hM0:([P.length.toUInt8]++P).length≤121:=by simp;omega
  have HF0:=hid (show bT fU P=([P.length.toUInt8]++P)++fU ([P.length.toUInt8]++P) from rfl)
  obtain⟨M,HM⟩:∃ M,Hid ([P.length.toUInt8]++P=M):=⟨_,rfl⟩
  have hM:M.length≤121:=by rw[← HM.out];exact hM0
  have HF:Hid (bT fU P=M++fU M):=by rw[← HM.out];exact HF0
  clear hM0 HF0
  go_wp2_with (at_builtin;refine kK _ rfl (.tmp 13) (.tmp 14) rfl _ [P.length.toUInt8] w1.heap.size rfl (sS _ _ _ (by rw[XE hb.2])) _ P rfl (H.out.later ((Below.refl _ _).alloc (Nat.le_refl _) _)) M HM.out (by rw[List.length_singleton];omega) (by simp) ?_)
  intro a1 c1 w2 hb2 hg2
  have qW:Below w1.heap.size w1 w2:=((Below.refl _ _).alloc (Nat.le_refl _) _).trans (hg2.below (fun k hk=>by simp[Value.ownBlock] at hk;omega) (by simp))
  have hz2:=qW.size
  have HB2:=hid hb2
  clear hb2 hg2
  go_wp2_with fail
  refine(PX _ _ M HB2.out.rd (by omega)).mono ?_;rintro e w3 ⟨rfl,rfl⟩
  have hsb:0≤zL M∧zL M<4294967296:=wu _ _ _
  have HS:=hid (show fU M=[(zL M / 16777216).toNat.toUInt8,(zL M / 65536).toNat.toUInt8,(zL M / 256).toNat.toUInt8,(zL M).toNat.toUInt8] from rfl)
  generalize zL M=z at *
  obtain⟨FF,HFF⟩:∃ FF,Hid (M++fU M=FF):=⟨_,rfl⟩
  have HF2:Hid (bT fU P=FF):=HF.out.trans HFF.out
  go_wp2_with (at_builtin;refine kK _ rfl (.tmp 18) (.tmp 30) rfl _ M w1.heap.size rfl (HB2.out.same ((Below.refl _ _).alloc (Nat.le_refl _) _)) _ (fU M) rfl (N7 _ (fU M) _ (by rw[HS.out];simp[aZ];omega) (by rw[HS.out];simp)).rd FF HFF.out (by rw[HS.out];simp;omega) (by simp;omega) ?_)
  intro a3 c3 w4 hb4 hg4
  have y9:Below w1.heap.size w1 w4:=(qW.alloc hz2 _).trans (hg4.below (fun k hk=>(HB2.out.lt k hk).1) (by simp;omega))
  have HB4:=hid hb4
  clear hb4 hg4
  go_wp2_with fail
  go_ret2
  refine⟨y9,?_⟩
  rw[HO.out,HF2.out]
  exact⟨a3,c3,rfl,HB4.out⟩
 ·have hno:okB P.length=false:=by simpa using hok
  have hi:(decide (1≤(P.length:Int))&&decide ((P.length:Int)≤120))=false:=by
   rw[← hno];unfold okB;rw[Bool.eq_iff_iff];simp;omega
  have HO:=hid hno
  clear hok hno
  go_enter func59,ntmps59
  go_wp2_with fail
  refine(nO _ _).mono ?_;rintro e w1 ⟨rfl,rfl⟩
  rw[hi]
  go_wp2_with fail
  go_ret2
  refine⟨Below.refl _ _,?_⟩
  rw[HO.out]
  rfl
def Lu(w:World)(F:List UInt8)(e:Ending)(w':World):Prop :=
 Below w.heap.size w w'∧match kT fU F with
  | some P=>∃ a c,e=.returned (.tuple #[.slice a P.length c,.bool true])∧gZ w' w.heap.size (.slice a P.length c) P
  | none=>e=.returned (.tuple #[.slice none 0 0,.bool false])
theorem Rd.piece{w:World}{b o:Nat}{L:List UInt8}(h:∀ j (hj:j<L.length),w.cell? ⟨b,o+j,none⟩=some (.int .u8 (L[j].toNat:Int)))(i n c':Nat)(hi:i+n≤L.length):Rd w (.slice (some ⟨b,o+i,none⟩) n c') ((L.drop i).take n):=by
 have hlen:((L.drop i).take n).length=n:=by simp;omega
 refine Or.inr ⟨⟨b,o+i,none⟩,c',by rw[hlen],fun j u hu=>?_⟩
 have hj:j<n:=by
  rcases Nat.lt_or_ge j n with h | h
  ·exact h
  ·rw[List.getElem?_eq_none (by simp;omega)] at hu;cases hu
 rw[fE _ _ rfl]
 have h1:=h (i+j) (by omega)
 have e:((L.drop i).take n)[j]? = some L[i+j]:=by
  rw[List.getElem?_take_of_lt hj,List.getElem?_drop,List.getElem?_eq_getElem (by omega)]
 rw[List.getElem?_map,e] at hu
 simp at hu
 subst hu
 rw[← Nat.add_assoc] at h1
 exact h1
theorem LC(w:World)(a:Option Addr)(c:Nat)(F:List UInt8)(h:Rd w (.slice a F.length c) F)(hl:F.length≤maxLen)(hcap:F.length≤c):
  Calls Tryz.prog 110 #[.slice a F.length c] w (Lu w F):=by
 unfold maxLen at hl
 have H:=hid h
 clear h
 by_cases hok:5≤F.length∧okB (F.length-5)=true
 ·have hb:=pK.1 hok.2
  obtain⟨b,o,c',hv,hbl,hc⟩:=H.out.at (by omega)
  obtain⟨rfl,rfl⟩:a=some ⟨b,o,none⟩∧c=c':=by simpa using hv
  have hRd:=Rd.piece hc 1 (F.length-5) (c-1) (by omega)
  have hi:(decide (1≤((F.length-5:Nat):Int))&&decide (((F.length-5:Nat):Int)≤120))=true:=by simp;omega
  have hn:F.length-5≤120:=hb.2
  have hn1:1≤F.length-5:=hb.1
  have hFl:F.length=(F.length-5)+5:=by omega
  have HP:=hid (show ((F.drop 1).take (F.length-5)).length=F.length-5 by simp;omega)
  have HU:=hid (show kT fU F=if bT fU ((F.drop 1).take (F.length-5))=F then some ((F.drop 1).take (F.length-5)) else none by
   unfold kT;simp[hok.1,hok.2])
  generalize (F.drop 1).take (F.length-5)=P at *
  have HRd:=hid hRd
  clear hRd hv
  generalize F.length-5=n at *
  have HFl:=hid hFl
  rw[hFl]
  have hs1:1+(n:Int)≤(c:Int):=by omega
  have hs0:0≤1+(n:Int):=by omega
  have hs2:¬ c=1:=by omega
  clear hFl hl hok hb hc hcap
  go_enter func110,ntmps110
  go_wp2_with fail
  rw[show (n:Int)+5-1-4=(n:Int) by omega]
  refine(nO _ _).mono ?_;rintro e w1 ⟨rfl,rfl⟩
  rw[hi]
  go_wp2_with fail
  have hz:(1+(n:Int)).toNat-1=n:=by omega
  first | rw[hz] | skip
  refine(AP _ _ P (by first | exact HRd.out | (rw[HP.out];exact HRd.out)) (by rw[HP.out];omega) (by rw[HP.out];omega)).mono ?_;rintro e w2 ⟨a2,c2,rfl,hB2,qW⟩
  have HB2:=hid hB2
  clear hB2
  have hPl:P.length≤maxLen:=by rw[HP.out];unfold maxLen;omega
  have adI:okB P.length=true:=by rw[HP.out];exact pK.2 ⟨hn1,hn⟩
  have HOK:=hid adI
  clear adI
  go_wp2_with fail
  refine(wrap_any _ _ P HB2.out.rd hPl).mono ?_;rintro e w3 ⟨IY,hq⟩
  rw[HOK.out] at hq
  obtain⟨a3,c3,rfl,hB3⟩:=hq
  have HB3:=hid hB3
  have LD:=qW.trans (IY.mono qW.size)
  have HF3:=hid (show Rd w3 (.slice (some ⟨b,o,none⟩) F.length c) F from H.out.later LD)
  have ahl:=hid (HB2.out.same IY)
  clear hB3
  rw[HFl.out] at HF3
  go_wp2_with fail
  refine(AO _ _ _ (bT fU P) F HB3.out.rd HF3.out).mono ?_;rintro e w4 ⟨rfl,rfl⟩
  by_cases hE:bT fU P=F
  ·have HE:=hid hE
   have hd:decide (bT fU P=F)=true:=by simp[hE]
   rw[hd]
   clear hE hd
   go_wp2_with fail
   go_ret2
   refine⟨LD,?_⟩
   rw[HU.out,if_pos HE.out]
   exact⟨a2,c2,rfl,ahl.out⟩
  ·have HE:=hid hE
   have hd:decide (bT fU P=F)=false:=by simp[hE]
   rw[hd]
   clear hE hd
   go_wp2_with fail
   go_ret2
   refine⟨LD,?_⟩
   rw[HU.out,if_neg HE.out]
   rfl
 ·have HU:=hid (show kT fU F=none by
   unfold kT;rw[if_neg];intro h;exact hok ⟨h.1,h.2.1⟩)
  have hi:(decide (1≤(F.length:Int)-1-4)&&decide ((F.length:Int)-1-4≤120))=false:=by
   rcases Nat.lt_or_ge F.length 5 with h5 | h5
   ·simp;omega
   ·have:¬ okB (F.length-5)=true:=fun h=>hok ⟨h5,h⟩
    rw[pK] at this
    simp;omega
  clear hok
  go_enter func110,ntmps110
  go_wp2_with fail
  refine(nO _ _).mono ?_;rintro e w1 ⟨rfl,rfl⟩
  rw[hi]
  go_wp2_with fail
  go_ret2
  refine⟨Below.refl _ _,?_⟩
  rw[HU.out]
  rfl
open Go.Conc
theorem qX(w:World)(b:Nat)(v0 v1 v2 v3 v4 v5:Value)(h:aK w b 124 [v0,v1,v2,v3,v4,v5]):(loadVar 124 ⟨b,0,none⟩).run Tryz.prog w=.ok (.agg #[v0,v1,v2,v3,v4,v5]) w:=by
 have e0:w.cell? ⟨b,0,none⟩=some v0:=h.cell 0
 have e1:w.cell? ⟨b,1,none⟩=some v1:=h.cell 1
 have e2:w.cell? ⟨b,2,none⟩=some v2:=h.cell 2
 have e3:w.cell? ⟨b,3,none⟩=some v3:=h.cell 3
 have e4:w.cell? ⟨b,4,none⟩=some v4:=h.cell 4
 have e5:w.cell? ⟨b,5,none⟩=some v5:=h.cell 5
 simp[go_sem,e0,e1,e2,e3,e4,e5]
abbrev adJ(aX:Value)(ms mo:Nat):List Value:=[aX,.map (some ms),.pointer none,.int .u64 0,.slice none 0 0,.int .i64 0,.map (some mo)]
def Void(w:World)(m:Nat):Prop:=w.heap[m]? = some (.map #[] 0)
theorem Void.lt{w:World}{m:Nat}(h:Void w m):m<w.heap.size:=(Array.getElem?_eq_some_iff.1 h).1
theorem Void.dB{F:Nat→Prop}{w w':World}{m:Nat}(h:Void w m)(hc:aG F w w')(hf:¬ F m):Void w' m:=(hc.block m h.lt hf).trans h
theorem Void.Gf{w:World}{m q:Nat}{L:List aP}(h:Void w m)(k:o8 w q L):m≠q:=fun e=>by
 obtain⟨s,r,k⟩:=k
 have h':w.heap[m]? = _:=h
 rw[e,k] at h'
 cases h'
theorem oq(w:World)(b:Nat)(v0 v1 v2:Value)(h:aK w b 70 [v0,v1,v2]):(loadVar 70 ⟨b,0,none⟩).run Tryz.prog w=.ok (.agg #[v0,v1,v2]) w:=by
 have e0:w.cell? ⟨b,0,none⟩=some v0:=h.cell 0
 have e1:w.cell? ⟨b,1,none⟩=some v1:=h.cell 1
 have e2:w.cell? ⟨b,2,none⟩=some v2:=h.cell 2
 simp[go_sem,e0,e1,e2]
def aJ(b:Nat):Value:=.pointer (some ⟨b,0,none⟩)
def uV(w:World)(lo:Nat)(T:TypeId)(v:Value)(Bs:List Nat):Prop:=w.ownsRow lo T 1 v Bs.length (Bs.map aJ)
theorem uV.slice{w:World}{lo:Nat}{T:TypeId}{v:Value}{Bs:List Nat}(h:uV w lo T v Bs):∃ a c,v=.slice a Bs.length c:=ay h
theorem uV.cell{w:World}{lo:Nat}{T:TypeId}{v:Value}{Bs:List Nat}(h:uV w lo T v Bs)(h0:0<Bs.length):∃ g c,v=.slice (some ⟨g,0,none⟩) Bs.length c∧lo≤g∧g<w.heap.size∧∀ i (hi:i<Bs.length),w.cell? ⟨g,i,none⟩=some (aJ Bs[i]):=by
 rcases h.2 with⟨_,e⟩ | ⟨g,cap,cur,hv,r⟩
 ·omega
 ·have hl:=h.lt g (by rw[hv];rfl)
  refine⟨g,cap,hv,hl.1,hl.2,fun i hi=>?_⟩
  have:=h.cells (g:=g) (by rw[hv];rfl) i (aJ Bs[i]) (by simp[List.getElem?_eq_getElem hi])
  rw[fE _ _ rfl] at this
  simpa using this
theorem uV.below{w w':World}{lo:Nat}{T:TypeId}{v:Value}{Bs:List Nat}(h:uV w lo T v Bs)(hb:Below w.heap.size w w'):uV w' lo T v Bs:=aC h (fun g hg=>hb.block g (h.lt g hg).2)
def wH(n:Nat)(f:Nat→Bool)(z:Int):Prop:=(∃ k:Nat,k<n∧f k=true∧(∀ j,j<k→f j=false)∧z=k)∨((∀ j,j<n→f j=false)∧z = -1)
end Go.Proofs.YtolfcabodiphmaaGreatDoor
