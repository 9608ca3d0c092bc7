/- Bytes in memory, and what is put behind them: for the program's texts, the reference's and the statements'. -/
import Derived.Test.YtgalebcpagmohaaGreatDoorRows
import Derived.WalkKit
import Derived.WalkSpells
import Derived.WalkLawsBesides
import Derived.Deep.LoopGhost
import Derived.Deep.QuietTactic
import Derived.BigQuiet
import Derived.Deep.AppendLies
import Derived.Maps.AppendAt
import Derived.Below
import Derived.Laws.BytesArg
import Derived.Deep.CutRange
import Derived.Deep.MidRow
import Derived.Deep.RegionWith
import Derived.Lib.AppendStr
import Derived.ProofKit
import Derived.OpenShut
import Derived.Carry
set_option maxHeartbeats 1000000
set_option maxRecDepth 100000
namespace Go.Proofs.YtgalebcpagmohaaGreatDoor
open Go.Proofs.Tryz
open Go.RowKit
theorem o8 {k:IntKind} {a b:Int} (h:a=b):Ending.returned (.int k a)=.returned (.int k b):=by rw[h]
theorem aG {a b:Bool} (h:a=b):Ending.returned (.bool a)=.returned (.bool b):=by rw[h]
theorem hid {p:Prop} (h:p):Hid p:=h
theorem oW {W w1:World} (hb:Below W.heap.size W w1):(∀ b o,b<W.heap.size→w1.cell? ⟨b,o,none⟩=W.cell? ⟨b,o,none⟩)∧(∀ b o,b<W.heap.size→w1.frozen? ⟨b,o,none⟩=W.frozen? ⟨b,o,none⟩) :=
 ⟨fun b o h=>hb.cell (p:=⟨b,o,none⟩) h,fun b o h=>hb.frozen (p:=⟨b,o,none⟩) h⟩
theorem au {w w':World} {lo:Nat} {e:TypeId} {size n:Nat} {v:Value} {xs:List Value} (h:w.ownsRow lo e size v n xs) (hs:∀ g,v.ownBlock=some g→w'.heap[g]? = w.heap[g]?):w'.ownsRow lo e size v n xs:=by
 obtain⟨h1,h2⟩:=h
 refine⟨h1,?_⟩
 rcases h2 with h2 | ⟨g,cap,cur,hv,hg,hh,r⟩
 ·exact Or.inl h2
 ·exact Or.inr ⟨g,cap,cur,hv,hg,by rw[hs g (by rw[hv];rfl)];exact hh,r⟩
theorem ak {w:World} {lo:Nat} {e:TypeId} {size n:Nat} {v:Value} {xs:List Value} (h:w.ownsRow lo e size v n xs):∃ a c,v=.slice a n c:=by
 rcases h.2 with⟨rfl,rfl⟩ | ⟨g,cap,cur,rfl,_⟩
 ·exact⟨none,0,rfl⟩
 ·exact⟨_,_,rfl⟩
theorem jZ {w:World} {lo:Nat} {e:TypeId} {size n:Nat} {v:Value} {xs:List Value} (h:w.ownsRow lo e size v n xs) {g:Nat} (hg:v.ownBlock=some g):∃ cur,w.heap[g]? = some (.cells cur e (0,0)):=by
 rcases h.2 with⟨rfl,_⟩ | ⟨g',cap,cur,rfl,_,hh,_⟩
 ·simp[Value.ownBlock] at hg
 ·simp[Value.ownBlock] at hg;subst hg;exact⟨cur,hh⟩
theorem own_ne {w:World} {lo lo':Nat} {e e':TypeId} {size size' n n':Nat} {v v':Value} {xs xs':List Value} (h:w.ownsRow lo e size v n xs) (h':w.ownsRow lo' e' size' v' n' xs') (he:e≠e') {g g':Nat} (hg:v.ownBlock=some g) (hg':v'.ownBlock=some g'):g≠g':=by
 intro hh;subst hh
 obtain⟨c,hc⟩:=jZ h hg
 obtain⟨c',hc'⟩:=jZ h' hg'
 rw[hc] at hc';simp at hc';exact he hc'.2
def eG (c:UInt8):Value:=.int .u8 c.toNat
def gB (w:World) (lo:Nat) (v:Value) (L:List UInt8):Prop:=w.ownsRow lo 5 1 v L.length (L.map eG)
theorem gB.same {w w':World} {lo:Nat} {v:Value} {L:List UInt8} (h:gB w lo v L) (hb:Below w.heap.size w w'):gB w' lo v L :=
 au h (fun g hg=>hb.block g (h.lt g hg).2)
structure Grew (w w':World) (v v':Value):Prop where
 g:w.grownBy w' v.ownBlock
 b:∀ k,v'.ownBlock=some k→v.ownBlock=some k∨w.heap.size≤k
theorem Grew.refl (w:World) (v:Value):Grew w w v v:=⟨World.grownBy.refl _ _,fun _ hk=>Or.inl hk⟩
theorem Grew.trans {w w1 w2:World} {v v1 v2:Value} (h:Grew w w1 v v1) (k:Grew w1 w2 v1 v2):Grew w w2 v v2:=by
 refine⟨⟨k.g.os.trans h.g.os,k.g.tape.trans h.g.tape,k.g.output.trans h.g.output,Nat.le_trans h.g.size k.g.size,fun q hq hne=>?_⟩,fun q hq=>?_⟩
 ·rw[k.g.block q (Nat.lt_of_lt_of_le hq h.g.size) (fun e=>?_),h.g.block q hq hne]
  rcases h.b q e.symm with e' | e'
  ·exact hne e'.symm
  ·omega
 ·rcases k.b q hq with e | e
  ·exact h.b q e
  ·exact Or.inr (Nat.le_trans h.g.size e)
theorem Grew.call {w w':World} {v:Value} (hb:Below w.heap.size w w'):Grew w w' v v:=⟨⟨hb.os,hb.tape,hb.output,hb.size,fun k hk _=>hb.block k hk⟩,fun _ hk=>Or.inl hk⟩
theorem Grew.below {w w':World} {v v':Value} {B:Nat} (h:Grew w w' v v') (hB:∀ k,v.ownBlock=some k→B≤k) (hw:B≤w.heap.size):Below B w w' :=
 (Below.refl B w).grown h.g hw hB
theorem Tryz.infoByte:(Tryz.prog.info? 5).map (fun i=>(i.zero,i.size,i.bytes))=some (some (.int .u8 0),1,1):=by kernel_rfl
theorem xM (w:World) {o:Oper} {a:Act} {K:Act→World→Prop} {Q:Exit→Act→World→Prop} (s x:Operand)
  (ho:o.op=.call { callee:=.builtin .append,args:=#[s,x],argTypes:=#[97,97] })
  (v:Value) (L:List UInt8) (lo:Nat) (hs:a.eval s=v) (hP:gB w lo v L) (v2:Value) (L2:List UInt8) (lo2:Nat) (hx:a.eval x=v2) (hP2:gB w lo2 v2 L2)
  (hlen:L.length+L2.length≤100000000000) (hlo:lo≤w.heap.size)
  (h:∀ a' c' w',gB w' lo (.slice a' (L++L2).length c') (L++L2)→Grew w w' v (.slice a' (L++L2).length c')→K (a.put o.dst (.slice a' (L++L2).length c')) w'):o.wp Tryz.prog a w K Q:=by
 obtain⟨iI,wX,hI0,hI1,hI2⟩:=info_parts Tryz.infoByte
 obtain⟨v',w',hr,h2,h3⟩:∃ v' w',(Builtin.append_ #[97,97] o.type #[v,v2]).run Tryz.prog w=.ok v' w'∧gB w' lo v' (L++L2)∧Grew w w' v v':=by
  rcases hP2.2 with⟨rfl,h0⟩ | ⟨g,cap,cur,hv2,_⟩
  ·have hL2:L2=[]:=List.eq_nil_of_length_eq_zero h0
   subst hL2
   exact⟨v,w,run_append_owned_none w lo 97 o.type 5 iI 1 underlying97 wX v L.length _ hP,by simpa using hP,Grew.refl _ _⟩
  ·subst hv2
   obtain⟨v',w',hr,h2,h3,_,h5⟩:=run_append_own_at (P:=Tryz.prog) w lo 97 o.type 5 iI (.int .u8 0) 1 1 underlying97 wX hI0 hI1 hI2 rfl (by decide) v L.length (L.map eG) hP ⟨g,0,none⟩ L2.length cap (L2.map eG) (by simp) (hP2.cells (g:=g) rfl) (fun u hu=>by obtain⟨q,_,rfl⟩:=List.mem_map.1 hu;rfl) (by unfold maxLen;omega) (by omega) hlo
   refine⟨v',w',hr,?_,h3,fun k hk=>?_⟩
   ·show w'.ownsRow _ _ _ _ _ _
    rw[List.length_append,List.map_append];exact h2
   ·rcases h5 with h5 | h5
    ·exact Or.inl (h5 ▸ hk)
    ·rw[hk] at h5;cases h5;exact Or.inr (Nat.le_refl _)
 obtain⟨a',c',hv'⟩:=ak h2
 subst hv'
 unfold Oper.wp execOp
 simp only[ho,resolve,invoke,builtin,Sem.run_bind,Sem.run_pure,Result.andThen_ok,List.map_toArray,List.map_cons,List.map_nil,hs,hx,hr]
 exact h a' c' w' h2 h3
theorem dG (w:World) {ops:Array Oper} {rest:List Oper} {o:Oper} {a:Act} {Q:Exit→Act→World→Prop} (hgd:o.guard=none) (s x:Operand)
  (ho:o.op=.call { callee:=.builtin .append,args:=#[s,x],argTypes:=#[97,97] })
  (v:Value) (L:List UInt8) (lo:Nat) (hs:a.eval s=v) (hP:gB w lo v L) (v2:Value) (L2:List UInt8) (lo2:Nat) (hx:a.eval x=v2) (hP2:gB w lo2 v2 L2)
  (hlen:L.length+L2.length≤100000000000) (hlo:lo≤w.heap.size)
  (h:∀ a' c' w',gB w' lo (.slice a' (L++L2).length c') (L++L2)→Grew w w' v (.slice a' (L++L2).length c')→wpList Tryz.prog ops Q rest (a.put o.dst (.slice a' (L++L2).length c')) w'):wpList Tryz.prog ops Q (o::rest) a w :=
 wpList_plain hgd fun _ hK=>xM w s x ho v L lo hs hP v2 L2 lo2 hx hP2 hlen hlo fun a' c' w' h2 h3=>hK _ _ (h a' c' w' h2 h3)
theorem mP (w:World) (c:UInt8) (z:Int) (hz:z=(c.toNat:Int)):gB (w.alloc (.cells #[.int .u8 z] 5)) w.heap.size (.slice (some ⟨w.heap.size,0,none⟩) 1 1) [c]:=by
 subst hz
 exact World.ownsRow_lit (base:=w.heap.size) (e:=5) (size:=1) w #[.int .u8 c.toNat] 1 (Nat.le_refl _) (by unfold maxLen;omega) rfl
theorem EZ (w:World) {o:Oper} {a:Act} {K:Act→World→Prop} {Q:Exit→Act→World→Prop} (s x:Operand) (t e:TypeId) (z:Value) (size bytes:Nat)
  (ho:o.op=.call { callee:=.builtin .append,args:=#[s,x],argTypes:=#[t,t] }) (ht:Tryz.prog.underlying t=some (.slice e)) (hi:(Tryz.prog.info? e).map (fun i=>(i.zero,i.size,i.bytes))=some (some z,size,bytes))
  (hzs:z.cells.size=size) (hsz:0<size) (v:Value) (n:Nat) (xs:List Value) (lo:Nat) (hs:a.eval s=v) (hP:w.ownsRow lo e size v n xs) (ad:Addr) (m c:Nat) (news:List Value) (hx:a.eval x=.slice (some ad) m c)
  (hl:news.length=m*size) (hnews:∀ j u,news[j]? = some u→w.cell? (ad.add j)=some u) (h1:∀ u∈news,u.oneCell'=true) (hlen:n+m≤maxLen) (hbytes:(n+m)*bytes≤140737488355328) (hlo:lo≤w.heap.size)
  (h:∀ a' c' w',w'.ownsRow lo e size (.slice a' (n+m) c') (n+m) (xs++news)→Grew w w' v (.slice a' (n+m) c')→K (a.put o.dst (.slice a' (n+m) c')) w'):o.wp Tryz.prog a w K Q:=by
 obtain⟨iI,wX,hI0,hI1,hI2⟩:=info_parts hi
 obtain⟨v',w',hr,h2,h3,_,h5⟩:=run_append_own_at (P:=Tryz.prog) w lo t o.type e iI z size bytes ht wX hI0 hI1 hI2 hzs hsz v n xs hP ad m c news hl hnews h1 hlen hbytes hlo
 obtain⟨a',c',hv'⟩:=ak h2
 subst hv'
 have hG:Grew w w' v (.slice a' (n+m) c'):=⟨h3,fun k hk=>by
  rcases h5 with h5 | h5
  ·exact Or.inl (h5 ▸ hk)
  ·rw[hk] at h5;cases h5;exact Or.inr (Nat.le_refl _)⟩
 unfold Oper.wp execOp
 simp only[ho,resolve,invoke,builtin,Sem.run_bind,Sem.run_pure,Result.andThen_ok,List.map_toArray,List.map_cons,List.map_nil,hs,hx,hr]
 exact h a' c' w' h2 hG
theorem fB (w:World) {ops:Array Oper} {rest:List Oper} {o:Oper} {a:Act} {Q:Exit→Act→World→Prop} (hgd:o.guard=none) (s x:Operand) (t e:TypeId) (z:Value) (size bytes:Nat)
  (ho:o.op=.call { callee:=.builtin .append,args:=#[s,x],argTypes:=#[t,t] }) (ht:Tryz.prog.underlying t=some (.slice e)) (hi:(Tryz.prog.info? e).map (fun i=>(i.zero,i.size,i.bytes))=some (some z,size,bytes))
  (hzs:z.cells.size=size) (hsz:0<size) (v:Value) (n:Nat) (xs:List Value) (lo:Nat) (hs:a.eval s=v) (hP:w.ownsRow lo e size v n xs) (ad:Addr) (m c:Nat) (news:List Value) (hx:a.eval x=.slice (some ad) m c)
  (hl:news.length=m*size) (hnews:∀ j u,news[j]? = some u→w.cell? (ad.add j)=some u) (h1:∀ u∈news,u.oneCell'=true) (N:Nat) (hN:n+m=N) (X:List Value) (hX:xs++news=X) (hlen:n+m≤maxLen) (hbytes:(n+m)*bytes≤140737488355328) (hlo:lo≤w.heap.size)
  (h:∀ a' c' w',w'.ownsRow lo e size (.slice a' N c') N X→Grew w w' v (.slice a' N c')→wpList Tryz.prog ops Q rest (a.put o.dst (.slice a' N c')) w'):wpList Tryz.prog ops Q (o::rest) a w:=by
 subst hN hX
 exact wpList_plain hgd fun _ hK=>EZ w s x t e z size bytes ho ht hi hzs hsz v n xs lo hs hP ad m c news hx hl hnews h1 hlen hbytes hlo fun a' c' w' h2 h3=>hK _ _ (h a' c' w' h2 h3)
end Go.Proofs.YtgalebcpagmohaaGreatDoor
namespace Go.Proofs.YtgalebcpagmohaaGreatDoor
open Go.Proofs.Tryz
def aS (sm:List UInt8→List UInt8) (P:List UInt8):List UInt8:=(P.length.toUInt8::P)++sm (P.length.toUInt8::P)
def okB (n:Nat):Bool:=decide (1≤n)&&decide (n≤120)
theorem jk {n:Nat}:okB n=true↔1≤n∧n≤120:=by simp[okB]
def iO (sm:List UInt8→List UInt8) (F:List UInt8):Option (List UInt8) :=
 if 5≤F.length∧okB (F.length-5)=true∧aS sm ((F.drop 1).take (F.length-5))=F then some ((F.drop 1).take (F.length-5)) else none
abbrev St := Option (List UInt8)
def JG (sm:List UInt8→List UInt8) (H:List UInt8) (b:UInt8):St × Option (List UInt8) :=
 if okB ((H++[b]).headD 0).toNat=true then
  if (H++[b]).length<5+((H++[b]).headD 0).toNat then(some (H++[b]),none)
  else match iO sm (H++[b]) with
   | some P=>(some [],some P)
   | none=>(none,none)
 else(none,none)
def jw (sm:List UInt8→List UInt8) (x:List (List UInt8) × St) (b:UInt8):List (List UInt8) × St :=
 match x.2 with
 | none=>x
 | some H=>(x.1++(JG sm H b).2.toList,(JG sm H b).1)
def bP (sm:List UInt8→List UInt8) (s:St) (L:List UInt8):List (List UInt8) × St:=L.foldl (jw sm) ([],s)
section
variable {sm:List UInt8→List UInt8}
theorem Ul (a:List (List UInt8)) (s:St) (b:UInt8):jw sm (a,s) b=(a++(jw sm ([],s) b).1,(jw sm ([],s) b).2):=by
 cases s<;>simp[jw]
theorem fold_acc:∀ (L:List UInt8) (a:List (List UInt8)) (s:St),L.foldl (jw sm) (a,s)=(a++(bP sm s L).1,(bP sm s L).2)
 | [],a,s=>by simp[bP]
 | b::r,a,s=>by
  have h1:=Ul (sm:=sm) a s b
  have h2:=fold_acc r (a++(jw sm ([],s) b).1) (jw sm ([],s) b).2
  have h3:=fold_acc r (jw sm ([],s) b).1 (jw sm ([],s) b).2
  show r.foldl (jw sm) (jw sm (a,s) b)=_
  have h4:bP sm s (b::r)=r.foldl (jw sm) (jw sm ([],s) b):=rfl
  rw[h4,h1,h2]
  rw[show jw sm ([],s) b=((jw sm ([],s) b).1,(jw sm ([],s) b).2) from rfl,h3]
  simp
theorem zW (s:St) (L M:List UInt8):bP sm s (L++M)=((bP sm s L).1++(bP sm (bP sm s L).2 M).1,(bP sm (bP sm s L).2 M).2):=by
 unfold bP
 rw[List.foldl_append]
 exact fold_acc M _ _
theorem feed_bad:∀ (L:List UInt8),bP sm none L=([],none)
 | []=>rfl
 | _::r=>feed_bad r
theorem JH (s:St):bP sm s []=([],s):=rfl
theorem vK (s:St) (L:List UInt8) (b:UInt8):bP sm s (L++[b])=jw sm (bP sm s L) b:=by
 unfold bP;rw[List.foldl_append];rfl
theorem nR (hsm:∀ L,(sm L).length=4) (P:List UInt8):(aS sm P).length=P.length+5:=by simp[aS,hsm]
theorem zX (P:List UInt8):(aS sm P).headD 0=P.length.toUInt8:=by simp[aS]
theorem Hw {n:Nat} (h:n≤120):n.toUInt8.toNat=n:=by simp[Nat.toUInt8,UInt8.toNat_ofNat'];omega
theorem Hy (hsm:∀ L,(sm L).length=4) (P:List UInt8) (h:okB P.length=true):iO sm (aS sm P)=some P:=by
 have hl:=nR hsm P
 have he:((aS sm P).drop 1).take ((aS sm P).length-5)=P:=by
  rw[hl];simp[aS]
 unfold iO
 rw[he,if_pos ⟨by omega,by rw[hl];simpa using h,rfl⟩]
theorem zY (hsm:∀ L,(sm L).length=4) (P:List UInt8) (h:okB P.length=true):∀ k,k<P.length+5→bP sm (some []) ((aS sm P).take k)=([],some ((aS sm P).take k))
 | 0,_=>rfl
 | k+1,hk=>by
  have hl:=nR hsm P
  have hh:=zX (sm:=sm) P
  have ih:=zY hsm P h k (by omega)
  have hok:=jk.1 h
  have hlt:k<(aS sm P).length:=by omega
  have e:(aS sm P).take (k+1)=(aS sm P).take k++[(aS sm P)[k]]:=List.take_succ_eq_append_getElem hlt
  rw[e,vK,ih]
  have hd:(((aS sm P).take k++[(aS sm P)[k]]).headD 0).toNat=P.length:=by
   rw[← e]
   have:((aS sm P).take (k+1)).headD 0=(aS sm P).headD 0:=by
    cases hF:aS sm P with
    | nil=>rw[hF] at hl;simp at hl
    | cons c r=>rfl
   rw[this,hh];exact Hw hok.2
  have hlen:((aS sm P).take k++[(aS sm P)[k]]).length=k+1:=by rw[← e,List.length_take];omega
  simp only[jw,JG]
  rw[hd,if_pos h,hlen,if_pos (by omega)]
  rfl
theorem BP (hsm:∀ L,(sm L).length=4) (P:List UInt8) (h:okB P.length=true):bP sm (some []) (aS sm P)=([P],some []):=by
 have hl:=nR hsm P
 have hh:=zX (sm:=sm) P
 have hok:=jk.1 h
 have ih:=zY hsm P h (P.length+4) (by omega)
 have hlt:P.length+4<(aS sm P).length:=by omega
 have e:aS sm P=(aS sm P).take (P.length+4)++[(aS sm P)[P.length+4]]:=by
  rw[← List.take_succ_eq_append_getElem hlt,List.take_of_length_le (by omega)]
 have key:bP sm (some []) ((aS sm P).take (P.length+4)++[(aS sm P)[P.length+4]])=([P],some []):=by
  rw[vK,ih]
  simp only[jw,JG]
  rw[← e,hh,Hw hok.2,if_pos h,hl,if_neg (by omega),Hy hsm P h]
  rfl
 rw[← e] at key
 exact key
end
end Go.Proofs.YtgalebcpagmohaaGreatDoor
namespace Go.Proofs.YtgalebcpagmohaaGreatDoor
open Go.Proofs.Tryz
open Go.RowKit
def Rd (w:World) (v:Value) (L:List UInt8):Prop :=
 (v=.slice none 0 0∧L=[])∨∃ a c,v=.slice (some a) L.length c∧∀ j u,(L.map eG)[j]? = some u→w.cell? (a.add j)=some u
theorem Rd.slice {w:World} {v:Value} {L:List UInt8} (h:Rd w v L):∃ a c,v=.slice a L.length c:=by
 rcases h with⟨rfl,rfl⟩ | ⟨a,c,rfl,_⟩
 ·exact⟨none,0,rfl⟩
 ·exact⟨_,_,rfl⟩
theorem gB.rd {w:World} {lo:Nat} {v:Value} {L:List UInt8} (h:gB w lo v L):Rd w v L:=by
 rcases h.2 with⟨rfl,h0⟩ | ⟨g,cap,cur,hv,r⟩
 ·exact Or.inl ⟨rfl,List.eq_nil_of_length_eq_zero h0⟩
 ·exact Or.inr ⟨_,_,hv,fun j u hu=>h.cells (g:=g) (by rw[hv];rfl) j u hu⟩
theorem jO (a:Addr) (j:Nat) (h:a.spot=none):a.add j=⟨a.block,a.off+j,none⟩:=by
 obtain⟨b,o,s⟩:=a
 simp only at h
 subst h
 unfold Addr.add
 split<;>simp_all
theorem Rd.at {w:World} {v:Value} {L:List UInt8} (h:Rd w v L) (h0:0<L.length):∃ b o c,v=.slice (some ⟨b,o,none⟩) L.length c∧b<w.heap.size∧∀ j (hj:j<L.length),w.cell? ⟨b,o+j,none⟩=some (.int .u8 (L[j].toNat:Int)):=by
 rcases h with⟨_,rfl⟩ | ⟨a,c,rfl,hc⟩
 ·simp at h0
 ·obtain⟨b,o,s⟩:=a
  have h1:=hc 0 (eG L[0]) (by simp[List.getElem?_eq_getElem h0])
  have h2:(⟨b,o,s⟩:Addr).add 0=⟨b,o,s⟩:=by unfold Addr.add;simp
  rw[h2] at h1
  have hs:s=none:=World.cell?_spot h1
  subst hs
  refine⟨b,o,c,rfl,World.block_lt_of_cell? _ _ h1,fun j hj=>?_⟩
  have:=hc j (eG L[j]) (by simp[List.getElem?_eq_getElem hj])
  rw[jO _ _ rfl] at this
  exact this
theorem Rd.same {w w':World} {v:Value} {L:List UInt8} (h:Rd w v L) {B:Nat} (hb:Below B w w') (hB:∀ k,v.ownBlock=some k→0<L.length→k<B):Rd w' v L:=by
 rcases h with h | ⟨a,c,rfl,hc⟩
 ·exact Or.inl h
 ·refine Or.inr ⟨a,c,rfl,fun j u hu=>?_⟩
  have hl:0<L.length:=by
   rcases Nat.eq_zero_or_pos L.length with e | e
   ·have:=List.eq_nil_of_length_eq_zero e;subst this;simp at hu
   ·exact e
  have h1:=hc j u hu
  have h2:(a.add j).block=a.block:=by unfold Addr.add;split<;>rfl
  rw[hb.cell (p:=a.add j) (by rw[h2];exact hB a.block rfl hl)]
  exact h1
theorem Rd.lt {w:World} {v:Value} {L:List UInt8} (h:Rd w v L):∀ k,v.ownBlock=some k→0<L.length→k<w.heap.size:=by
 intro k hk hl
 obtain⟨b,o,c,rfl,hb,_⟩:=h.at hl
 simp[Value.ownBlock] at hk
 omega
theorem Rd.later {w w':World} {v:Value} {L:List UInt8} (h:Rd w v L) (hb:Below w.heap.size w w'):Rd w' v L:=h.same hb h.lt
def strOf (L:List UInt8):ByteArray:=⟨L.toArray⟩
theorem Nr (L:List UInt8):strOfNums (L.map fun c=>(c.toNat:Int))=strOf L:=by
 unfold strOfNums strOf
 congr 2
 rw[List.map_map]
 conv=>rhs;rw[← List.map_id L]
 apply List.map_congr_left
 intro c _
 simp
theorem xO (L:List UInt8):(strOf L).toList=L:=by rw[ByteArray.toList_eq];rfl
theorem Rd.conv {w:World} {v:Value} {L:List UInt8} (h:Rd w v L):(convert 97 9 v).run Tryz.prog w=.ok (.string (strOf L)) w:=by
 rcases h with⟨rfl,rfl⟩ | ⟨a,c,rfl,hc⟩
 ·exact run_convert_bytes_nil (P:=Tryz.prog) w 97 5 underlying97 underlying5 0 0 9 underlying9
 ·have hl:(loadCells a L.length).run Tryz.prog w=.ok ((L.map fun c=>(c.toNat:Int)).map (Value.int .u8)).toArray w:=by
   have:=run_loadCells_list (P:=Tryz.prog) w a ((L.map fun c=>(c.toNat:Int)).map (Value.int .u8)) (fun j u hj=>hc j u (by rw[List.map_map] at hj;exact hj))
   simpa using this
  rw[run_convert_bytes_string w 97 9 5 _ L.length c underlying97 underlying5 underlying9,run_bytesToString w _ L.length c _ hl,foldl_push_bytes]
  have e:=Nr L
  unfold strOfNums at e
  simp only[ByteArray.empty,ByteArray.emptyWithCapacity]
  rw[← e]
  simp
  rfl
theorem Hz (w:World) {o:Oper} {a:Act} {K:Act→World→Prop} {Q:Exit→Act→World→Prop} (s x:Operand)
  (ho:o.op=.call { callee:=.builtin .append,args:=#[s,x],argTypes:=#[97,97] })
  (v:Value) (L:List UInt8) (lo:Nat) (hs:a.eval s=v) (hP:gB w lo v L) (v2:Value) (L2:List UInt8) (hx:a.eval x=v2) (hP2:Rd w v2 L2)
  (hlen:L.length+L2.length≤100000000000) (hlo:lo≤w.heap.size)
  (h:∀ a' c' w',gB w' lo (.slice a' (L++L2).length c') (L++L2)→Grew w w' v (.slice a' (L++L2).length c')→K (a.put o.dst (.slice a' (L++L2).length c')) w'):o.wp Tryz.prog a w K Q:=by
 obtain⟨iI,wX,hI0,hI1,hI2⟩:=info_parts Tryz.infoByte
 obtain⟨v',w',hr,h2,h3⟩:∃ v' w',(Builtin.append_ #[97,97] o.type #[v,v2]).run Tryz.prog w=.ok v' w'∧gB w' lo v' (L++L2)∧Grew w w' v v':=by
  rcases hP2 with⟨rfl,rfl⟩ | ⟨ad,cap,hv2,hc2⟩
  ·exact⟨v,w,run_append_owned_none w lo 97 o.type 5 iI 1 underlying97 wX v L.length _ hP,by simpa using hP,Grew.refl _ _⟩
  ·subst hv2
   obtain⟨v',w',hr,h2,h3,_,h5⟩:=run_append_own_at (P:=Tryz.prog) w lo 97 o.type 5 iI (.int .u8 0) 1 1 underlying97 wX hI0 hI1 hI2 rfl (by decide) v L.length (L.map eG) hP ad L2.length cap (L2.map eG) (by simp) hc2 (fun u hu=>by obtain⟨q,_,rfl⟩:=List.mem_map.1 hu;rfl) (by unfold maxLen;omega) (by omega) hlo
   refine⟨v',w',hr,?_,h3,fun k hk=>?_⟩
   ·show w'.ownsRow _ _ _ _ _ _
    rw[List.length_append,List.map_append];exact h2
   ·rcases h5 with h5 | h5
    ·exact Or.inl (h5 ▸ hk)
    ·rw[hk] at h5;cases h5;exact Or.inr (Nat.le_refl _)
 obtain⟨a',c',hv'⟩:=ak h2
 subst hv'
 unfold Oper.wp execOp
 simp only[ho,resolve,invoke,builtin,Sem.run_bind,Sem.run_pure,Result.andThen_ok,List.map_toArray,List.map_cons,List.map_nil,hs,hx,hr]
 exact h a' c' w' h2 h3
theorem eH (w:World) {ops:Array Oper} {rest:List Oper} {o:Oper} {a:Act} {Q:Exit→Act→World→Prop} (hgd:o.guard=none) (s x:Operand)
  (ho:o.op=.call { callee:=.builtin .append,args:=#[s,x],argTypes:=#[97,97] })
  (v:Value) (L:List UInt8) (lo:Nat) (hs:a.eval s=v) (hP:gB w lo v L) (v2:Value) (L2:List UInt8) (hx:a.eval x=v2) (hP2:Rd w v2 L2) (M:List UInt8) (hM:L++L2=M)
  (hlen:L.length+L2.length≤100000000000) (hlo:lo≤w.heap.size)
  (h:∀ a' c' w',gB w' lo (.slice a' M.length c') M→Grew w w' v (.slice a' M.length c')→wpList Tryz.prog ops Q rest (a.put o.dst (.slice a' M.length c')) w'):wpList Tryz.prog ops Q (o::rest) a w:=by
 subst hM
 exact wpList_plain hgd fun _ hK=>Hz w s x ho v L lo hs hP v2 L2 hx hP2 hlen hlo fun a' c' w' h2 h3=>hK _ _ (h a' c' w' h2 h3)
theorem XR (a:Option Addr) (l c:Nat) (w:World):(binOp .eql 97 (.slice a l c) (.slice none 0 0)).run Tryz.prog w=.ok (.bool a.isNone) w:=by
 have h1:∀ d:Nat,(Op.equalIn (d+1) 97 (.slice a l c) (.slice none 0 0)).run Tryz.prog w=.ok a.isNone w:=fun d=>by cases a<;>simp[Op.equalIn,run_underlying underlying97]
 have h2:(Op.equal 97 (.slice a l c) (.slice none 0 0)).run Tryz.prog w=.ok a.isNone w:=h1 9999
 simp[binOp,h2]
theorem H8 (w:World) (L:List UInt8) (cs:Array Value) (h:cs.toList=L.map eG) (hm:L.length≤100):gB (w.alloc (.cells cs 5)) w.heap.size (.slice (some ⟨w.heap.size,0,none⟩) L.length L.length) L:=by
 have:=World.ownsRow_lit (base:=w.heap.size) (e:=5) (size:=1) w cs L.length (Nat.le_refl _) (by unfold maxLen;omega) (by have:=congrArg List.length h;simpa using this)
 rw[h] at this
 exact this
theorem qF (n:Int) (w:World) :
  Calls Tryz.prog 163 #[.int .i64 n] w fun e w'=>e=.returned (.bool (decide (1≤n)&&decide (n≤120)))∧w'=w:=by
 go_enter func163,ntmps163
 go_wp2
 ·have h:1≤n:=by assumption
  go_ret
  exact⟨aG (by simp[h]),rfl⟩
 ·have h:n<1:=by assumption
  go_ret
  exact⟨aG (by simp;omega),rfl⟩
theorem BR (w:World) (v v2:Value) (L M:List UInt8) (h:Rd w v L) (h2:Rd w v2 M) :
  Calls Tryz.prog 198 #[v,v2] w fun e w'=>e=.returned (.bool (decide (L=M)))∧w'=w:=by
 have hc:=h.conv
 have hc2:=h2.conv
 go_enter func198,ntmps198
 go_wp2
 go_ret
 exact⟨aG (by rw[Bool.eq_iff_iff];simp[xO]),rfl⟩
def H9 (z:Int):Int:=bif (bits BinOp.and IntKind.u32 z 1==1) then bits BinOp.xor IntKind.u32 (z / 2) 3988292384 else z / 2
def Bg:Nat→Int→Int
 | 0,z=>z
 | n+1,z=>H9 (Bg n z)
def Um (z:Int) (c:UInt8):Int:=Bg 8 (bits BinOp.xor IntKind.u32 z ((c.toNat:Int) % 4294967296))
def qE (L:List UInt8):Int:=L.foldl Um 4294967295
def zo (L:List UInt8):Int:=bits BinOp.xor IntKind.u32 IntKind.u32.max (qE L)
theorem uz (op:BinOp) (x y:Int):0≤bits op IntKind.u32 x y∧bits op IntKind.u32 x y<4294967296:=by
 unfold bits
 have:∀ n:Int,0≤IntKind.u32.wrap n∧IntKind.u32.wrap n<4294967296:=fun n=>by
  have e:IntKind.u32.wrap n=n % 4294967296:=by unfold IntKind.wrap;simp[IntKind.bits,IntKind.signed]
  rw[e];omega
 exact this _
theorem XT {z:Int} (h:0≤z∧z<4294967296):0≤H9 z∧H9 z<4294967296:=by
 unfold H9
 cases (bits BinOp.and IntKind.u32 z 1==1)
 ·simp only[cond_false];omega
 ·rw[cond_true];exact uz _ _ _
theorem BD:∀ (n:Nat) {z:Int},0≤z∧z<4294967296→0≤Bg n z∧Bg n z<4294967296
 | 0,_,h=>h
 | n+1,_,h=>XT (BD n h)
theorem XU (z:Int) (c:UInt8):0≤Um z c∧Um z c<4294967296:=BD 8 (uz _ _ _)
theorem BF (L:List UInt8):0≤qE L∧qE L<4294967296:=by
 unfold qE
 rcases List.eq_nil_or_concat L with rfl | ⟨M,c,rfl⟩
 ·simp
 ·rw[List.concat_eq_append,List.foldl_append];exact XU _ _
theorem QJ (w:World) (v:Value) (L:List UInt8) (h:Rd w v L) (hl:L.length≤1000000) :
  Calls Tryz.prog 164 #[v] w fun e w'=>e=.returned (.int .u32 (zo L))∧w'=w:=by
 obtain⟨a,c,rfl⟩:=h.slice
 have H:=hid h
 clear h
 go_enter func164,ntmps164
 go_wp2
 go_loop [3,5,6,9] (fun r x5 x6 i=>∃ k:Nat,k≤L.length∧i=.int .i64 k∧r=.int .u32 (qE (L.take k))) (fun _ _ _ i=>L.length-(intOf i).toNat)
 case atStart=>exact⟨0,Nat.zero_le _,rfl,rfl⟩
 case round=>
  obtain⟨k,hk,rfl,rfl⟩:=hrel
  have hbd:=BF (L.take k)
  by_cases hlt:k<L.length
  ·obtain⟨b,o,c',hv,hb,hc⟩:=H.out.at (by omega)
   obtain⟨rfl,rfl⟩:a=some ⟨b,o,none⟩∧c=c':=by simpa using hv
   have hck:=hc k hlt
   have HS:=hid (show qE (L.take (k+1))=Um (qE (L.take k)) L[k] by unfold qE;rw[List.take_succ_eq_append_getElem hlt,List.foldl_append];rfl)
   generalize qE (L.take k)=z at *
   generalize L[k]=d at *
   clear hc
   go_wp2_with fail
   go_loop [3,6,17] (fun r x6 j=>∃ q:Nat,q≤8∧j=.int .i64 q∧r=.int .u32 (Bg q (bits BinOp.xor IntKind.u32 z ((d.toNat:Int) % 4294967296)))) (fun _ _ j=>8-(intOf j).toNat)
   case atStart=>exact⟨0,Nat.zero_le _,rfl,rfl⟩
   case round=>
    obtain⟨q,hq,rfl,rfl⟩:=hrel
    have hbq:=BD q (uz BinOp.xor z ((d.toNat:Int) % 4294967296))
    by_cases hlt':q<8
    ·have HQ:=hid (show Bg (q+1) (bits BinOp.xor IntKind.u32 z ((d.toNat:Int) % 4294967296))=H9 (Bg q (bits BinOp.xor IntKind.u32 z ((d.toNat:Int) % 4294967296))) from rfl)
     generalize Bg q (bits BinOp.xor IntKind.u32 z ((d.toNat:Int) % 4294967296))=y at *
     have HC:=hid (show H9 y=bif (bits BinOp.and IntKind.u32 y 1==1) then bits BinOp.xor IntKind.u32 (y / 2) 3988292384 else y / 2 from rfl)
     go_wp2_with fail
     ·have ht:(bits BinOp.and IntKind.u32 y 1==1)=true:=by assumption
      go_round
      case rel=>exact⟨q+1,by omega,by go_num,by rw[HQ.out,HC.out,ht];rfl⟩
      case measure=>simp[intOf];omega
     ·have ht:(bits BinOp.and IntKind.u32 y 1==1)=false:=by assumption
      go_round
      case rel=>exact⟨q+1,by omega,by go_num,by rw[HQ.out,HC.out,ht];rfl⟩
      case measure=>simp[intOf];omega
    ·obtain rfl:q=8:=by omega
     go_wp2_with fail
     go_round
     case rel=>exact⟨k+1,by omega,by go_num,by rw[HS.out];rfl⟩
     case measure=>simp[intOf];omega
  ·go_wp2_with fail
   go_ret
   exact⟨o8 (by rw[List.take_of_length_le (by omega)];rfl),rfl⟩
def bK (L:List UInt8):List UInt8:=[(zo L / 16777216).toNat.toUInt8,(zo L / 65536).toNat.toUInt8,(zo L / 256).toNat.toUInt8,(zo L).toNat.toUInt8]
theorem rF (L:List UInt8):(bK L).length=4:=rfl
def JI (w:World) (P:List UInt8) (e:Ending) (w':World):Prop :=
 Below w.heap.size w w'∧bif okB P.length then ∃ a c,e=.returned (.tuple #[.slice a (aS bK P).length c,.int .i64 0])∧gB w' w.heap.size (.slice a (aS bK P).length c) (aS bK P)
  else e=.returned (.tuple #[.slice none 0 0,.int .i64 7])
theorem BU (w:World) (v:Value) (L:List UInt8) (h:Rd w v L) (h0:0<L.length) (hl:L.length≤1000000000) :
  Calls Tryz.prog 197 #[v] w fun e w'=>∃ a c,e=.returned (.slice a L.length c)∧gB w' w.heap.size (.slice a L.length c) L∧Below w.heap.size w w':=by
 obtain⟨b,o,c,rfl,hb,_⟩:=h.at h0
 have H:=hid h
 clear h
 have hq:=XR (some ⟨b,o,none⟩) L.length c w
 go_enter func197,ntmps197
 go_wp2_with (at_builtin;refine eH _ rfl _ _ rfl _ [] w.heap.size rfl (H8 _ [] _ rfl (by simp)) _ L rfl (H.out.later ((Below.refl _ _).alloc (Nat.le_refl _) _)) L rfl (by simp;omega) (by simp) ?_)
 intro a1 c1 w1 hb1 hg1
 have hbel:Below w.heap.size w w1:=((Below.refl _ _).alloc (Nat.le_refl _) _).trans (hg1.below (fun k hk=>by simp[Value.ownBlock] at hk;omega) (by simp))
 go_wp2_with fail
 go_ret
 exact⟨a1,c1,rfl,hb1,hbel⟩
theorem wrap_any (w:World) (v:Value) (P:List UInt8) (h:Rd w v P) (hl:P.length≤maxLen) :
  Calls Tryz.prog 107 #[v] w (JI w P):=by
 obtain⟨pa,pc,rfl⟩:=h.slice
 unfold maxLen at hl
 have H:=hid h
 clear h
 by_cases hok:okB P.length=true
 ·have hb:=jk.1 hok
  have hi:(decide (1≤(P.length:Int))&&decide ((P.length:Int)≤120))=true:=by simp;omega
  have HO:=hid hok
  clear hok
  go_enter func107,ntmps107
  go_wp2_with fail
  refine(qF _ _).mono ?_;rintro e w1 ⟨rfl,rfl⟩
  rw[hi]
  have hM0:([P.length.toUInt8]++P).length≤121:=by simp;omega
  have XV:=hid (show aS bK P=([P.length.toUInt8]++P)++bK ([P.length.toUInt8]++P) from rfl)
  obtain⟨M,HM⟩:∃ M,Hid ([P.length.toUInt8]++P=M):=⟨_,rfl⟩
  have hM:M.length≤121:=by rw[← HM.out];exact hM0
  have HF:Hid (aS bK P=M++bK M):=by rw[← HM.out];exact XV
  clear hM0 XV
  go_wp2_with (at_builtin;refine eH _ rfl (.tmp 13) (.tmp 14) rfl _ [P.length.toUInt8] w1.heap.size rfl (mP _ _ _ (by rw[Hw hb.2])) _ P rfl (H.out.later ((Below.refl _ _).alloc (Nat.le_refl _) _)) M HM.out (by rw[List.length_singleton];omega) (by simp) ?_)
  intro a1 c1 w2 hb2 hg2
  have iQ:Below w1.heap.size w1 w2:=((Below.refl _ _).alloc (Nat.le_refl _) _).trans (hg2.below (fun k hk=>by simp[Value.ownBlock] at hk;omega) (by simp))
  have hz2:=iQ.size
  have HB2:=hid hb2
  clear hb2 hg2
  go_wp2_with fail
  refine(QJ _ _ M HB2.out.rd (by omega)).mono ?_;rintro e w3 ⟨rfl,rfl⟩
  have hsb:0≤zo M∧zo M<4294967296:=uz _ _ _
  have HS:=hid (show bK M=[(zo M / 16777216).toNat.toUInt8,(zo M / 65536).toNat.toUInt8,(zo M / 256).toNat.toUInt8,(zo M).toNat.toUInt8] from rfl)
  generalize zo M=z at *
  obtain⟨FF,QK⟩:∃ FF,Hid (M++bK M=FF):=⟨_,rfl⟩
  have HF2:Hid (aS bK P=FF):=HF.out.trans QK.out
  go_wp2_with (at_builtin;refine eH _ rfl (.tmp 18) (.tmp 30) rfl _ M w1.heap.size rfl (HB2.out.same ((Below.refl _ _).alloc (Nat.le_refl _) _)) _ (bK M) rfl (H8 _ (bK M) _ (by rw[HS.out];simp[eG];omega) (by rw[HS.out];simp)).rd FF QK.out (by rw[HS.out];simp;omega) (by simp;omega) ?_)
  intro a3 c3 w4 hb4 hg4
  have JJ:Below w1.heap.size w1 w4:=(iQ.alloc hz2 _).trans (hg4.below (fun k hk=>(HB2.out.lt k hk).1) (by simp;omega))
  have HB4:=hid hb4
  clear hb4 hg4
  go_wp2_with fail
  go_ret2
  refine⟨JJ,?_⟩
  rw[HO.out,HF2.out]
  exact⟨a3,c3,rfl,HB4.out⟩
 ·have hno:okB P.length=false:=by simpa using hok
  have hi:(decide (1≤(P.length:Int))&&decide ((P.length:Int)≤120))=false:=by
   rw[← hno];unfold okB;rw[Bool.eq_iff_iff];simp;omega
  have HO:=hid hno
  clear hok hno
  go_enter func107,ntmps107
  go_wp2_with fail
  refine(qF _ _).mono ?_;rintro e w1 ⟨rfl,rfl⟩
  rw[hi]
  go_wp2_with fail
  go_ret2
  refine⟨Below.refl _ _,?_⟩
  rw[HO.out]
  rfl
def Ns (w:World) (F:List UInt8) (e:Ending) (w':World):Prop :=
 Below w.heap.size w w'∧match iO bK F with
  | some P=>∃ a c,e=.returned (.tuple #[.slice a P.length c,.bool true])∧gB w' w.heap.size (.slice a P.length c) P
  | none=>e=.returned (.tuple #[.slice none 0 0,.bool false])
theorem Rd.piece {w:World} {b o:Nat} {L:List UInt8} (h:∀ j (hj:j<L.length),w.cell? ⟨b,o+j,none⟩=some (.int .u8 (L[j].toNat:Int))) (i n c':Nat) (hi:i+n≤L.length):Rd w (.slice (some ⟨b,o+i,none⟩) n c') ((L.drop i).take n):=by
 have hlen:((L.drop i).take n).length=n:=by simp;omega
 refine Or.inr ⟨⟨b,o+i,none⟩,c',by rw[hlen],fun j u hu=>?_⟩
 have hj:j<n:=by
  rcases Nat.lt_or_ge j n with h | h
  ·exact h
  ·rw[List.getElem?_eq_none (by simp;omega)] at hu;cases hu
 rw[jO _ _ rfl]
 have h1:=h (i+j) (by omega)
 have e:((L.drop i).take n)[j]? = some L[i+j]:=by
  rw[List.getElem?_take_of_lt hj,List.getElem?_drop,List.getElem?_eq_getElem (by omega)]
 rw[List.getElem?_map,e] at hu
 simp at hu
 subst hu
 rw[← Nat.add_assoc] at h1
 exact h1
theorem Nu (w:World) (a:Option Addr) (c:Nat) (F:List UInt8) (h:Rd w (.slice a F.length c) F) (hl:F.length≤maxLen) (hcap:F.length≤c) :
  Calls Tryz.prog 144 #[.slice a F.length c] w (Ns w F):=by
 unfold maxLen at hl
 have H:=hid h
 clear h
 by_cases hok:5≤F.length∧okB (F.length-5)=true
 ·have hb:=jk.1 hok.2
  obtain⟨b,o,c',hv,hbl,hc⟩:=H.out.at (by omega)
  obtain⟨rfl,rfl⟩:a=some ⟨b,o,none⟩∧c=c':=by simpa using hv
  have hRd:=Rd.piece hc 1 (F.length-5) (c-1) (by omega)
  have hi:(decide (1≤((F.length-5:Nat):Int))&&decide (((F.length-5:Nat):Int)≤120))=true:=by simp;omega
  have hn:F.length-5≤120:=hb.2
  have hn1:1≤F.length-5:=hb.1
  have XC:F.length=(F.length-5)+5:=by omega
  have HP:=hid (show ((F.drop 1).take (F.length-5)).length=F.length-5 by simp;omega)
  have HU:=hid (show iO bK F=if aS bK ((F.drop 1).take (F.length-5))=F then some ((F.drop 1).take (F.length-5)) else none by
   unfold iO;simp[hok.1,hok.2])
  generalize (F.drop 1).take (F.length-5)=P at *
  have HRd:=hid hRd
  clear hRd hv
  generalize F.length-5=n at *
  have HFl:=hid XC
  rw[XC]
  have hs1:1+(n:Int)≤(c:Int):=by omega
  have hs0:0≤1+(n:Int):=by omega
  have hs2:¬ c=1:=by omega
  clear XC hl hok hb hc hcap
  go_enter func144,ntmps144
  go_wp2_with fail
  rw[show (n:Int)+5-1-4=(n:Int) by omega]
  refine(qF _ _).mono ?_;rintro e w1 ⟨rfl,rfl⟩
  rw[hi]
  go_wp2_with fail
  have hz:(1+(n:Int)).toNat-1=n:=by omega
  first | rw[hz] | skip
  refine(BU _ _ P (by first | exact HRd.out | (rw[HP.out];exact HRd.out)) (by rw[HP.out];omega) (by rw[HP.out];omega)).mono ?_;rintro e w2 ⟨a2,c2,rfl,hB2,iQ⟩
  have HB2:=hid hB2
  clear hB2
  have hPl:P.length≤maxLen:=by rw[HP.out];unfold maxLen;omega
  have abY:okB P.length=true:=by rw[HP.out];exact jk.2 ⟨hn1,hn⟩
  have BX:=hid abY
  clear abY
  go_wp2_with fail
  refine(wrap_any _ _ P HB2.out.rd hPl).mono ?_;rintro e w3 ⟨qG,hq⟩
  rw[BX.out] at hq
  obtain⟨a3,c3,rfl,hB3⟩:=hq
  have HB3:=hid hB3
  have Nv:=iQ.trans (qG.mono iQ.size)
  have HF3:=hid (show Rd w3 (.slice (some ⟨b,o,none⟩) F.length c) F from H.out.later Nv)
  have aex:=hid (HB2.out.same qG)
  clear hB3
  rw[HFl.out] at HF3
  go_wp2_with fail
  refine(BR _ _ _ (aS bK P) F HB3.out.rd HF3.out).mono ?_;rintro e w4 ⟨rfl,rfl⟩
  by_cases hE:aS bK P=F
  ·have HE:=hid hE
   have hd:decide (aS bK P=F)=true:=by simp[hE]
   rw[hd]
   clear hE hd
   go_wp2_with fail
   go_ret2
   refine⟨Nv,?_⟩
   rw[HU.out,if_pos HE.out]
   exact⟨a2,c2,rfl,aex.out⟩
  ·have HE:=hid hE
   have hd:decide (aS bK P=F)=false:=by simp[hE]
   rw[hd]
   clear hE hd
   go_wp2_with fail
   go_ret2
   refine⟨Nv,?_⟩
   rw[HU.out,if_neg HE.out]
   rfl
 ·have HU:=hid (show iO bK F=none by
   unfold iO;rw[if_neg];intro h;exact hok ⟨h.1,h.2.1⟩)
  have hi:(decide (1≤(F.length:Int)-1-4)&&decide ((F.length:Int)-1-4≤120))=false:=by
   rcases Nat.lt_or_ge F.length 5 with h5 | h5
   ·simp;omega
   ·have:¬ okB (F.length-5)=true:=fun h=>hok ⟨h5,h⟩
    rw[jk] at this
    simp;omega
  clear hok
  go_enter func144,ntmps144
  go_wp2_with fail
  refine(qF _ _).mono ?_;rintro e w1 ⟨rfl,rfl⟩
  rw[hi]
  go_wp2_with fail
  go_ret2
  refine⟨Below.refl _ _,?_⟩
  rw[HU.out]
  rfl
def BZ (m:UInt8) (w w':World):Prop:=∀ ad,w.cell? ad=some (eG m)→w'.cell? ad=some (eG m)
theorem BZ.trans {m:UInt8} {a b c:World} (h:BZ m a b) (k:BZ m b c):BZ m a c:=fun ad hd=>k ad (h ad hd)
theorem BZ.refl (m:UInt8) (w:World):BZ m w w:=fun _ h=>h
theorem Rd.keep {m:UInt8} {n:Nat} {w w':World} {v:Value} (h:Rd w v (List.replicate n m)) (k:BZ m w w'):Rd w' v (List.replicate n m):=by
 rcases h with h | ⟨a,c,hv,hc⟩
 ·exact Or.inl h
 ·refine Or.inr ⟨a,c,hv,fun j u hu=>?_⟩
  have h1:=hc j u hu
  have e:u=eG m:=by
   rw[List.map_replicate] at hu
   have:=List.mem_of_getElem? hu
   simpa using(List.mem_replicate.1 this).2
  subst e
  exact k _ h1
theorem Rd.turn {w w':World} {v:Value} {L:List UInt8} (h:Rd w v L) (hs:∀ k,v.ownBlock=some k→0<L.length→w'.heap[k]? = w.heap[k]?):Rd w' v L:=by
 rcases h with h | ⟨a,c,rfl,hc⟩
 ·exact Or.inl h
 ·refine Or.inr ⟨a,c,rfl,fun j u hu=>?_⟩
  have hl:0<L.length:=by
   rcases Nat.eq_zero_or_pos L.length with e | e
   ·have:=List.eq_nil_of_length_eq_zero e;subst this;simp at hu
   ·exact e
  have h2:(a.add j).block=a.block:=by unfold Addr.add;split<;>rfl
  rw[World.cell?_of_block (w:=w) (w':=w') (a:=a.add j) (by rw[h2];exact hs a.block rfl hl)]
  exact hc j u hu
structure Turn (w w':World) (S:Nat→Prop):Prop where
 os:w'.os=w.os
 tape:w'.tape=w.tape
 output:w'.output=w.output
 size:w.heap.size≤w'.heap.size
 block:∀ k,k<w.heap.size→¬ S k→w'.heap[k]? = w.heap[k]?
theorem Turn.refl (w:World) (S:Nat→Prop):Turn w w S:=⟨rfl,rfl,rfl,Nat.le_refl _,fun _ _ _=>rfl⟩
theorem Turn.trans {w w1 w2:World} {S S':Nat→Prop} (h:Turn w w1 S) (k:Turn w1 w2 S') (hS:∀ q,q<w.heap.size→S' q→S q):Turn w w2 S :=
 ⟨k.os.trans h.os,k.tape.trans h.tape,k.output.trans h.output,Nat.le_trans h.size k.size,fun q hq hn=>(k.block q (Nat.lt_of_lt_of_le hq h.size) (fun hs=>hn (hS q hq hs))).trans (h.block q hq hn)⟩
theorem Turn.weak {w w':World} {S S':Nat→Prop} (h:Turn w w' S) (hS:∀ k,S k→S' k):Turn w w' S':=⟨h.os,h.tape,h.output,h.size,fun k hk hn=>h.block k hk (fun hs=>hn (hS k hs))⟩
theorem Turn.of_below {w w':World} {S:Nat→Prop} (h:Below w.heap.size w w'):Turn w w' S:=⟨h.os,h.tape,h.output,h.size,fun k hk _=>h.block k hk⟩
theorem Turn.XW {w w':World} {v v':Value} (h:Grew w w' v v'):Turn w w' (fun k=>v.ownBlock=some k):=⟨h.g.os,h.g.tape,h.g.output,h.g.size,fun k hk hn=>h.g.block k hk (fun e=>hn e.symm)⟩
theorem Turn.setCell (w:World) (b i:Nat) (u:Value):Turn w (w.setCell ⟨b,i,none⟩ u) (fun k=>k=b):=⟨rfl,rfl,rfl,by simp[World.setCell],fun k _ hn=>Below.heap_setCell _ _ _ _ hn⟩
theorem Turn.below {w w':World} {S:Nat→Prop} (h:Turn w w' S) {B:Nat} (hB:B≤w.heap.size) (hS:∀ k,k<B→¬ S k):Below B w w':=⟨h.os,h.tape,h.output,h.size,fun k hk=>h.block k (by omega) (hS k hk)⟩
theorem gB.put {w:World} {lo g c:Nat} {L:List UInt8} (h:gB w lo (.slice (some ⟨g,0,none⟩) L.length c) L) (i:Nat) (m:UInt8):gB (w.setCell ⟨g,i,none⟩ (eG m)) lo (.slice (some ⟨g,0,none⟩) (L.set i m).length c) (L.set i m):=by
 rcases h.2 with⟨h0,_⟩ | ⟨g',cap,cur,hv,hb,hh,h1,h2,h3,h4⟩
 ·simp at h0
 ·simp at hv
  obtain⟨rfl,rfl⟩:=hv
  refine⟨by simp,.inr ⟨g,c,cur.setIfInBounds i (eG m),rfl,hb,?_,by simpa using h1,h2,by simpa using h3,?_⟩⟩
  ·simp only[World.setCell,Array.getElem?_modify,hh]
   simp
  ·rw[Array.toList_setIfInBounds,List.length_set,List.take_set,h4,List.map_set]
theorem oC {w:World} {b:Nat} {cur:Array Value} {T:TypeId} (h:w.heap[b]? = some (.cells cur T (0,0))) (i:Nat):w.cell? ⟨b,i,none⟩=cur.toList[i]?:=by
 rw[cell_of_row w b i cur T (0,0) h];simp
theorem pY {w:World} {b:Nat} {cur:Array Value} {T:TypeId} (h:w.heap[b]? = some (.cells cur T (0,0))) (i:Nat):w.frozen? ⟨b,i,none⟩=false:=by
 simp[World.frozen?,h]
theorem gB.lower {w:World} {lo lo':Nat} {v:Value} {L:List UInt8} (h:gB w lo v L) (hl:lo'≤lo):gB w lo' v L:=by
 obtain⟨h1,h2⟩:=h
 refine⟨h1,?_⟩
 rcases h2 with h2 | ⟨g,cap,cur,hv,hg,r⟩
 ·exact Or.inl h2
 ·exact Or.inr ⟨g,cap,cur,hv,Nat.le_trans hl hg,r⟩
theorem gB.grown {w w':World} {lo b:Nat} {v:Value} {L:List UInt8} (h:gB w lo v L) (hg:w.grownBy w' (some b)) (hb:b<lo):gB w' lo v L :=
 au h (fun g hg'=>hg.block g (h.lt g hg').2 (fun e=>by have:=(h.lt g hg').1;cases e;omega))
structure Ia (w:World) (lo:Nat) (v:Value) (vs:List Value) (Ls:List (List UInt8)):Prop where
 own:w.ownsRow lo 97 1 v Ls.length vs
 each:∀ (i:Nat) (u:Value) (L:List UInt8),vs[i]? = some u→Ls[i]? = some L→gB w lo u L
 apart:∀ (i j:Nat) (u u':Value),vs[i]? = some u→vs[j]? = some u'→i≠j→∀ g,u.ownBlock=some g→u'.ownBlock=some g→False
theorem Ia.len {w:World} {lo:Nat} {v:Value} {vs:List Value} {Ls:List (List UInt8)} (h:Ia w lo v vs Ls):vs.length=Ls.length:=by have:=h.own.1;omega
theorem Ia.nil (w:World) (lo:Nat):Ia w lo (.slice none 0 0) [] []:=⟨World.ownsRow_nil _ _ _ _,fun i u L h=>by simp at h,fun i j u u' h=>by simp at h⟩
theorem Ia.at {w:World} {lo:Nat} {v:Value} {vs:List Value} {Ls:List (List UInt8)} (h:Ia w lo v vs Ls) {i:Nat} (hi:i<Ls.length):∃ u,vs[i]? = some u∧gB w lo u Ls[i]:=by
 have hl:=h.len
 exact⟨vs[i],List.getElem?_eq_getElem (by omega),h.each i _ _ (List.getElem?_eq_getElem (by omega)) (List.getElem?_eq_getElem hi)⟩
theorem Ia.same {w w':World} {lo:Nat} {v:Value} {vs:List Value} {Ls:List (List UInt8)} (h:Ia w lo v vs Ls) (hs:∀ k,lo≤k→k<w.heap.size→w'.heap[k]? = w.heap[k]?):Ia w' lo v vs Ls :=
 ⟨au h.own (fun g hg=>hs g (h.own.lt g hg).1 (h.own.lt g hg).2),fun i u L hu hL=>au (h.each i u L hu hL) (fun g hg=>hs g ((h.each i u L hu hL).lt g hg).1 ((h.each i u L hu hL).lt g hg).2),h.apart⟩
theorem Tryz.infoBytes:(Tryz.prog.info? 97).map (fun i=>(i.zero,i.size,i.bytes))=some (some (.slice none 0 0),1,24):=by kernel_rfl
theorem Ia.push {w w1 w2:World} {lo:Nat} {v v' u:Value} {vs:List Value} {Ls:List (List UInt8)} {P:List UInt8} (h:Ia w lo v vs Ls) (hu:gB w1 w.heap.size u P) (hs:∀ k,lo≤k→k<w.heap.size→w1.heap[k]? = w.heap[k]?) (hlo:lo≤w.heap.size)
  (hown:w2.ownsRow lo 97 1 v' (Ls.length+1) (vs++[u])) (hg:Grew w1 w2 v v'):Ia w2 lo v' (vs++[u]) (Ls++[P]):=by
 have h1:=h.same hs
 have hne:∀ {u:Value} {L:List UInt8} {lo':Nat},gB w1 lo' u L→∀ g,u.ownBlock=some g→some g≠v.ownBlock:=fun hB g hg' e=>own_ne hB h1.own (by decide) hg' e.symm rfl
 have hl:=h.len
 refine⟨by rw[List.length_append];exact hown,fun i q L hq hL=>?_,fun i j q q' hq hq' hij g hg1 hg2=>?_⟩
 ·rcases Nat.lt_or_ge i vs.length with hi | hi
  ·rw[List.getElem?_append_left hi] at hq
   rw[List.getElem?_append_left (by omega)] at hL
   have hB:=h1.each i q L hq hL
   exact au hB (fun g hg'=>hg.g.block g (hB.lt g hg').2 (hne hB g hg'))
  ·rw[List.getElem?_append_right hi] at hq
   rw[List.getElem?_append_right (by omega)] at hL
   have hi0:i-vs.length=0:=by
    rcases Nat.eq_zero_or_pos (i-vs.length) with e | e
    ·exact e
    ·rw[List.getElem?_eq_none (by simp;omega)] at hq;cases hq
   rw[hi0] at hq
   rw[show i-Ls.length=0 by omega] at hL
   simp at hq hL
   subst hq hL
   exact gB.lower (au hu (fun g hg'=>hg.g.block g (hu.lt g hg').2 (hne hu g hg'))) hlo
 ·have key:∀ (i j:Nat) (q q':Value),i<vs.length→vs.length≤j→(vs++[u])[i]? = some q→(vs++[u])[j]? = some q'→q.ownBlock=some g→q'.ownBlock=some g→False:=fun i j q q' hi hj hq hq' hg1 hg2=>by
   rw[List.getElem?_append_left hi] at hq
   rw[List.getElem?_append_right hj] at hq'
   have hj0:j-vs.length=0:=by
    rcases Nat.eq_zero_or_pos (j-vs.length) with e | e
    ·exact e
    ·rw[List.getElem?_eq_none (by simp;omega)] at hq';cases hq'
   rw[hj0] at hq'
   simp at hq'
   subst hq'
   have h2:=(hu.lt g hg2).1
   have h3:=((h.each i q Ls[i] hq (List.getElem?_eq_getElem (by omega))).lt g hg1).2
   omega
  rcases Nat.lt_or_ge i vs.length with hi | hi<;>rcases Nat.lt_or_ge j vs.length with hj | hj
  ·rw[List.getElem?_append_left hi] at hq
   rw[List.getElem?_append_left hj] at hq'
   exact h.apart i j q q' hq hq' hij g hg1 hg2
  ·exact key i j q q' hi hj hq hq' hg1 hg2
  ·exact key j i q' q hj hi hq' hq hg2 hg1
  ·have:=(List.getElem?_eq_some_iff.1 hq).1
   have:=(List.getElem?_eq_some_iff.1 hq').1
   simp at *;omega
def BG:St→Int
 | none=>7
 | some _=>0
theorem Un (w:World) (u:Value) (T:TypeId):∀ j u',[u][j]? = some u'→(w.alloc (.cells #[u] T)).cell? ((⟨w.heap.size,0,none⟩:Addr).add j)=some u':=by
 intro j u' hj
 match j,hj with
 | 0,hj=>simp at hj;subst hj;simp[Addr.add]
theorem FQ {a:Option Addr} {n c:Nat}:∀ u∈[Value.slice a n c],u.oneCell'=true:=fun u hu=>by simp at hu;subst hu;rfl
theorem xP (s:ByteArray):Lib.strCells s=s.toList.map eG:=by
 unfold Lib.strCells
 rw[ByteArray.toList_eq]
 rfl
theorem wpList_append_text (w:World) {ops:Array Oper} {rest:List Oper} {o:Oper} {a:Act} {Q:Exit→Act→World→Prop} (hgd:o.guard=none) (sl x:Operand)
  (ho:o.op=.call { callee:=.builtin .append,args:=#[sl,x],argTypes:=#[97,9] }) (hs:a.eval sl=.slice none 0 0) (s:ByteArray) (hx:a.eval x=.string s) (hl:s.size≤1000000000) (L:List UInt8) (hL:s.toList=L)
  (h:∀ a' c' w',gB w' w.heap.size (.slice a' L.length c') L→Below w.heap.size w w'→wpList Tryz.prog ops Q rest (a.put o.dst (.slice a' L.length c')) w'):wpList Tryz.prog ops Q (o::rest) a w:=by
 obtain⟨iI,wX,hI0,hI1,hI2⟩:=info_parts Tryz.infoByte
 subst hL
 have hsl:s.toList.length=s.size:=by rw[ByteArray.toList_eq];rfl
 refine Lib.wpList_append_own_string w hgd sl x 97 9 ho w.heap.size 5 iI underlying97 underlying9 wX hI0 hI1 hI2 _ 0 [] hs (World.ownsRow_nil _ _ _ _) s hx (by unfold maxLen;omega) (by omega) (Nat.le_refl _) ?_
 intro v' w' ho' hg' _
 rw[Nat.zero_add,List.nil_append,xP,← hsl] at ho'
 obtain⟨a',c',rfl⟩:=ak ho'
 exact h a' c' w' ho' ⟨hg'.os,hg'.tape,hg'.output,hg'.size,fun k hk=>hg'.block k hk (by simp[Value.ownBlock])⟩
def Ib (w:World) (lo:Nat) (v:Value) (L:List UInt8):Prop:=∃ g c,v=.slice (some ⟨g,0,none⟩) L.length c∧gB w lo (.slice (some ⟨g,0,none⟩) (L++[77]).length c) (L++[77])
theorem Ib.lower {w:World} {lo lo':Nat} {v:Value} {L:List UInt8} (h:Ib w lo v L) (hl:lo'≤lo):Ib w lo' v L:=by
 obtain⟨g,c,hv,hB⟩:=h
 exact⟨g,c,hv,hB.lower hl⟩
theorem Ib.rd {w:World} {lo:Nat} {v:Value} {L:List UInt8} (h:Ib w lo v L):Rd w v L:=by
 obtain⟨g,c,rfl,hB⟩:=h
 refine Or.inr ⟨⟨g,0,none⟩,c,rfl,fun j u hu=>?_⟩
 have hj:j<L.length:=by
  rcases Nat.lt_or_ge j L.length with h | h
  ·exact h
  ·rw[List.getElem?_eq_none (by simpa using h)] at hu;cases hu
 exact hB.cells (g:=g) rfl j u (by rw[List.map_append,List.getElem?_append_left (by simpa using hj)];exact hu)
theorem JK (w:World) (s:ByteArray) (hs:s.size≤1000000000) :
  Calls Tryz.prog 30 #[.string s] w fun e w'=>∃ v,e=.returned v∧Ib w' w.heap.size v s.toList∧Below w.heap.size w w':=by
 have hsl:s.toList.length=s.size:=by rw[ByteArray.toList_eq];rfl
 obtain⟨L,HL⟩:∃ L,Hid (s.toList=L):=⟨_,hid rfl⟩
 rw[HL.out] at hsl ⊢
 have HSL:=hid hsl
 have hLl:L.length≤1000000000:=by omega
 obtain⟨M,HM⟩:∃ M,Hid (L++[77]=M):=⟨_,hid rfl⟩
 have ZM:M.length=L.length+1:=by rw[← HM.out];simp
 have HML:=hid ZM
 clear hsl ZM
 go_enter func30,ntmps30
 go_wp2_with (at_builtin;refine wpList_append_text _ rfl (.tmp 4) (.tmp 5) rfl rfl s rfl hs L HL.out ?_)
 intro a1 c1 w1 hb1 lW
 have HB1:=hid hb1
 have hz1:=lW.size
 clear hb1
 go_wp2_with (at_builtin;refine eH _ rfl (.tmp 7) (.tmp 8) rfl _ L w.heap.size rfl (HB1.out.same ((Below.refl _ _).alloc (Nat.le_refl _) _)) _ [77] rfl (mP _ 77 _ rfl).rd M HM.out (by simp;omega) (by simp;omega) ?_)
 intro a2 c2 w2 hb2 hg2
 have iQ:Below w.heap.size w w2:=(lW.alloc hz1 _).trans (hg2.below (fun k hk=>(HB1.out.lt k hk).1) (by simp;omega))
 obtain⟨g,hg0⟩:∃ g,a2=some ⟨g,0,none⟩:=by
  rcases hb2.2 with⟨_,e⟩ | ⟨g,cap,cur,hv,_⟩
  ·have:=HML.out;omega
  ·simp at hv;exact⟨g,hv.1⟩
 subst hg0
 have hcap:M.length≤c2:=by
  rcases hb2.2 with⟨_,e⟩ | ⟨g,cap,cur,hv,_,_,h3,_⟩
  ·have:=HML.out;omega
  ·simp at hv;omega
 have hcI:(s.size:Int)≤(c2:Int):=by have h1:=HML.out;have h2:=HSL.out;omega
 have hc0:¬ c2=0:=by have h1:=HML.out;omega
 have HB2:=hid hb2
 clear hb2 hg2
 go_wp2_with fail
 go_ret
 refine⟨_,rfl,⟨g,c2,?_,by rw[HM.out];exact HB2.out⟩,iQ⟩
 rw[HSL.out];rfl
theorem FT (w:World) (lo:Nat) (v:Value) (s:ByteArray) (h:Ib w lo v s.toList) (hs:s.size≤1000000000) :
  Calls Tryz.prog 33 #[v,.string s] w fun e w'=>e=.returned (.bool true)∧Turn w w' (fun k=>v.ownBlock=some k):=by
 have hsl:s.toList.length=s.size:=by rw[ByteArray.toList_eq];rfl
 have hconv:=h.rd.conv
 have HSO:=hid (show (strOf s.toList).toList=s.toList from xO _)
 obtain⟨g,c,rfl,hB⟩:=h
 rw[hsl] at hconv ⊢
 have ZM:(s.toList++[77]).length=s.size+1:=by simp[hsl]
 have hcap:s.size+1≤c:=by
  rcases hB.2 with⟨_,e⟩ | ⟨g,cap,cur,hv,_,_,h3,_⟩
  ·omega
  ·simp at hv;omega
 have h77:w.cell? ⟨g,s.size,none⟩=some (.int .u8 77):=by
  have:=hB.cells (g:=g) rfl s.size (eG 77) (by rw[List.map_append,List.getElem?_append_right (by simp[hsl])];simp[hsl])
  rw[jO _ _ rfl] at this
  simpa[eG] using this
 have hcI:(s.size:Int)+1≤(c:Int):=by omega
 have hc0:¬ c=0:=by omega
 have HB:=hid hB
 clear hB
 go_enter func33,ntmps33
 go_wp2_with fail
 have hrow:∃ cur,w.heap[g]? = some (.cells cur 5 (0,0))∧cur.size=c:=by
  rcases HB.out.2 with⟨h0,_⟩ | ⟨g',cap,cur,hv,_,hh,_,_,h3,_⟩
  ·simp at h0
  ·simp at hv
   obtain⟨rfl,rfl⟩:=hv
   exact⟨cur,hh,by simpa using h3⟩
 go_loopg [7] (s.size+1) (fun gk i wr=>∃ k:Nat,k+gk=s.size+1∧i=.int .i64 k∧Hid (∃ cur,wr.heap[g]? = some (.cells cur 5 (0,0))∧cur.size=c)∧Hid (Turn w wr (fun q=>q=g)))
 case atStart=>exact⟨0,by omega,rfl,hid hrow,hid (Turn.refl _ _)⟩
 case round=>
  obtain⟨k,hk,rfl,HR,HT⟩:=hrel
  by_cases hlt:k<s.size+1
  ·have oM:(k:Int)<(s.size:Int)+1:=by omega
   obtain⟨cur,hcur,hcs⟩:=HR.out
   obtain⟨old,hck⟩:∃ old,wr.cell? ⟨g,k,none⟩=some old:=by
    rw[oC hcur]
    exact⟨_,List.getElem?_eq_getElem (by simp;omega)⟩
   have hfk:wr.frozen? ⟨g,k,none⟩=false:=pY hcur _
   have HR2:=hid (show ∃ cur,(wr.setCell ⟨g,k,none⟩ (.int .u8 78)).heap[g]? = some (.cells cur 5 (0,0))∧cur.size=c from⟨_,heap_setCell_same wr g k cur _ _ hcur,by simpa using hcs⟩)
   have HT2:=hid (HT.out.trans (Turn.setCell wr g k (.int .u8 78)) (fun q _ h=>h))
   clear hcur hcs
   go_wp2_with fail
   go_roundg (gk-1)
   case rel=>exact⟨k+1,by omega,by go_num,HR2,HT2⟩
   case measure=>omega
  ·have oM:¬ (k:Int)<(s.size:Int)+1:=by omega
   have HT2:=hid (HT.out.weak (S':=fun q=>(Value.slice (some ⟨g,0,none⟩) s.size c).ownBlock=some q) (fun q h=>by rw[h];rfl))
   go_wp2_with fail
   go_ret
   exact⟨rfl,HT2.out⟩
theorem and_one (z:Int) (h:0≤z∧z<4294967296):bits BinOp.and IntKind.u32 z 1=z % 2:=by
 obtain⟨n,rfl⟩:∃ n:Nat,z=n:=⟨z.toNat,by omega⟩
 have hw:∀ m:Nat,m<4294967296→IntKind.u32.wrap (m:Int)=m:=fun m hm=>by
  have e:IntKind.u32.wrap (m:Int)=(m:Int) % 4294967296:=by unfold IntKind.wrap;simp[IntKind.bits,IntKind.signed]
  rw[e];omega
 have e:((BitVec.ofInt 32 (n:Int)) &&& (BitVec.ofInt 32 1)).toNat=n % 2:=by
  rw[BitVec.toNat_and]
  have h1:(BitVec.ofInt 32 (n:Int)).toNat=n:=by
   rw[BitVec.toNat_ofInt];omega
  have h2:(BitVec.ofInt 32 1).toNat=1:=by decide
  rw[h1,h2,Nat.and_one_is_mod]
 show IntKind.u32.wrap (((BitVec.ofInt 32 (n:Int)) &&& (BitVec.ofInt 32 1)).toNat:Int)=_
 rw[e,hw _ (by omega)]
 omega
theorem XY (z:Int) (h:0≤z∧z<4294967296):bits BinOp.xor IntKind.u32 IntKind.u32.max z=4294967295-z:=by
 obtain⟨n,rfl⟩:∃ n:Nat,z=n:=⟨z.toNat,by omega⟩
 have hw:∀ m:Nat,m<4294967296→IntKind.u32.wrap (m:Int)=m:=fun m hm=>by
  have e:IntKind.u32.wrap (m:Int)=(m:Int) % 4294967296:=by unfold IntKind.wrap;simp[IntKind.bits,IntKind.signed]
  rw[e];omega
 have e:((BitVec.ofInt 32 4294967295) ^^^ (BitVec.ofInt 32 (n:Int))).toNat=4294967295-n:=by
  have h1:(BitVec.ofInt 32 (n:Int)).toNat=n:=by
   rw[BitVec.toNat_ofInt];omega
  have h2:BitVec.ofInt 32 4294967295=BitVec.allOnes 32:=by decide
  rw[h2,BitVec.allOnes_xor,BitVec.toNat_not,h1]
 have hm:IntKind.u32.max=4294967295:=by decide
 rw[hm]
 show IntKind.u32.wrap (((BitVec.ofInt 32 4294967295) ^^^ (BitVec.ofInt 32 (n:Int))).toNat:Int)=_
 rw[e,hw _ (by omega)]
 omega
theorem Uo {z:Int} (h:0≤z∧z<4294967296):H9 z=bif (z % 2==1) then bits BinOp.xor IntKind.u32 (z / 2) 3988292384 else z / 2:=by
 unfold H9;rw[and_one z h]
theorem Ur (L:List UInt8):zo L=4294967295-qE L:=XY _ (BF L)
theorem Ic (w:World) (lo:Nat) (v:Value) (L:List UInt8) (n:Nat) (h:gB w lo v L) (hn:n<128) (hl:L.length≤1000000) (hlo:lo≤w.heap.size) :
  Calls Tryz.prog 176 #[v,.int .u64 n] w fun e w'=>∃ a c,e=.returned (.slice a (L++[n.toUInt8]).length c)∧gB w' lo (.slice a (L++[n.toUInt8]).length c) (L++[n.toUInt8])∧Grew w w' v (.slice a (L++[n.toUInt8]).length c):=by
 obtain⟨la,lc,rfl⟩:=ak h
 have H:=hid h
 clear h
 have hnI:¬ (128:Int)≤(n:Int):=by omega
 have hu8:(n:Int)=(n.toUInt8.toNat:Int):=by simp[Nat.toUInt8,UInt8.toNat_ofNat'];omega
 obtain⟨x,HX⟩:∃ x,Hid (n.toUInt8=x):=⟨_,hid rfl⟩
 rw[HX.out] at hu8 ⊢
 have HU:=hid hu8
 clear hu8
 obtain⟨M,HM⟩:∃ M,Hid (L++[x]=M):=⟨_,hid rfl⟩
 rw[HM.out]
 go_enter func176,ntmps176
 go_wp2_with fail
 go_loopg [0,1] 0 (fun gk dv nv wr=>dv=.slice la L.length lc∧nv=.int .u64 n∧wr=w)
 case atStart=>exact⟨rfl,rfl,rfl⟩
 case round=>
  obtain⟨rfl,rfl,rfl⟩:=hrel
  go_wp2_with (at_builtin;refine eH _ rfl _ _ rfl _ L lo rfl (H.out.same ((Below.refl _ _).alloc (Nat.le_refl _) _)) _ [x] rfl (mP _ _ _ (by have:=HU.out;omega)).rd M HM.out (by simp;omega) (by simp;omega) ?_)
  intro a1 c1 w1 hb1 hg1
  have HB1:=hid hb1
  have ET:=hid ((Grew.call ((Below.refl _ _).alloc (Nat.le_refl _) _)).trans hg1)
  clear hb1 hg1
  go_wp2_with fail
  go_ret
  exact⟨a1,c1,rfl,HB1.out,ET.out⟩
theorem Ie (w:World) (v:Value) (P:List UInt8) (h:Rd w v P) (hl:P.length≤120) :
  Calls Tryz.prog 166 #[.slice none 0 0,v] w fun e w'=>∃ a c,e=.returned (.slice a ([P.length.toUInt8]++P).length c)∧gB w' w.heap.size (.slice a ([P.length.toUInt8]++P).length c) ([P.length.toUInt8]++P)∧Below w.heap.size w w':=by
 obtain⟨pa,pc,rfl⟩:=h.slice
 have H:=hid h
 clear h
 obtain⟨M,HM⟩:∃ M,Hid ([P.length.toUInt8]++P=M):=⟨_,hid rfl⟩
 rw[HM.out]
 go_enter func166,ntmps166
 go_wp2_with fail
 refine(Ic _ w.heap.size _ [] P.length (World.ownsRow_nil _ _ _ _) (by omega) (by simp) (Nat.le_refl _)).mono ?_;rintro e w1 ⟨a1,c1,rfl,hb1,hg1⟩
 have lW:Below w.heap.size w w1:=hg1.below (fun k hk=>by simp[Value.ownBlock] at hk) (Nat.le_refl _)
 have HB1:=hid hb1
 have hz1:=lW.size
 have HR1:=hid (H.out.later lW)
 obtain⟨N,HN⟩:∃ N,Hid (([]:List UInt8)++[P.length.toUInt8]=N):=⟨_,hid rfl⟩
 have hNl:N.length≤1:=by rw[← HN.out];simp
 rw[HN.out] at HB1 ⊢
 have Cb:Hid (N++P=M):=by rw[← HN.out,List.nil_append];exact HM
 clear hb1 hg1
 go_wp2_with (at_builtin;refine eH _ rfl (.tmp 10) (.tmp 11) rfl _ N w.heap.size rfl HB1.out _ P rfl HR1.out M Cb.out (by omega) hz1 ?_)
 intro a2 c2 w2 hb2 hg2
 have HB2:=hid hb2
 have iQ:=lW.trans (hg2.below (fun k hk=>(HB1.out.lt k hk).1) hz1)
 clear hb2 hg2
 go_wp2_with fail
 go_ret
 exact⟨a2,c2,rfl,HB2.out,iQ⟩
theorem Nw (w:World) (v:Value) (L:List UInt8) (h:Rd w v L) (hl:L.length≤1000000) :
  Calls Tryz.prog 167 #[v] w fun e w'=>∃ a c,e=.returned (.slice a (bK L).length c)∧gB w' w.heap.size (.slice a (bK L).length c) (bK L)∧Below w.heap.size w w':=by
 obtain⟨a,c,rfl⟩:=h.slice
 have H:=hid h
 clear h
 go_enter func167,ntmps167
 go_wp2
 go_loop [3,4,5,6] (fun r i x5 x6=>∃ k:Nat,k≤L.length∧i=.int .i64 k∧r=.int .u32 (qE (L.take k))) (fun _ i _ _=>L.length-(intOf i).toNat)
 case atStart=>exact⟨0,Nat.zero_le _,rfl,rfl⟩
 case round=>
  obtain⟨k,hk,rfl,rfl⟩:=hrel
  have hbd:=BF (L.take k)
  by_cases hlt:k<L.length
  ·obtain⟨b,o,c',hv,hb,hc⟩:=H.out.at (by omega)
   obtain⟨rfl,rfl⟩:a=some ⟨b,o,none⟩∧c=c':=by simpa using hv
   have hck:=hc k hlt
   have HS:=hid (show qE (L.take (k+1))=Um (qE (L.take k)) L[k] by unfold qE;rw[List.take_succ_eq_append_getElem hlt,List.foldl_append];rfl)
   generalize qE (L.take k)=z at *
   generalize L[k]=d at *
   clear hc
   go_wp2_with fail
   go_loop [3,5,6] (fun r j x6=>∃ q:Nat,q≤8∧j=.int .i64 q∧r=.int .u32 (Bg q (bits BinOp.xor IntKind.u32 z ((d.toNat:Int) % 4294967296)))) (fun _ j _=>8-(intOf j).toNat)
   case atStart=>exact⟨0,Nat.zero_le _,rfl,rfl⟩
   case round=>
    obtain⟨q,hq,rfl,rfl⟩:=hrel
    have hbq:=BD q (uz BinOp.xor z ((d.toNat:Int) % 4294967296))
    by_cases hlt':q<8
    ·have HQ:=hid (show Bg (q+1) (bits BinOp.xor IntKind.u32 z ((d.toNat:Int) % 4294967296))=H9 (Bg q (bits BinOp.xor IntKind.u32 z ((d.toNat:Int) % 4294967296))) from rfl)
     generalize Bg q (bits BinOp.xor IntKind.u32 z ((d.toNat:Int) % 4294967296))=y at *
     have HC:=hid (Uo hbq)
     cases hodd:(y % 2==1) with
     | true=>
      have HD:=hid hodd
      go_wp2_with fail
      go_round
      case rel=>exact⟨q+1,by omega,by go_num,by rw[HQ.out,HC.out,HD.out];rfl⟩
      case measure=>simp[intOf];omega
     | false=>
      have HD:=hid hodd
      go_wp2_with fail
      go_round
      case rel=>exact⟨q+1,by omega,by go_num,by rw[HQ.out,HC.out,HD.out];rfl⟩
      case measure=>simp[intOf];omega
    ·obtain rfl:q=8:=by omega
     go_wp2_with fail
     go_round
     case rel=>exact⟨k+1,by omega,by go_num,by rw[HS.out];rfl⟩
     case measure=>simp[intOf];omega
  ·have hT:qE (L.take k)=qE L:=by rw[List.take_of_length_le (by omega)]
   have hbL:=BF L
   rw[hT]
   have ZN:=hid (show bK L=[((4294967295-qE L) / 16777216).toNat.toUInt8,((4294967295-qE L) / 65536).toNat.toUInt8,((4294967295-qE L) / 256).toNat.toUInt8,(4294967295-qE L).toNat.toUInt8] by unfold bK;rw[Ur])
   generalize qE L=z at *
   clear hbd hT
   go_wp2_with fail
   go_ret
   exact⟨_,_,rfl,H8 _ (bK L) _ (by rw[ZN.out];simp[eG];omega) (by rw[ZN.out];simp),(Below.refl _ _).alloc (Nat.le_refl _) _⟩
theorem Ig (w:World) (v:Value) (P:List UInt8) (h:Rd w v P) (hl:P.length≤maxLen) :
  Calls Tryz.prog 109 #[v] w (JI w P):=by
 obtain⟨pa,pc,rfl⟩:=h.slice
 unfold maxLen at hl
 have H:=hid h
 clear h
 by_cases hok:okB P.length=true
 ·have hb:=jk.1 hok
  have HO:=hid hok
  have h1:¬ (P.length:Int)<1:=by omega
  have h2:¬ (120:Int)<(P.length:Int):=by omega
  clear hok
  go_enter func109,ntmps109
  go_wp2_with fail
  refine(Ie _ _ P H.out hb.2).mono ?_;rintro e w1 ⟨a1,c1,rfl,hb1,lW⟩
  have HB1:=hid hb1
  have HF:=hid (show aS bK P=([P.length.toUInt8]++P)++bK ([P.length.toUInt8]++P) from rfl)
  have ZM:([P.length.toUInt8]++P).length≤121:=by simp;omega
  generalize [P.length.toUInt8]++P=M at *
  have hz1:=lW.size
  clear hb1
  go_wp2_with fail
  refine(Nw _ _ M HB1.out.rd (by omega)).mono ?_;rintro e w2 ⟨a2,c2,rfl,hb2,iQ⟩
  have HB2:=hid hb2
  have ab1:=hid (HB1.out.same iQ)
  have hz2:=iQ.size
  have ZO:=lW.trans (iQ.mono hz1)
  have hSl:=rF M
  obtain⟨S,HS⟩:∃ S,Hid (bK M=S):=⟨_,hid rfl⟩
  rw[HS.out] at HB2 hSl ⊢
  obtain⟨FF,QK⟩:∃ FF,Hid (M++S=FF):=⟨_,hid rfl⟩
  have HF2:Hid (aS bK P=FF):=by rw[HF.out,HS.out];exact QK
  have hS4:S.length≤4:=by omega
  clear hb2 hSl
  go_wp2_with (at_builtin;refine eH _ rfl (.tmp 18) (.tmp 19) rfl _ M w.heap.size rfl ab1.out _ S rfl HB2.out.rd FF QK.out (by omega) (by omega) ?_)
  intro a3 c3 w3 hb3 hg3
  have HB3:=hid hb3
  have qG:=ZO.trans (hg3.below (fun k hk=>(ab1.out.lt k hk).1) (by omega))
  clear hb3 hg3
  go_wp2_with fail
  go_ret2
  refine⟨qG,?_⟩
  rw[HO.out,HF2.out]
  exact⟨a3,c3,rfl,HB3.out⟩
 ·have hno:okB P.length=false:=by simpa using hok
  have hcond:((P.length:Int)<1)∨(¬ (P.length:Int)<1∧(120:Int)<(P.length:Int)):=by
   have h1:¬ (1≤P.length∧P.length≤120):=fun h=>hok (jk.2 h)
   omega
  have HO:=hid hno
  clear hok hno
  rcases hcond with h1 | ⟨h1,h2⟩
  all_goals
   go_enter func109,ntmps109
   go_wp2_with fail
   go_ret2
   refine⟨Below.refl _ _,?_⟩
   rw[HO.out]
   rfl
theorem QL (w:World) (n m:Nat):∃ q,(w.drewN n).drewN m=w.drewN q:=⟨n+m,by simp[World.drewN,Nat.add_assoc]⟩
theorem E5 (w:World) (v v2:Value) (L M:List UInt8) (h:Rd w v L) (h2:Rd w v2 M) (hl:L.length≤1000000000) (hm:M.length≤1000000000) :
  Calls Tryz.prog 110 #[v,v2] w fun e w'=>e=.returned (.bool (decide (L=M)))∧∃ n,w'=w.drewN n:=by
 obtain⟨a,c,rfl⟩:=h.slice
 obtain⟨a2,c2,rfl⟩:=h2.slice
 have H:=hid h
 have H2:=hid h2
 clear h h2
 by_cases he:L.length=M.length
 ·have heI:((L.length:Int) != (M.length:Int))=false:=by rw[bne_eq_false_iff_eq];omega
  go_enter func110,ntmps110
  have HE:=hid he
  have ZM:M.length≤L.length∧L.length≤M.length:=by omega
  clear he
  go_wp2_with fail
  go_loopg [5] L.length (fun gk i wr=>∃ k n:Nat,k+gk=L.length∧i=.int .i64 k∧wr=w.drewN n∧Hid (L.take k=M.take k))
  case atStart=>exact⟨0,0,by omega,rfl,rfl,hid rfl⟩
  case round=>
   obtain⟨k,n,hk,rfl,rfl,HT⟩:=hrel
   by_cases hlt:k<L.length
   ·have hlm:k<M.length:=by omega
    obtain⟨b,o,c',hv,hb,hc⟩:=H.out.at (by omega)
    obtain⟨rfl,rfl⟩:a=some ⟨b,o,none⟩∧c=c':=by simpa using hv
    obtain⟨b2,o2,c2',hv2,hb2,hc2⟩:=H2.out.at (by omega)
    obtain⟨rfl,rfl⟩:a2=some ⟨b2,o2,none⟩∧c2=c2':=by simpa using hv2
    have hck:=hc k hlt
    have aix:=hc2 k hlm
    have hI1:(k:Int)<(L.length:Int):=by omega
    have hI2:(k:Int)<(M.length:Int):=by omega
    have HX:=hid (show L.take (k+1)=L.take k++[L[k]] from List.take_succ_eq_append_getElem hlt)
    have HY:=hid (show M.take (k+1)=M.take k++[M[k]] from List.take_succ_eq_append_getElem hlm)
    have HN:=hid (fun(hne:¬ L[k]=M[k]) (hLM:L=M)=>hne (by subst hLM;rfl))
    generalize L[k]=x at *
    generalize M[k]=y at *
    clear hc hc2 hv hv2
    by_cases hxy:x=y
    ·subst hxy
     go_wp2_with fail
     go_quiet (fail)
     go_wp2_with fail
     go_roundg (gk-1)
     case rel=>exact⟨k+1,_,by omega,by go_num,rfl,hid (by rw[HX.out,HY.out,HT.out])⟩
     case measure=>omega
    ·have aiz:((x.toNat:Int)==(y.toNat:Int))=false:=by
      rw[beq_eq_false_iff_ne];intro e;exact hxy (UInt8.toNat_inj.1 (by omega))
     have HD:=hid (show decide (L=M)=false from by rw[decide_eq_false_iff_not];exact HN.out hxy)
     clear hxy
     go_wp2_with fail
     go_quiet (fail)
     go_wp2_with fail
     go_ret
     exact⟨aG HD.out.symm,QL _ _ _⟩
   ·have hI1:¬ (k:Int)<(L.length:Int):=by omega
    have HD:=hid (show decide (L=M)=true from by
     rw[decide_eq_true_iff]
     have:=HT.out
     rwa [List.take_of_length_le (by omega),List.take_of_length_le (by omega)] at this)
    go_wp2_with fail
    go_ret
    exact⟨aG HD.out.symm,_,rfl⟩
 ·have heI:((L.length:Int)==(M.length:Int))=false:=by rw[beq_eq_false_iff_ne];omega
  have HD:=hid (show decide (L=M)=false from by rw[decide_eq_false_iff_not];intro e;exact he (by rw[e]))
  clear he
  go_enter func110,ntmps110
  go_wp2_with fail
  go_ret
  exact⟨aG HD.out.symm,0,rfl⟩
end Go.Proofs.YtgalebcpagmohaaGreatDoor
namespace Go.Proofs.YtgalebcpagmohaaGreatDoor
open Go.Proofs.Tryz
open Go.ChangeShapes Go.WideShapes Go.ChangeAt Go.RowKit
section
variable {H:Type} {enc:TypeId × Value→H} {P:Program} {w:World} {base:Nat} {spare:Nat→Bool} {held:Bool}
theorem JL {t0 t1 t2 t3 t4 t5:TypeId} {args:Array Value} {ds:List (DataW H)} {ps:List MemPlace} (h:DataW.TrodAll enc P w base spare held [t0,t1,t2,t3,t4,t5] args.toList ds ps) :
  ∃ v0 v1 v2 v3 v4 v5 d0 d1 d2 d3 d4 d5 p0 p1 p2 p3 p4 p5,args=#[v0,v1,v2,v3,v4,v5]∧ds=[d0,d1,d2,d3,d4,d5]∧ps=p0++(p1++(p2++(p3++(p4++p5))))∧DataW.Trod enc P w base spare held t0 v0 d0 p0∧DataW.Trod enc P w base spare held t1 v1 d1 p1∧DataW.Trod enc P w base spare held t2 v2 d2 p2∧DataW.Trod enc P w base spare held t3 v3 d3 p3∧DataW.Trod enc P w base spare held t4 v4 d4 p4∧DataW.Trod enc P w base spare held t5 v5 d5 p5:=by
 obtain⟨v0,vs0,d0,ds0,p0,q0,e0,f0,g0,h0,r0⟩:=trodAll_cons h
 obtain⟨v1,vs1,d1,ds1,p1,q1,e1,f1,g1,h1,r1⟩:=trodAll_cons r0
 obtain⟨v2,vs2,d2,ds2,p2,q2,e2,f2,g2,h2,r2⟩:=trodAll_cons r1
 obtain⟨v3,vs3,d3,ds3,p3,q3,e3,f3,g3,h3,r3⟩:=trodAll_cons r2
 obtain⟨v4,vs4,d4,ds4,p4,q4,e4,f4,g4,h4,r4⟩:=trodAll_cons r3
 obtain⟨v5,vs5,d5,ds5,p5,q5,e5,f5,g5,h5,r5⟩:=trodAll_cons r4
 obtain⟨e6,f6,g6⟩:=trodAll_nil r5
 subst e6 f6 g6 e5 f5 g5 e4 f4 g4 e3 f3 g3 e2 f2 g2 e1 f1 g1 f0 g0
 exact⟨v0,v1,v2,v3,v4,v5,d0,d1,d2,d3,d4,d5,p0,p1,p2,p3,p4,p5,by rw[← Array.toArray_toList (xs:=args),e0],rfl,by simp,h0,h1,h2,h3,h4,h5⟩
theorem JM {t0 t1 t2 t3 t4 t5:TypeId} {v0 v1 v2 v3 v4 v5:Value} {d0 d1 d2 d3 d4 d5:DataW H} {p0 p1 p2 p3 p4 p5:List MemPlace} (h0:DataW.Trod enc P w base spare held t0 v0 d0 p0) (h1:DataW.Trod enc P w base spare held t1 v1 d1 p1) (h2:DataW.Trod enc P w base spare held t2 v2 d2 p2) (h3:DataW.Trod enc P w base spare held t3 v3 d3 p3) (h4:DataW.Trod enc P w base spare held t4 v4 d4 p4) (h5:DataW.Trod enc P w base spare held t5 v5 d5 p5) :
  DataW.TrodAll enc P w base spare held [t0,t1,t2,t3,t4,t5] [v0,v1,v2,v3,v4,v5] [d0,d1,d2,d3,d4,d5] (p0++(p1++(p2++(p3++(p4++p5))))) :=
 trodAll_cons_mk h0 (trodAll_cons_mk h1 (trodAll_cons_mk h2 (trodAll_cons_mk h3 (trodAll_cons_mk h4 (trodAll_mk1 h5)))))
end
end Go.Proofs.YtgalebcpagmohaaGreatDoor
