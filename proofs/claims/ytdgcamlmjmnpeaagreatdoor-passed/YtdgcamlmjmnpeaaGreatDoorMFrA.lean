/- Bytes in memory, and what is put behind them: for the program's texts, the reference's and the statements'. -/
import Derived.Test.YtdgcamlmjmnpeaaGreatDoorRows
import Derived.WalkKit
import Derived.WalkSpells
import Derived.WalkLawsBesides
import Derived.Deep.LoopGhost
import Derived.Deep.QuietTactic
import Derived.BigQuiet
import Derived.Deep.AppendLies
import Derived.Maps.AppendAt
import Derived.Below
import Derived.Laws.BytesArg
import Derived.Deep.CutRange
namespace Go.Proofs.YtdgcamlmjmnpeaaGreatDoor
open Go.RowKit
theorem ret_int {k:IntKind} {a b:Int} (h:a = b):Ending.returned (.int k a) = .returned (.int k b):=by rw [h]
theorem ret_bool {a b:Bool} (h:a = b):Ending.returned (.bool a) = .returned (.bool b):=by rw [h]
theorem hid {p:Prop} (h:p):Hid p:=h
theorem own_same {w w':World} {lo:Nat} {e:TypeId} {size n:Nat} {v:Value} {xs:List Value} (h:w.ownsRow lo e size v n xs) (hs:∀ g,v.ownBlock = some g → w'.heap[g]? = w.heap[g]?):w'.ownsRow lo e size v n xs:=by
 obtain ⟨h1,h2⟩:=h
 refine ⟨h1,?_⟩
 rcases h2 with h2 | ⟨g,cap,cur,hv,hg,hh,r⟩
 ·exact Or.inl h2
 ·exact Or.inr ⟨g,cap,cur,hv,hg,by rw [hs g (by rw [hv];rfl)];exact hh,r⟩
theorem own_slice {w:World} {lo:Nat} {e:TypeId} {size n:Nat} {v:Value} {xs:List Value} (h:w.ownsRow lo e size v n xs):∃ a c,v = .slice a n c:=by
 rcases h.2 with ⟨rfl,rfl⟩ | ⟨g,cap,cur,rfl,_⟩
 ·exact ⟨none,0,rfl⟩
 ·exact ⟨_,_,rfl⟩
theorem own_type {w:World} {lo:Nat} {e:TypeId} {size n:Nat} {v:Value} {xs:List Value} (h:w.ownsRow lo e size v n xs) {g:Nat} (hg:v.ownBlock = some g):∃ cur,w.heap[g]? = some (.cells cur e (0,0)):=by
 rcases h.2 with ⟨rfl,_⟩ | ⟨g',cap,cur,rfl,_,hh,_⟩
 ·simp [Value.ownBlock] at hg
 ·simp [Value.ownBlock] at hg;subst hg;exact ⟨cur,hh⟩
theorem own_ne {w:World} {lo lo':Nat} {e e':TypeId} {size size' n n':Nat} {v v':Value} {xs xs':List Value} (h:w.ownsRow lo e size v n xs) (h':w.ownsRow lo' e' size' v' n' xs') (he:e ≠ e') {g g':Nat} (hg:v.ownBlock = some g) (hg':v'.ownBlock = some g'):g ≠ g':=by
 intro hh;subst hh
 obtain ⟨c,hc⟩:=own_type h hg
 obtain ⟨c',hc'⟩:=own_type h' hg'
 rw [hc] at hc';simp at hc';exact he hc'.2
def byteCell (c:UInt8):Value:=.int .u8 c.toNat
def Bys (w:World) (lo:Nat) (v:Value) (L:List UInt8):Prop:=w.ownsRow lo 5 1 v L.length (L.map byteCell)
theorem Bys.same {w w':World} {lo:Nat} {v:Value} {L:List UInt8} (h:Bys w lo v L) (hb:Below w.heap.size w w'):Bys w' lo v L :=
 own_same h (fun g hg=>hb.block g (h.lt g hg).2)
structure Grew (w w':World) (v v':Value):Prop where
 g:w.grownBy w' v.ownBlock
 b:∀ k,v'.ownBlock = some k → v.ownBlock = some k ∨ w.heap.size ≤ k
theorem Grew.refl (w:World) (v:Value):Grew w w v v:=⟨World.grownBy.refl _ _,fun _ hk=>Or.inl hk⟩
theorem Grew.trans {w w1 w2:World} {v v1 v2:Value} (h:Grew w w1 v v1) (k:Grew w1 w2 v1 v2):Grew w w2 v v2:=by
 refine ⟨⟨k.g.os.trans h.g.os,k.g.tape.trans h.g.tape,k.g.output.trans h.g.output,Nat.le_trans h.g.size k.g.size,fun q hq hne=>?_⟩,fun q hq=>?_⟩
 ·rw [k.g.block q (Nat.lt_of_lt_of_le hq h.g.size) (fun e=>?_),h.g.block q hq hne]
  rcases h.b q e.symm with e' | e'
  ·exact hne e'.symm
  ·omega
 ·rcases k.b q hq with e | e
  ·exact h.b q e
  ·exact Or.inr (Nat.le_trans h.g.size e)
theorem Grew.call {w w':World} {v:Value} (hb:Below w.heap.size w w'):Grew w w' v v:=⟨⟨hb.os,hb.tape,hb.output,hb.size,fun k hk _=>hb.block k hk⟩,fun _ hk=>Or.inl hk⟩
theorem Grew.below {w w':World} {v v':Value} {B:Nat} (h:Grew w w' v v') (hB:∀ k,v.ownBlock = some k → B ≤ k) (hw:B ≤ w.heap.size):Below B w w' :=
 (Below.refl B w).grown h.g hw hB
theorem Tryz.infoByte:(Tryz.prog.info? 5).map (fun i=>(i.zero,i.size,i.bytes)) = some (some (.int .u8 0),1,1):=by kernel_rfl
theorem wp_append_by (w:World) {o:Oper} {a:Act} {K:Act → World → Prop} {Q:Exit → Act → World → Prop} (s x:Operand)
  (ho:o.op = .call { callee:=.builtin .append,args:=#[s,x],argTypes:=#[25,25] })
  (v:Value) (L:List UInt8) (lo:Nat) (hs:a.eval s = v) (hP:Bys w lo v L) (v2:Value) (L2:List UInt8) (lo2:Nat) (hx:a.eval x = v2) (hP2:Bys w lo2 v2 L2)
  (hlen:L.length + L2.length ≤ 100000000000) (hlo:lo ≤ w.heap.size)
  (h:∀ a' c' w',Bys w' lo (.slice a' (L ++ L2).length c') (L ++ L2) → Grew w w' v (.slice a' (L ++ L2).length c') → K (a.put o.dst (.slice a' (L ++ L2).length c')) w'):o.wp Tryz.prog a w K Q:=by
 obtain ⟨iI,hiI,hI0,hI1,hI2⟩:=info_parts Tryz.infoByte
 obtain ⟨v',w',hr,h2,h3⟩:∃ v' w',(Builtin.append_ #[25,25] o.type #[v,v2]).run Tryz.prog w = .ok v' w' ∧ Bys w' lo v' (L ++ L2) ∧ Grew w w' v v':=by
  rcases hP2.2 with ⟨rfl,h0⟩ | ⟨g,cap,cur,hv2,_⟩
  ·have hL2:L2 = []:=List.eq_nil_of_length_eq_zero h0
   subst hL2
   exact ⟨v,w,run_append_owned_none w lo 25 o.type 5 iI 1 Tryz.underlying25 hiI v L.length _ hP,by simpa using hP,Grew.refl _ _⟩
  ·subst hv2
   obtain ⟨v',w',hr,h2,h3,_,h5⟩:=run_append_own_at (P:=Tryz.prog) w lo 25 o.type 5 iI (.int .u8 0) 1 1 Tryz.underlying25 hiI hI0 hI1 hI2 rfl (by decide) v L.length (L.map byteCell) hP ⟨g,0,none⟩ L2.length cap (L2.map byteCell) (by simp) (hP2.cells (g:=g) rfl) (fun u hu=>by obtain ⟨q,_,rfl⟩:=List.mem_map.1 hu;rfl) (by unfold maxLen;omega) (by omega) hlo
   refine ⟨v',w',hr,?_,h3,fun k hk=>?_⟩
   ·show w'.ownsRow _ _ _ _ _ _
    rw [List.length_append,List.map_append];exact h2
   ·rcases h5 with h5 | h5
    ·exact Or.inl (h5 ▸ hk)
    ·rw [hk] at h5;cases h5;exact Or.inr (Nat.le_refl _)
 obtain ⟨a',c',hv'⟩:=own_slice h2
 subst hv'
 unfold Oper.wp execOp
 simp only [ho,resolve,invoke,builtin,Sem.run_bind,Sem.run_pure,Result.andThen_ok,List.map_toArray,List.map_cons,List.map_nil,hs,hx,hr]
 exact h a' c' w' h2 h3
theorem wpList_append_by (w:World) {ops:Array Oper} {rest:List Oper} {o:Oper} {a:Act} {Q:Exit → Act → World → Prop} (hgd:o.guard = none) (s x:Operand)
  (ho:o.op = .call { callee:=.builtin .append,args:=#[s,x],argTypes:=#[25,25] })
  (v:Value) (L:List UInt8) (lo:Nat) (hs:a.eval s = v) (hP:Bys w lo v L) (v2:Value) (L2:List UInt8) (lo2:Nat) (hx:a.eval x = v2) (hP2:Bys w lo2 v2 L2)
  (hlen:L.length + L2.length ≤ 100000000000) (hlo:lo ≤ w.heap.size)
  (h:∀ a' c' w',Bys w' lo (.slice a' (L ++ L2).length c') (L ++ L2) → Grew w w' v (.slice a' (L ++ L2).length c') → wpList Tryz.prog ops Q rest (a.put o.dst (.slice a' (L ++ L2).length c')) w'):wpList Tryz.prog ops Q (o :: rest) a w :=
 wpList_plain hgd fun _ hK=>wp_append_by w s x ho v L lo hs hP v2 L2 lo2 hx hP2 hlen hlo fun a' c' w' h2 h3=>hK _ _ (h a' c' w' h2 h3)
theorem bys_one (w:World) (c:UInt8) (z:Int) (hz:z = (c.toNat:Int)):Bys (w.alloc (.cells #[.int .u8 z] 5)) w.heap.size (.slice (some ⟨w.heap.size,0,none⟩) 1 1) [c]:=by
 subst hz
 exact World.ownsRow_lit (base:=w.heap.size) (e:=5) (size:=1) w #[.int .u8 c.toNat] 1 (Nat.le_refl _) (by unfold maxLen;omega) rfl
theorem wp_append_gen (w:World) {o:Oper} {a:Act} {K:Act → World → Prop} {Q:Exit → Act → World → Prop} (s x:Operand) (t e:TypeId) (z:Value) (size bytes:Nat)
  (ho:o.op = .call { callee:=.builtin .append,args:=#[s,x],argTypes:=#[t,t] }) (ht:Tryz.prog.underlying t = some (.slice e)) (hi:(Tryz.prog.info? e).map (fun i=>(i.zero,i.size,i.bytes)) = some (some z,size,bytes))
  (hzs:z.cells.size = size) (hsz:0 < size) (v:Value) (n:Nat) (xs:List Value) (lo:Nat) (hs:a.eval s = v) (hP:w.ownsRow lo e size v n xs) (ad:Addr) (m c:Nat) (news:List Value) (hx:a.eval x = .slice (some ad) m c)
  (hl:news.length = m * size) (hnews:∀ j u,news[j]? = some u → w.cell? (ad.add j) = some u) (h1:∀ u ∈ news,u.oneCell' = true) (hlen:n + m ≤ maxLen) (hbytes:(n + m) * bytes ≤ 140737488355328) (hlo:lo ≤ w.heap.size)
  (h:∀ a' c' w',w'.ownsRow lo e size (.slice a' (n + m) c') (n + m) (xs ++ news) → Grew w w' v (.slice a' (n + m) c') → K (a.put o.dst (.slice a' (n + m) c')) w'):o.wp Tryz.prog a w K Q:=by
 obtain ⟨iI,hiI,hI0,hI1,hI2⟩:=info_parts hi
 obtain ⟨v',w',hr,h2,h3,_,h5⟩:=run_append_own_at (P:=Tryz.prog) w lo t o.type e iI z size bytes ht hiI hI0 hI1 hI2 hzs hsz v n xs hP ad m c news hl hnews h1 hlen hbytes hlo
 obtain ⟨a',c',hv'⟩:=own_slice h2
 subst hv'
 have hG:Grew w w' v (.slice a' (n + m) c'):=⟨h3,fun k hk=>by
  rcases h5 with h5 | h5
  ·exact Or.inl (h5 ▸ hk)
  ·rw [hk] at h5;cases h5;exact Or.inr (Nat.le_refl _)⟩
 unfold Oper.wp execOp
 simp only [ho,resolve,invoke,builtin,Sem.run_bind,Sem.run_pure,Result.andThen_ok,List.map_toArray,List.map_cons,List.map_nil,hs,hx,hr]
 exact h a' c' w' h2 hG
theorem wpList_append_gen (w:World) {ops:Array Oper} {rest:List Oper} {o:Oper} {a:Act} {Q:Exit → Act → World → Prop} (hgd:o.guard = none) (s x:Operand) (t e:TypeId) (z:Value) (size bytes:Nat)
  (ho:o.op = .call { callee:=.builtin .append,args:=#[s,x],argTypes:=#[t,t] }) (ht:Tryz.prog.underlying t = some (.slice e)) (hi:(Tryz.prog.info? e).map (fun i=>(i.zero,i.size,i.bytes)) = some (some z,size,bytes))
  (hzs:z.cells.size = size) (hsz:0 < size) (v:Value) (n:Nat) (xs:List Value) (lo:Nat) (hs:a.eval s = v) (hP:w.ownsRow lo e size v n xs) (ad:Addr) (m c:Nat) (news:List Value) (hx:a.eval x = .slice (some ad) m c)
  (hl:news.length = m * size) (hnews:∀ j u,news[j]? = some u → w.cell? (ad.add j) = some u) (h1:∀ u ∈ news,u.oneCell' = true) (N:Nat) (hN:n + m = N) (X:List Value) (hX:xs ++ news = X) (hlen:n + m ≤ maxLen) (hbytes:(n + m) * bytes ≤ 140737488355328) (hlo:lo ≤ w.heap.size)
  (h:∀ a' c' w',w'.ownsRow lo e size (.slice a' N c') N X → Grew w w' v (.slice a' N c') → wpList Tryz.prog ops Q rest (a.put o.dst (.slice a' N c')) w'):wpList Tryz.prog ops Q (o :: rest) a w:=by
 subst hN hX
 exact wpList_plain hgd fun _ hK=>wp_append_gen w s x t e z size bytes ho ht hi hzs hsz v n xs lo hs hP ad m c news hx hl hnews h1 hlen hbytes hlo fun a' c' w' h2 h3=>hK _ _ (h a' c' w' h2 h3)
end Go.Proofs.YtdgcamlmjmnpeaaGreatDoor
namespace Go.Proofs.YtdgcamlmjmnpeaaGreatDoor
end Go.Proofs.YtdgcamlmjmnpeaaGreatDoor
namespace Go.Proofs.YtdgcamlmjmnpeaaGreatDoor
open Go.RowKit
def Rd (w:World) (v:Value) (L:List UInt8):Prop :=
 (v = .slice none 0 0 ∧ L = []) ∨ ∃ a c,v = .slice (some a) L.length c ∧ ∀ j u,(L.map byteCell)[j]? = some u → w.cell? (a.add j) = some u
theorem Rd.slice {w:World} {v:Value} {L:List UInt8} (h:Rd w v L):∃ a c,v = .slice a L.length c:=by
 rcases h with ⟨rfl,rfl⟩ | ⟨a,c,rfl,_⟩
 ·exact ⟨none,0,rfl⟩
 ·exact ⟨_,_,rfl⟩
theorem Bys.rd {w:World} {lo:Nat} {v:Value} {L:List UInt8} (h:Bys w lo v L):Rd w v L:=by
 rcases h.2 with ⟨rfl,h0⟩ | ⟨g,cap,cur,hv,r⟩
 ·exact Or.inl ⟨rfl,List.eq_nil_of_length_eq_zero h0⟩
 ·exact Or.inr ⟨_,_,hv,fun j u hu=>h.cells (g:=g) (by rw [hv];rfl) j u hu⟩
theorem rd_add (a:Addr) (j:Nat) (h:a.spot = none):a.add j = ⟨a.block,a.off + j,none⟩:=by
 obtain ⟨b,o,s⟩:=a
 simp only at h
 subst h
 unfold Addr.add
 split <;> simp_all
theorem Rd.at {w:World} {v:Value} {L:List UInt8} (h:Rd w v L) (h0:0 < L.length):∃ b o c,v = .slice (some ⟨b,o,none⟩) L.length c ∧ b < w.heap.size ∧ ∀ j (hj:j < L.length),w.cell? ⟨b,o + j,none⟩ = some (.int .u8 (L[j].toNat:Int)):=by
 rcases h with ⟨_,rfl⟩ | ⟨a,c,rfl,hc⟩
 ·simp at h0
 ·obtain ⟨b,o,s⟩:=a
  have h1:=hc 0 (byteCell L[0]) (by simp [List.getElem?_eq_getElem h0])
  have h2:(⟨b,o,s⟩:Addr).add 0 = ⟨b,o,s⟩:=by unfold Addr.add;simp
  rw [h2] at h1
  have hs:s = none:=World.cell?_spot h1
  subst hs
  refine ⟨b,o,c,rfl,World.block_lt_of_cell? _ _ h1,fun j hj=>?_⟩
  have:=hc j (byteCell L[j]) (by simp [List.getElem?_eq_getElem hj])
  rw [rd_add _ _ rfl] at this
  exact this
theorem Rd.same {w w':World} {v:Value} {L:List UInt8} (h:Rd w v L) {B:Nat} (hb:Below B w w') (hB:∀ k,v.ownBlock = some k → 0 < L.length → k < B):Rd w' v L:=by
 rcases h with h | ⟨a,c,rfl,hc⟩
 ·exact Or.inl h
 ·refine Or.inr ⟨a,c,rfl,fun j u hu=>?_⟩
  have hl:0 < L.length:=by
   rcases Nat.eq_zero_or_pos L.length with e | e
   ·have:=List.eq_nil_of_length_eq_zero e;subst this;simp at hu
   ·exact e
  have h1:=hc j u hu
  have h2:(a.add j).block = a.block:=by unfold Addr.add;split <;> rfl
  rw [hb.cell (p:=a.add j) (by rw [h2];exact hB a.block rfl hl)]
  exact h1
theorem Rd.lt {w:World} {v:Value} {L:List UInt8} (h:Rd w v L):∀ k,v.ownBlock = some k → 0 < L.length → k < w.heap.size:=by
 intro k hk hl
 obtain ⟨b,o,c,rfl,hb,_⟩:=h.at hl
 simp [Value.ownBlock] at hk
 omega
theorem Rd.later {w w':World} {v:Value} {L:List UInt8} (h:Rd w v L) (hb:Below w.heap.size w w'):Rd w' v L:=h.same hb h.lt
def strOf (L:List UInt8):ByteArray:=⟨L.toArray⟩
theorem strOf_nums (L:List UInt8):strOfNums (L.map fun c=>(c.toNat:Int)) = strOf L:=by
 unfold strOfNums strOf
 congr 2
 rw [List.map_map]
 conv=>rhs;rw [← List.map_id L]
 apply List.map_congr_left
 intro c _
 simp
theorem strOf_toList (L:List UInt8):(strOf L).toList = L:=by rw [ByteArray.toList_eq];rfl
theorem Rd.conv {w:World} {v:Value} {L:List UInt8} (h:Rd w v L):(convert 25 9 v).run Tryz.prog w = .ok (.string (strOf L)) w:=by
 rcases h with ⟨rfl,rfl⟩ | ⟨a,c,rfl,hc⟩
 ·exact run_convert_bytes_nil (P:=Tryz.prog) w 25 5 Tryz.underlying25 Tryz.underlying5 0 0 9 Tryz.underlying9
 ·have hl:(loadCells a L.length).run Tryz.prog w = .ok ((L.map fun c=>(c.toNat:Int)).map (Value.int .u8)).toArray w:=by
   have:=run_loadCells_list (P:=Tryz.prog) w a ((L.map fun c=>(c.toNat:Int)).map (Value.int .u8)) (fun j u hj=>hc j u (by rw [List.map_map] at hj;exact hj))
   simpa using this
  rw [run_convert_bytes_string w 25 9 5 _ L.length c Tryz.underlying25 Tryz.underlying5 Tryz.underlying9,run_bytesToString w _ L.length c _ hl,foldl_push_bytes]
  have e:=strOf_nums L
  unfold strOfNums at e
  simp only [ByteArray.empty,ByteArray.emptyWithCapacity]
  rw [← e]
  simp
  rfl
theorem wp_append_rd (w:World) {o:Oper} {a:Act} {K:Act → World → Prop} {Q:Exit → Act → World → Prop} (s x:Operand)
  (ho:o.op = .call { callee:=.builtin .append,args:=#[s,x],argTypes:=#[25,25] })
  (v:Value) (L:List UInt8) (lo:Nat) (hs:a.eval s = v) (hP:Bys w lo v L) (v2:Value) (L2:List UInt8) (hx:a.eval x = v2) (hP2:Rd w v2 L2)
  (hlen:L.length + L2.length ≤ 100000000000) (hlo:lo ≤ w.heap.size)
  (h:∀ a' c' w',Bys w' lo (.slice a' (L ++ L2).length c') (L ++ L2) → Grew w w' v (.slice a' (L ++ L2).length c') → K (a.put o.dst (.slice a' (L ++ L2).length c')) w'):o.wp Tryz.prog a w K Q:=by
 obtain ⟨iI,hiI,hI0,hI1,hI2⟩:=info_parts Tryz.infoByte
 obtain ⟨v',w',hr,h2,h3⟩:∃ v' w',(Builtin.append_ #[25,25] o.type #[v,v2]).run Tryz.prog w = .ok v' w' ∧ Bys w' lo v' (L ++ L2) ∧ Grew w w' v v':=by
  rcases hP2 with ⟨rfl,rfl⟩ | ⟨ad,cap,hv2,hc2⟩
  ·exact ⟨v,w,run_append_owned_none w lo 25 o.type 5 iI 1 Tryz.underlying25 hiI v L.length _ hP,by simpa using hP,Grew.refl _ _⟩
  ·subst hv2
   obtain ⟨v',w',hr,h2,h3,_,h5⟩:=run_append_own_at (P:=Tryz.prog) w lo 25 o.type 5 iI (.int .u8 0) 1 1 Tryz.underlying25 hiI hI0 hI1 hI2 rfl (by decide) v L.length (L.map byteCell) hP ad L2.length cap (L2.map byteCell) (by simp) hc2 (fun u hu=>by obtain ⟨q,_,rfl⟩:=List.mem_map.1 hu;rfl) (by unfold maxLen;omega) (by omega) hlo
   refine ⟨v',w',hr,?_,h3,fun k hk=>?_⟩
   ·show w'.ownsRow _ _ _ _ _ _
    rw [List.length_append,List.map_append];exact h2
   ·rcases h5 with h5 | h5
    ·exact Or.inl (h5 ▸ hk)
    ·rw [hk] at h5;cases h5;exact Or.inr (Nat.le_refl _)
 obtain ⟨a',c',hv'⟩:=own_slice h2
 subst hv'
 unfold Oper.wp execOp
 simp only [ho,resolve,invoke,builtin,Sem.run_bind,Sem.run_pure,Result.andThen_ok,List.map_toArray,List.map_cons,List.map_nil,hs,hx,hr]
 exact h a' c' w' h2 h3
theorem wpList_append_rd (w:World) {ops:Array Oper} {rest:List Oper} {o:Oper} {a:Act} {Q:Exit → Act → World → Prop} (hgd:o.guard = none) (s x:Operand)
  (ho:o.op = .call { callee:=.builtin .append,args:=#[s,x],argTypes:=#[25,25] })
  (v:Value) (L:List UInt8) (lo:Nat) (hs:a.eval s = v) (hP:Bys w lo v L) (v2:Value) (L2:List UInt8) (hx:a.eval x = v2) (hP2:Rd w v2 L2) (M:List UInt8) (hM:L ++ L2 = M)
  (hlen:L.length + L2.length ≤ 100000000000) (hlo:lo ≤ w.heap.size)
  (h:∀ a' c' w',Bys w' lo (.slice a' M.length c') M → Grew w w' v (.slice a' M.length c') → wpList Tryz.prog ops Q rest (a.put o.dst (.slice a' M.length c')) w'):wpList Tryz.prog ops Q (o :: rest) a w:=by
 subst hM
 exact wpList_plain hgd fun _ hK=>wp_append_rd w s x ho v L lo hs hP v2 L2 hx hP2 hlen hlo fun a' c' w' h2 h3=>hK _ _ (h a' c' w' h2 h3)
end Go.Proofs.YtdgcamlmjmnpeaaGreatDoor
namespace Go.Proofs.YtdgcamlmjmnpeaaGreatDoor
open Go.RowKit
end Go.Proofs.YtdgcamlmjmnpeaaGreatDoor
namespace Go.Proofs.YtdgcamlmjmnpeaaGreatDoor
open Go.RowKit
theorem Rd.turn {w w':World} {v:Value} {L:List UInt8} (h:Rd w v L) (hs:∀ k,v.ownBlock = some k → 0 < L.length → w'.heap[k]? = w.heap[k]?):Rd w' v L:=by
 rcases h with h | ⟨a,c,rfl,hc⟩
 ·exact Or.inl h
 ·refine Or.inr ⟨a,c,rfl,fun j u hu=>?_⟩
  have hl:0 < L.length:=by
   rcases Nat.eq_zero_or_pos L.length with e | e
   ·have:=List.eq_nil_of_length_eq_zero e;subst this;simp at hu
   ·exact e
  have h2:(a.add j).block = a.block:=by unfold Addr.add;split <;> rfl
  rw [World.cell?_of_block (w:=w) (w':=w') (a:=a.add j) (by rw [h2];exact hs a.block rfl hl)]
  exact hc j u hu
theorem Bys.put {w:World} {lo g c:Nat} {L:List UInt8} (h:Bys w lo (.slice (some ⟨g,0,none⟩) L.length c) L) (i:Nat) (m:UInt8):Bys (w.setCell ⟨g,i,none⟩ (byteCell m)) lo (.slice (some ⟨g,0,none⟩) (L.set i m).length c) (L.set i m):=by
 rcases h.2 with ⟨h0,_⟩ | ⟨g',cap,cur,hv,hb,hh,h1,h2,h3,h4⟩
 ·simp at h0
 ·simp at hv
  obtain ⟨rfl,rfl⟩:=hv
  refine ⟨by simp,.inr ⟨g,c,cur.setIfInBounds i (byteCell m),rfl,hb,?_,by simpa using h1,h2,by simpa using h3,?_⟩⟩
  ·simp only [World.setCell,Array.getElem?_modify,hh]
   simp
  ·rw [Array.toList_setIfInBounds,List.length_set,List.take_set,h4,List.map_set]
end Go.Proofs.YtdgcamlmjmnpeaaGreatDoor
namespace Go.Proofs.YtdgcamlmjmnpeaaGreatDoor
open Go.RowKit
end Go.Proofs.YtdgcamlmjmnpeaaGreatDoor
namespace Go.Proofs.YtdgcamlmjmnpeaaGreatDoor
open Go.RowKit
end Go.Proofs.YtdgcamlmjmnpeaaGreatDoor
namespace Go.Proofs.YtdgcamlmjmnpeaaGreatDoor
open Go.RowKit
theorem Rd.piece {w:World} {b o:Nat} {L:List UInt8} (h:∀ j (hj:j < L.length),w.cell? ⟨b,o + j,none⟩ = some (.int .u8 (L[j].toNat:Int))) (i n c':Nat) (hi:i + n ≤ L.length):Rd w (.slice (some ⟨b,o + i,none⟩) n c') ((L.drop i).take n):=by
 have hlen:((L.drop i).take n).length = n:=by simp;omega
 refine Or.inr ⟨⟨b,o + i,none⟩,c',by rw [hlen],fun j u hu=>?_⟩
 have hj:j < n:=by
  rcases Nat.lt_or_ge j n with h | h
  ·exact h
  ·rw [List.getElem?_eq_none (by simp;omega)] at hu;cases hu
 rw [rd_add _ _ rfl]
 have h1:=h (i + j) (by omega)
 have e:((L.drop i).take n)[j]? = some L[i + j]:=by
  rw [List.getElem?_take_of_lt hj,List.getElem?_drop,List.getElem?_eq_getElem (by omega)]
 rw [List.getElem?_map,e] at hu
 simp at hu
 subst hu
 rw [← Nat.add_assoc] at h1
 exact h1
end Go.Proofs.YtdgcamlmjmnpeaaGreatDoor
