/- A walk through a select of one case with a default, in one goroutine: the walk's own rules again, for frames of the plain kind. -/
import Derived.Test.YtgalebcpagmohaaGreatDoorMFrA
import Derived.Conc.LoneSelect
import Derived.Laws.StructEq
import Derived.MapKept
import Derived.DeepKeys3
import Derived.Deep.RegionWith
import Derived.Laws.ResultCell
import Derived.Laws.IdiomRangeMap
set_option linter.unusedSimpArgs false
set_option linter.unusedVariables false
set_option maxHeartbeats 2000000
set_option maxRecDepth 100000
namespace Go.Proofs.YtgalebcpagmohaaGreatDoor
open Go.Proofs.Tryz
open Go.RowKit Go.Conc
def Ua (P:Program) (c:Code) (Q:Exit→Act→World→Prop) (a:Act) (w:World):Prop :=
 ∀ (b:Frame) (k:List Item) (cs:List Frame),b.kind=.normal →
  ∃ e a' w',Q e a' w'∧Arrives P (lone (b.at a (.code c::k)) cs w) b k cs e a' w'
section
variable {P:Program} {Q:Exit→Act→World→Prop} {a:Act} {w:World}
theorem vM {c:Code} (h:c.wp P Q a w):Ua P c Q a w:=fun b k cs _=>h b k cs
theorem Ih {x y:Code} (h:Ua P x (Exit.then (Ua P y Q) Q) a w):Ua P (Code.seq x y) Q a w:=by
 intro b k cs hb
 obtain⟨e,a₁,w₁,hq,harr⟩:=h b (.code y::k) cs hb
 cases e with
 | normal=>
  obtain⟨e₂,a₂,w₂,hq₂,harr₂⟩:=hq b k cs hb
  exact⟨e₂,a₂,w₂,hq₂,.of_steps (.head step_seq harr) harr₂⟩
 | exit id=>exact⟨_,a₁,w₁,hq,.of_steps (.one step_seq) (.pass (x:=.code y) rfl (fun _ _=>.inl (by simp)) harr)⟩
 | goto l=>exact⟨_,a₁,w₁,hq,.of_steps (.one step_seq) (.pass (x:=.code y) rfl (fun _ _=>.inl (by simp)) harr)⟩
 | ret=>exact⟨_,a₁,w₁,hq,.of_steps (.one step_seq) (.pass (x:=.code y) rfl (fun _ _=>.inl (by simp)) harr)⟩
 | panic ch=>exact⟨_,a₁,w₁,hq,.of_steps (.one step_seq) (.pass (x:=.code y) rfl (fun _ _=>.inl (by simp)) harr)⟩
 | outgrown=>exact⟨_,a₁,w₁,hq,.of_steps (.one step_seq) (.pass (x:=.code y) rfl (fun _ _=>.inl (by simp)) harr)⟩
theorem nS {x y:Code} (h:∀ K:Act→World→Prop,(∀ a w,Ua P y Q a w→K a w)→x.wp P (Exit.then K Q) a w):Ua P (Code.seq x y) Q a w :=
 Ih (vM (h _ fun _ _ h=>h))
theorem FU {id:Nat} {c:Code} (h:Ua P c (Exit.inBlock id Q) a w):Ua P (Code.block id c) Q a w:=by
 intro b k cs hb
 obtain⟨e,a₁,w₁,hq,harr⟩:=h b (.inBlock id::k) cs hb
 cases e with
 | normal=>exact⟨.normal,a₁,w₁,hq,.head step_block (Steps.trans harr (.one step_inBlock))⟩
 | exit id'=>
  by_cases hid:id'=id
  ·simp only[Exit.inBlock,hid,if_true] at hq
   exact⟨.normal,a₁,w₁,hq,.head step_block (harr k (by simp[exitTo,hid]))⟩
  ·simp only[Exit.inBlock,hid,if_false] at hq
   refine⟨.exit id',a₁,w₁,hq,fun k' hk=>.head step_block (harr k' ?_)⟩
   have:(id==id')=false:=by simp;exact fun h=>hid h.symm
   simp[exitTo,this,hk]
 | goto l=>exact⟨_,a₁,w₁,hq,fun k' hk=>.head step_block (harr k' (by simp[gotoIn,hk]))⟩
 | ret=>exact⟨_,a₁,w₁,hq,.of_steps (.one step_block) harr⟩
 | panic ch=>exact⟨_,a₁,w₁,hq,.of_steps (.one step_block) harr⟩
 | outgrown=>exact⟨_,a₁,w₁,hq,.of_steps (b:=b) (k:=k) (cs:=cs) (e:=.outgrown) (.one step_block) harr⟩
theorem Us {c:Code} (I:Act→World→Prop) (μ:Act→World→Nat) (h₀:I a w)
  (round:∀ a w,I a w→Ua P c (Exit.then (fun a' w'=>I a' w' ∧ μ a' w' < μ a w) Q) a w):Ua P (Code.loop c) Q a w:=by
 intro b k cs hb
 have key:∀ n a w,μ a w=n→I a w→∃ e a' w',Q e a' w'∧Arrives P (lone (b.at a (.code c::.inLoop c::k)) cs w) b k cs e a' w':=by
  intro n
  induction n using Nat.strongRecOn with
  | _ n ih=>
   intro a w hn hI
   obtain⟨e,a₁,w₁,hq,harr⟩:=round a w hI b (.inLoop c::k) cs hb
   cases e with
   | normal=>
    obtain⟨hI₁,hlt⟩:=hq
    obtain⟨e₂,a₂,w₂,hq₂,harr₂⟩:=ih (μ a₁ w₁) (hn ▸ hlt) a₁ w₁ rfl hI₁
    exact⟨e₂,a₂,w₂,hq₂,.of_steps (Steps.trans harr (.one step_inLoop)) harr₂⟩
   | exit id=>exact⟨_,a₁,w₁,hq,.pass (x:=.inLoop c) rfl (fun _ _=>.inl (by simp)) harr⟩
   | goto l=>exact⟨_,a₁,w₁,hq,.pass (x:=.inLoop c) rfl (fun _ _=>.inl (by simp)) harr⟩
   | ret=>exact⟨_,a₁,w₁,hq,.pass (x:=.inLoop c) rfl (fun _ _=>.inl (by simp)) harr⟩
   | panic ch=>exact⟨_,a₁,w₁,hq,.pass (x:=.inLoop c) rfl (fun _ _=>.inl (by simp)) harr⟩
   | outgrown=>exact⟨_,a₁,w₁,hq,.pass (x:=.inLoop c) rfl (fun _ _=>.inl (by simp)) harr⟩
 obtain⟨e,a',w',hq,harr⟩:=key _ a w rfl h₀
 exact⟨e,a',w',hq,.of_steps (.one step_loop) harr⟩
def Ub (P:Program) (ops:Array Oper) (Q:Exit→Act→World→Prop) (l:List Nat) (a:Act) (w:World):Prop :=
 ∀ (b:Frame) (k:List Item) (cs:List Frame),b.kind=.normal →
  ∃ e a' w',Q e a' w'∧Arrives P (lone (b.at a (.inRegion ops l::k)) cs w) b k cs e a' w'
theorem Cc {id:Nat} {ops:Array Oper} (h:Ub P ops Q (List.range ops.size) a w):Ua P (Code.region id ops false) Q a w :=
 fun b k cs hb=>let ⟨e,a',w',q,r⟩:=h b k cs hb;⟨e,a',w',q,.of_steps (.one step_region) r⟩
theorem Ii {ops:Array Oper} (h:Q .normal a w):Ub P ops Q [] a w:=fun b k cs _=>⟨.normal,a,w,h,.one step_region_end⟩
theorem zq {ops:Array Oper} {i:Nat} {l:List Nat} {o:Oper} {v:Value} {w':World} (ho:ops[i]? = some o) (hw:Region.wanted o (yielded ops a.tmps)=true) (hr:(execOp a.eval o).run P w=.ok (.value v) w') (h:Ub P ops Q l (a.put o.dst v) w'):Ub P ops Q (i::l) a w:=by
 intro b k cs hb
 obtain⟨e,a',w'',hq,harr⟩:=h b k cs hb
 refine⟨e,a',w'',hq,.of_steps (.one (step_lone_go ?_)) harr⟩
 have hfin:(b.at a (.inRegion ops (i::l)::k)).finish v=b.at (a.put o.dst v) (.inRegion ops l::k):=by
  rw[Frame.finish_at,ho];rfl
 rw[stepG_op (P:=P) (b:=b) (k:=k) (cs:=cs) (w:=w) (rest:=l) ho hw,← hfin]
 simp[stepG.apply,hr]
theorem Ce {ops:Array Oper} {i:Nat} {l:List Nat} {o:Oper} {v:Value} {w':World} (ho:ops[i]? = some o)
  (hs:∀ (b:Frame) (k:List Item) (cs:List Frame),b.kind=.normal→step P (solo (G (b.at a (.inRegion ops (i::l)::k)) cs) w)=.next (solo (G ((b.at a (.inRegion ops (i::l)::k)).finish v) cs) w'))
  (h:Ub P ops Q l (a.put o.dst v) w'):Ub P ops Q (i::l) a w:=by
 intro b k cs hb
 obtain⟨e,a',w'',hq,harr⟩:=h b k cs hb
 have hfin:(b.at a (.inRegion ops (i::l)::k)).finish v=b.at (a.put o.dst v) (.inRegion ops l::k):=by
  rw[Frame.finish_at,ho];rfl
 have:=hs b k cs hb
 rw[hfin] at this
 exact⟨e,a',w'',hq,.of_steps (.one this) harr⟩
theorem Ci {b:Frame} (h:b.kind=.normal):b.kind≠.early:=by rw[h];intro e;cases e
theorem Ut {ops:Array Oper} {i:Nat} {l:List Nat} {o:Oper} {c cap s r:Nat} {buf:Array Value} {tm:Bool} {v z:Value} (ho:ops[i]? = some o) (hw:Region.wanted o (yielded ops a.tmps)=true)
  (hr:(execOp a.eval o).run P w=.ok (.comm #[scase c v z] false .select) w) (hc:w.heap[c]? = some (.chan cap buf false s r tm)) (hroom:buf.size<cap)
  (h:Ub P ops Q l (a.put o.dst (.tuple #[goInt 0,.bool false])) (w.setChan c cap (buf.push v) false (s+1) r tm)):Ub P ops Q (i::l) a w :=
 Ce ho (fun _ _ _ hb=>step_lone_select_send_room (stepG_comm ho hw (Ci hb) hr) hc hroom) h
theorem Uu {ops:Array Oper} {i:Nat} {l:List Nat} {o:Oper} {c cap s r:Nat} {buf:Array Value} {tm:Bool} {z:Value} (ho:ops[i]? = some o) (hw:Region.wanted o (yielded ops a.tmps)=true)
  (hr:(execOp a.eval o).run P w=.ok (.comm #[rcase c z] false .select) w) (hc:w.heap[c]? = some (.chan cap buf false s r tm)) (hsome:0<buf.size)
  (h:Ub P ops Q l (a.put o.dst (.tuple #[goInt 0,.bool true,buf.getD 0 undef])) (w.setChan c cap (buf.extract 1 buf.size) false s (r+1) tm)):Ub P ops Q (i::l) a w :=
 Ce ho (fun _ _ _ hb=>step_lone_select_recv_buf (stepG_comm ho hw (Ci hb) hr) hc hsome) h
theorem Uw {ops:Array Oper} {i:Nat} {l:List Nat} {o:Oper} {c cap s r:Nat} {tm:Bool} {z:Value} (ho:ops[i]? = some o) (hw:Region.wanted o (yielded ops a.tmps)=true)
  (hr:(execOp a.eval o).run P w=.ok (.comm #[rcase c z] false .select) w) (hc:w.heap[c]? = some (.chan cap #[] false s r tm))
  (h:Ub P ops Q l (a.put o.dst (.tuple #[goInt (-1),.bool false,z])) w):Ub P ops Q (i::l) a w :=
 Ce ho (fun _ _ _ hb=>step_lone_select_default (stepG_comm ho hw (Ci hb) hr) hc) h
theorem xQ {f:FuncId} {fn:Func} {c:Code} {args:Array Value} {R:Ending→World→Prop} (hf:P.funcs[f]? = some fn) (hb:fn.body=some c)
  (h:Ua P c (bodyPost P fn R) { tmps:=args++Array.replicate (fn.ntmps-args.size) undef,defers:=[] } w):Calls P f args w R:=by
 intro cs
 let b:Frame:={ (default:Frame) with fn:=f,kind:=.normal }
 have henter:Frame.enter P f args .normal=b.at { tmps:=args++Array.replicate (fn.ntmps-args.size) undef,defers:=[] } [.code c]:=by
  simp[Frame.enter,Frame.at,hf,hb,b]
 obtain⟨e,a',w',hq,harr⟩:=h b [] cs rfl
 rw[← henter] at harr
 cases e with
 | normal=>
  obtain⟨hd,v,hr,hR⟩:=hq
  exact⟨.returned v,w',_,hR,Steps.trans harr (.one step_end),rfl,rfl,hd,rfl,fn,hf,hr⟩
 | ret=>
  obtain⟨hd,v,hr,hR⟩:=hq
  obtain⟨todo,hs⟩:=harr
  exact⟨.returned v,w',_,hR,hs,rfl,rfl,hd,rfl,fn,hf,hr⟩
 | panic chain=>
  obtain⟨hd,hR⟩:=hq
  obtain⟨todo,hs⟩:=harr
  exact⟨.panicked chain,w',_,hR,hs,rfl,rfl,hd,fn,hf⟩
 | exit id=>exact hq.elim
 | goto l=>exact hq.elim
 | outgrown=>exact⟨.outgrown,w',b,hq,harr.resolve_left (by simp[b]),rfl,trivial⟩
end
end Go.Proofs.YtgalebcpagmohaaGreatDoor
namespace Go.Proofs.YtgalebcpagmohaaGreatDoor
open Go.Proofs.Tryz
open Go.RowKit
structure aN (F:Nat→Prop) (w w':World):Prop where
 os:w'.os=w.os
 tape:w'.tape=w.tape
 output:w'.output=w.output
 size:w.heap.size≤w'.heap.size
 block:∀ k,k<w.heap.size→¬ F k→w'.heap[k]? = w.heap[k]?
theorem aN.refl (F:Nat→Prop) (w:World):aN F w w:=⟨rfl,rfl,rfl,Nat.le_refl _,fun _ _ _=>rfl⟩
theorem aN.trans {F G:Nat→Prop} {a b c:World} (h:aN F a b) (k:aN G b c) (hg:∀ i,i<a.heap.size→G i→F i):aN F a c :=
 ⟨k.os.trans h.os,k.tape.trans h.tape,k.output.trans h.output,Nat.le_trans h.size k.size,fun i hi hf=>(k.block i (Nat.lt_of_lt_of_le hi h.size) (fun e=>hf (hg i hi e))).trans (h.block i hi hf)⟩
theorem aN.same {F:Nat→Prop} {a b c:World} (h:aN F a b) (k:aN F b c):aN F a c:=h.trans k (fun _ _ e=>e)
theorem aN.mono {F G:Nat→Prop} {a b:World} (h:aN F a b) (hg:∀ i,i<a.heap.size→F i→G i):aN G a b :=
 ⟨h.os,h.tape,h.output,h.size,fun i hi hf=>h.block i hi (fun e=>hf (hg i hi e))⟩
theorem aN.of_below {F:Nat→Prop} {a b:World} (h:Below a.heap.size a b):aN F a b:=⟨h.os,h.tape,h.output,h.size,fun i hi _=>h.block i hi⟩
theorem aN.below {F:Nat→Prop} {a b:World} (h:aN F a b) {B:Nat} (hB:B≤a.heap.size) (hF:∀ i,F i→B≤i):Below B a b :=
 ⟨h.os,h.tape,h.output,h.size,fun i hi=>h.block i (by omega) (fun e=>by have:=hF i e;omega)⟩
theorem aN.wY {F:Nat→Prop} {a b c:World} (h:aN F a b) (k:Below b.heap.size b c):aN F a c:=h.same (aN.of_below k)
theorem aN.alloc {F:Nat→Prop} {a b:World} (h:aN F a b) (o:Obj):aN F a (b.alloc o):=h.wY ((Below.refl _ _).alloc (Nat.le_refl _) o)
theorem aN.drew {F:Nat→Prop} {a b:World} (h:aN F a b):aN F a b.drew:=⟨h.os,h.tape,h.output,h.size,h.block⟩
theorem aN.setCell {F:Nat→Prop} {a b:World} (h:aN F a b) (p:Addr) (u:Value) (hp:p.block<a.heap.size→F p.block):aN F a (b.setCell p u) :=
 ⟨h.os,h.tape,h.output,by simpa using h.size,fun k hk hf=>by
  rw[Below.heap_setCell b p u k (fun e=>hf (e ▸ hp (e ▸ hk)))]
  exact h.block k hk hf⟩
theorem aN.setChan {F:Nat→Prop} {a b:World} (h:aN F a b) (c cap:Nat) (buf:Array Value) (cl:Bool) (s r:Nat) (tm:Bool) (hc:c<a.heap.size→F c):aN F a (b.setChan c cap buf cl s r tm) :=
 ⟨h.os,h.tape,h.output,by simpa[World.setChan] using h.size,fun k hk hf=>by
  rw[← h.block k hk hf]
  simp only[World.setChan]
  have hne:c≠k:=fun e=>by subst e;exact hf (hc hk)
  rw[Array.getElem?_setIfInBounds_ne hne]⟩
theorem aN.grew {F:Nat→Prop} {a b:World} {v v':Value} (h:Grew a b v v') (hv:∀ k,v.ownBlock=some k→F k):aN F a b :=
 ⟨h.g.os,h.g.tape,h.g.output,h.g.size,fun k hk hf=>h.g.block k hk (fun e=>hf (hv k e.symm))⟩
theorem aN.cell {F:Nat→Prop} {a b:World} (h:aN F a b) {p:Addr} (hp:p.block<a.heap.size) (hf:¬ F p.block):b.cell? p=a.cell? p:=World.cell?_of_block (w:=a) (h.block p.block hp hf)
theorem aN.own {F:Nat→Prop} {a b:World} (h:aN F a b) {lo:Nat} {e:TypeId} {size n:Nat} {v:Value} {xs:List Value} (ho:a.ownsRow lo e size v n xs) (hf:∀ g,v.ownBlock=some g→¬ F g):b.ownsRow lo e size v n xs :=
 au ho (fun g hg=>h.block g (ho.lt g hg).2 (hf g hg))
structure gG where
 kind:Nat
 token:Nat
 session:Nat
 number:Nat
 position:Nat
 data:ByteArray
def pc (p:gG):Array Value:=#[.int .u8 p.kind,.int .u64 p.token,.int .u64 p.session,.int .u64 p.number,.int .u64 p.position,.string p.data]
def pv (p:gG):Value:=.agg (pc p)
def zu (p q:gG):Bool:=((p.kind:Int)==q.kind)&&(((p.token:Int)==q.token)&&(((p.session:Int)==q.session)&&(((p.number:Int)==q.number)&&(((p.position:Int)==q.position)&&(p.data.toList==q.data.toList)))))
theorem Cj {p q:gG}:zu p q=true↔p=q:=by
 obtain⟨a,b,c,d,e,f⟩:=p
 obtain⟨a',b',c',d',e',f'⟩:=q
 simp only[zu,Bool.and_eq_true,beq_iff_eq,gG.mk.injEq]
 constructor
 ·rintro⟨h1,h2,h3,h4,h5,h6⟩
  refine⟨by omega,by omega,by omega,by omega,by omega,?_⟩
  rw[ByteArray.toList_eq,ByteArray.toList_eq] at h6
  exact ByteArray.ext (Array.toList_inj.1 h6)
 ·rintro⟨rfl,rfl,rfl,rfl,rfl,rfl⟩
  simp
theorem FV:Tryz.prog.fieldsOf 162 = #[{ name:= "Kind",type:=160,offset:=0,embedded:=false,tag:= "",pkgPath:= "",byteOffset:=0 },{ name:= "Token",type:=22,offset:=1,embedded:=false,tag:= "",pkgPath:= "",byteOffset:=8 },{ name:= "Session",type:=22,offset:=2,embedded:=false,tag:= "",pkgPath:= "",byteOffset:=16 },{ name:= "Number",type:=22,offset:=3,embedded:=false,tag:= "",pkgPath:= "",byteOffset:=24 },{ name:= "Position",type:=22,offset:=4,embedded:=false,tag:= "",pkgPath:= "",byteOffset:=32 },{ name:= "Data",type:=9,offset:=5,embedded:=false,tag:= "",pkgPath:= "",byteOffset:=40 }]:=by
 simp[Program.fieldsOf,underlying162]
theorem QM (w:World) (p q:gG):(Op.equal 162 (pv p) (pv q)).run Tryz.prog w=.ok (zu p q) w:=by
 unfold pv pc zu
 rw[Op.equal,Op.maxDepth,run_equalIn_struct w 9999 162 _ _ (by rw[FV,underlying162]) Tryz.stoodInHeld162,FV]
 simp[Op.eqFields,go_sem]
 by_cases h1:(p.kind:Int)=q.kind
 ·by_cases h2:(p.token:Int)=q.token
  ·by_cases h3:(p.session:Int)=q.session
   ·by_cases h4:(p.number:Int)=q.number
    ·by_cases h5:(p.position:Int)=q.position
     ·by_cases h6:p.data.toList=q.data.toList
      ·simp[h1,h2,h3,h4,h5,h6]
      ·simp[h1,h2,h3,h4,h5,h6]
     ·simp[h1,h2,h3,h4,h5]
    ·simp[h1,h2,h3,h4]
   ·simp[h1,h2,h3]
  ·simp[h1,h2]
 ·simp[h1]
theorem Ny (w:World) (em:Bool) (p:gG) (N:Nat):(Instr.checkKey em (N+1+1) 162 (pv p)).run Tryz.prog w=.ok () w:=by
 have h1:∀ z:Int,(Instr.checkKey em (N+1) 160 (.int .u8 z)).run Tryz.prog w=.ok () w:=fun z=>MapKept.run_checkKey underlying160 (by simp[MapKept.IsKey]) em N
 have h2:∀ z:Int,(Instr.checkKey em (N+1) 22 (.int .u64 z)).run Tryz.prog w=.ok () w:=fun z=>MapKept.run_checkKey underlying22 (by simp[MapKept.IsKey]) em N
 have h3:∀ z:ByteArray,(Instr.checkKey em (N+1) 9 (.string z)).run Tryz.prog w=.ok () w:=fun z=>MapKept.run_checkKey underlying9 (by simp[MapKept.IsKey]) em N
 generalize hM:N+1=M at *
 rw[Instr.checkKey]
 unfold pv pc
 simp[run_underlying underlying162,go_sem,h1,h2,h3]
theorem vN (w:World) (em:Bool) (p:gG):(Instr.checkKey em 10000 162 (pv p)).run Tryz.prog w=.ok () w:=Ny w em p 9998
theorem Cm (w:World) (p:gG):∀ (es:List MapEntry) (L:List gG) (i:Nat),es.map (fun e=>e.key)=L.map pv→(Instr.findAsking 162 (pv p) es i).run Tryz.prog w=.ok ((L.findIdx? (zu p)).bind fun j=>(es[j]?).map fun e=>(i+j,e.val)) w
 | [],[],i,_=>by simp[Instr.findAsking]
 | [],_::_,i,h=>by simp at h
 | _::_,[],i,h=>by simp at h
 | e::es,q::L,i,h=>by
  simp only[List.map_cons,List.cons.injEq] at h
  rw[Instr.findAsking]
  simp only[Sem.run_bind,h.1,QM,Result.andThen_ok]
  cases hb:zu p q with
  | true=>simp[List.findIdx?_cons,hb]
  | false=>
   simp only[Bool.false_eq_true,if_false,Cm w p es L (i+1) h.2,List.findIdx?_cons,hb]
   congr 1
   cases L.findIdx? (zu p) with
   | none=>rfl
   | some j=>
    simp only[Option.bind_some,Option.map_some,List.getElem?_cons_succ]
    congr 1
    funext x
    congr 1
    omega
theorem xR (w:World) (p:gG) (es:List MapEntry) (L:List gG) (h:es.map (fun e=>e.key)=L.map pv):(Instr.findKey 162 (pv p) es).run Tryz.prog w=.ok ((L.findIdx? (zu p)).bind fun j=>(es[j]?).map fun e=>(j,e.val)) w:=by
 unfold Instr.findKey
 simp only[Sem.run_bind,run_underlying underlying162,Result.andThen_ok]
 cases es with
 | nil=>
  cases L with
  | nil=>simp[Instr.findNow]
  | cons q L=>simp at h
 | cons e es=>
  have hn:∀ d:Array Field,Instr.findNow (.struct d) (pv p) (e::es) 0=none:=fun d=>by simp[Instr.findNow,Instr.sameNow,pv]
  rw[hn]
  simp only
  rw[Cm w p (e::es) L 0 h]
  simp
def Waits (w:World) (m:Nat) (L:List gG):Prop:=∃ es clock,w.heap[m]? = some (.map es clock)∧es.toList.map (fun e=>e.key)=L.map pv∧∀ e∈es.toList,e.val=.agg #[]
theorem FW {p:gG} {L:List gG} (h:¬ p∈L):L.findIdx? (zu p)=none:=by
 rw[List.findIdx?_eq_none_iff]
 intro x hx
 cases hb:zu p x with
 | false=>rfl
 | true=>exact absurd (Cj.1 hb ▸ hx) h
theorem Nz {p:gG} {L:List gG} (h:p∈L):∃ j,L.findIdx? (zu p)=some j∧j<L.length:=by
 cases e:L.findIdx? (zu p) with
 | none=>
  rw[List.findIdx?_eq_none_iff] at e
  have:=e p h
  rw[Cj.2 rfl] at this
  cases this
 | some j=>
  refine⟨j,rfl,?_⟩
  rw[List.findIdx?_eq_some_iff_getElem] at e
  exact e.1
def aaf (p:gG) (L:List gG):Decidable (p∈L):=match h:L.findIdx? (zu p) with
 | some _=>.isTrue (by
  rw[List.findIdx?_eq_some_iff_getElem] at h
  obtain⟨hj,hb,_⟩:=h
  rw[Cj.1 hb]
  exact List.getElem_mem hj)
 | none=>.isFalse (fun hp=>by
  obtain⟨j,e,_⟩:=Nz hp
  rw[e] at h
  cases h)
theorem QN (w:World):(zeroValue 241).run Tryz.prog w=.ok (.agg #[]) w:=by
 simp[go_sem]
theorem sO {w:World} {m:Nat} {L:List gG} (h:Waits w m L) (p:gG):(Instr.lookup 63 (.map (some m)) (pv p) true).run Tryz.prog w=.ok (.tuple #[.agg #[],.bool (@decide (p∈L) (aaf p L))]) w:=by
 obtain⟨es,clock,hb,hk,hv⟩:=h
 by_cases hp:p∈L
 ·obtain⟨j,hj,hjl⟩:=Nz hp
  have hlen:j<es.toList.length:=by have:=congrArg List.length hk;simp only[List.length_map] at this;omega
  have hval:=hv _ (List.getElem_mem hlen)
  have he:es[j]? = some es.toList[j]:=by rw[← Array.getElem?_toList,List.getElem?_eq_getElem hlen]
  simp[Instr.lookup,run_underlying underlying63,MapKept.run_getObj_map hb,vN,xR w p es.toList L hk,hj,he,Result.andThen,hp]
  simpa using hval
 ·simp[Instr.lookup,run_underlying underlying63,MapKept.run_getObj_map hb,vN,xR w p es.toList L hk,FW hp,QN,Result.andThen,hp]
def qH (w:World) (m:Nat) (p:gG):World:=match w.heap[m]? with
 | some (.map es clock)=>{ w with heap:=w.heap.setIfInBounds m (.map (es.push ⟨pv p,.agg #[],clock⟩) (clock+1)) }
 | _=>w
theorem NC {w:World} {m:Nat} {L:List gG} (h:Waits w m L) (p:gG) (hp:¬ p∈L):(Instr.mapUpdate 63 (.map (some m)) (pv p) (.agg #[])).run Tryz.prog w=.ok () (qH w m p):=by
 obtain⟨es,clock,hb,hk,hv⟩:=h
 unfold qH
 rw[hb]
 simp[Instr.mapUpdate,run_underlying underlying63,MapKept.run_getObj_map hb,vN,xR w p es.toList L hk,FW hp,MapKept.run_setObj_map _ hb,Result.andThen]
theorem E8 {w:World} {m:Nat} {L:List gG} (h:Waits w m L) (p:gG):Waits (qH w m p) m (L++[p]):=by
 obtain⟨es,clock,hb,hk,hv⟩:=h
 have hlt:m<w.heap.size:=(Array.getElem?_eq_some_iff.1 hb).1
 unfold qH
 rw[hb]
 refine⟨es.push ⟨pv p,.agg #[],clock⟩,clock+1,by simp[hlt],by simp[hk],fun e he=>?_⟩
 simp only[Array.toList_push,List.mem_append,List.mem_singleton] at he
 rcases he with he | rfl
 ·exact hv e he
 ·rfl
theorem zZ {F:Nat→Prop} (w:World) (m:Nat) (p:gG) (hm:F m):aN F w (qH w m p):=by
 unfold qH
 split
 ·refine⟨rfl,rfl,rfl,by simp,fun k hk hf=>?_⟩
  have hne:m≠k:=fun e=>by subst e;exact hf hm
  rw[Array.getElem?_setIfInBounds_ne hne]
 ·exact aN.refl _ _
def qI (w:World) (m:Nat):World:=match w.heap[m]? with
 | some (.map es clock)=>{ w with heap:=w.heap.setIfInBounds m (.map (es.eraseIdxIfInBounds 0) clock) }
 | _=>w
theorem ND {w:World} {m:Nat} {p:gG} {L:List gG} (h:Waits w m (p::L)) (ty:TypeId):(Builtin.delete_ #[63,162] ty #[.map (some m),pv p]).run Tryz.prog w=.ok (.tuple #[]) (qI w m):=by
 obtain⟨es,clock,hb,hk,hv⟩:=h
 have hlen:0<es.toList.length:=by have:=congrArg List.length hk;simp only[List.length_map,List.length_cons] at this;omega
 have he:es[0]? = some es.toList[0]:=by rw[← Array.getElem?_toList,List.getElem?_eq_getElem hlen]
 have h0:(p::L).findIdx? (zu p)=some 0:=by rw[List.findIdx?_cons,Cj.2 rfl];rfl
 unfold qI
 rw[hb]
 simp[Builtin.delete_,run_underlying underlying63,MapKept.run_getObj_map hb,vN,xR w p es.toList (p::L) hk,h0,he,MapKept.run_setObj_map _ hb,Result.andThen]
theorem Fa {w:World} {m:Nat} {p:gG} {L:List gG} (h:Waits w m (p::L)):Waits (qI w m) m L:=by
 obtain⟨es,clock,hb,hk,hv⟩:=h
 have hlt:m<w.heap.size:=(Array.getElem?_eq_some_iff.1 hb).1
 have ht:(es.eraseIdxIfInBounds 0).toList=es.toList.tail:=by
  obtain⟨l⟩:=es
  simp
 unfold qI
 rw[hb]
 refine⟨es.eraseIdxIfInBounds 0,clock,by simp[hlt],?_,fun e he=>?_⟩
 ·rw[ht,List.map_tail,hk];rfl
 ·rw[ht] at he
  exact hv e (List.mem_of_mem_tail he)
theorem JO {F:Nat→Prop} (w:World) (m:Nat) (hm:F m):aN F w (qI w m):=by
 unfold qI
 split
 ·refine⟨rfl,rfl,rfl,by simp,fun k hk hf=>?_⟩
  have hne:m≠k:=fun e=>by subst e;exact hf hm
  rw[Array.getElem?_setIfInBounds_ne hne]
 ·exact aN.refl _ _
open Go.Conc
def nN (up:Bool) (L:List gG) (p:gG):List gG :=
 letI:=aaf p L
 if up=true∧¬ p∈L∧L.length<60 then L++[p] else L
def wB (w:World) (q:Nat) (L:List gG):Prop:=∃ s r,w.heap[q]? = some (.chan 60 (L.map pv).toArray false s r false)
theorem QO (w:World) (b q m:Nat) (L:List gG) (p:gG) (c6:w.cell? ⟨b,6,none⟩=some (.bool true)) (c7:w.cell? ⟨b,7,none⟩=some (.chan (some q))) (c8:w.cell? ⟨b,8,none⟩=some (.map (some m))) (hq:wB w q L) (hm:Waits w m L) (hp:¬ p∈L) (hl:L.length<60) (hb:b<w.heap.size) :
  Calls Tryz.prog 102 #[.pointer (some ⟨b,0,none⟩),.agg #[.int .u8 p.kind,.int .u64 p.token,.int .u64 p.session,.int .u64 p.number,.int .u64 p.position,.string p.data]] w (fun e w'=>e=.returned (.bool true)∧aN (fun k=>k=q∨k=m) w w'∧wB w' q (L++[p])∧Waits w' m (L++[p])):=by
 refine xQ func102 rfl ?_
 simp only[ntmps102,List.size_toArray,List.length_cons,List.length_nil,Nat.reduceAdd,Nat.reduceSub,Array.replicate_succ,
   Array.replicate_zero,List.push_toArray,List.append_toArray,List.nil_append,List.cons_append]
 refine nS (fun K hK=>?_)
 go_wp2_with fail
 generalize hw1:w.alloc (.cells #[.int .u8 p.kind,.int .u64 p.token,.int .u64 p.session,.int .u64 p.number,.int .u64 p.position,.string p.data] 162)=w1
 have hb1:Below w.heap.size w w1:=by rw[← hw1];exact(Below.refl _ _).alloc (Nat.le_refl _) _
 have hh1:w1.heap[w.heap.size]? = some (.cells #[.int .u8 p.kind,.int .u64 p.token,.int .u64 p.session,.int .u64 p.number,.int .u64 p.position,.string p.data] 162 (0,0)):=by rw[← hw1];exact heap_alloc_new w _
 have d6:w1.cell? ⟨b,6,none⟩=some (.bool true):=(hb1.cell (p:=⟨b,6,none⟩) hb).trans c6
 have d7:w1.cell? ⟨b,7,none⟩=some (.chan (some q)):=(hb1.cell (p:=⟨b,7,none⟩) hb).trans c7
 have d8:w1.cell? ⟨b,8,none⟩=some (.map (some m)):=(hb1.cell (p:=⟨b,8,none⟩) hb).trans c8
 have e0:w1.cell? ⟨w.heap.size,0,none⟩=some (.int .u8 p.kind):=by simp[World.cell?,hh1]
 have e1:w1.cell? ⟨w.heap.size,1,none⟩=some (.int .u64 p.token):=by simp[World.cell?,hh1]
 have e2:w1.cell? ⟨w.heap.size,2,none⟩=some (.int .u64 p.session):=by simp[World.cell?,hh1]
 have e3:w1.cell? ⟨w.heap.size,3,none⟩=some (.int .u64 p.number):=by simp[World.cell?,hh1]
 have e4:w1.cell? ⟨w.heap.size,4,none⟩=some (.int .u64 p.position):=by simp[World.cell?,hh1]
 have e5:w1.cell? ⟨w.heap.size,5,none⟩=some (.string p.data):=by simp[World.cell?,hh1]
 obtain⟨s,r,hqq⟩:=hq
 have JC:q<w.heap.size:=(Array.getElem?_eq_some_iff.1 hqq).1
 have hm1:Waits w1 m L:=by
  obtain⟨es,clock,h1,h2⟩:=hm
  exact⟨es,clock,(hb1.block m (Array.getElem?_eq_some_iff.1 h1).1).trans h1,h2⟩
 have hml:m<w.heap.size:=by
  obtain⟨es,clock,h1,h2⟩:=hm
  exact(Array.getElem?_eq_some_iff.1 h1).1
 have hq1:w1.heap[q]? = some (.chan 60 (L.map pv).toArray false s r false):=(hb1.block q JC).trans hqq
 have hlk:(Instr.lookup 63 (.map (some m)) (.agg #[.int .u8 p.kind,.int .u64 p.token,.int .u64 p.session,.int .u64 p.number,.int .u64 p.position,.string p.data]) true).run Tryz.prog w1.drew=.ok (.tuple #[.agg #[],.bool false]) w1.drew:=by
  have:=sO (w:=w1.drew) hm1 p
  rwa [@decide_eq_false _ (aaf p L) hp] at this
 have hn1:=hb1.size
 have hwl:w.heap.size<w1.heap.size:=(Array.getElem?_eq_some_iff.1 hh1).1
 obtain⟨w2,hw2⟩:∃ w2,w1.alloc (.cells #[] 241)=w2:=⟨_,rfl⟩
 have hb2:Below w1.heap.size w1 w2:=by rw[← hw2];exact(Below.refl _ _).alloc (Nat.le_refl _) _
 have f8:(w1.alloc (.cells #[] 241)).cell? ⟨b,8,none⟩=some (.map (some m)):=by rw[hw2];exact(hb2.cell (p:=⟨b,8,none⟩) (Nat.lt_of_lt_of_le hb hn1)).trans d8
 have g0:(w1.alloc (.cells #[] 241)).cell? ⟨w.heap.size,0,none⟩=some (.int .u8 p.kind):=by rw[hw2];exact(hb2.cell (p:=⟨w.heap.size,0,none⟩) hwl).trans e0
 have g1:(w1.alloc (.cells #[] 241)).cell? ⟨w.heap.size,1,none⟩=some (.int .u64 p.token):=by rw[hw2];exact(hb2.cell (p:=⟨w.heap.size,1,none⟩) hwl).trans e1
 have g2:(w1.alloc (.cells #[] 241)).cell? ⟨w.heap.size,2,none⟩=some (.int .u64 p.session):=by rw[hw2];exact(hb2.cell (p:=⟨w.heap.size,2,none⟩) hwl).trans e2
 have g3:(w1.alloc (.cells #[] 241)).cell? ⟨w.heap.size,3,none⟩=some (.int .u64 p.number):=by rw[hw2];exact(hb2.cell (p:=⟨w.heap.size,3,none⟩) hwl).trans e3
 have g4:(w1.alloc (.cells #[] 241)).cell? ⟨w.heap.size,4,none⟩=some (.int .u64 p.position):=by rw[hw2];exact(hb2.cell (p:=⟨w.heap.size,4,none⟩) hwl).trans e4
 have g5:(w1.alloc (.cells #[] 241)).cell? ⟨w.heap.size,5,none⟩=some (.string p.data):=by rw[hw2];exact(hb2.cell (p:=⟨w.heap.size,5,none⟩) hwl).trans e5
 have hm2:Waits (w1.alloc (.cells #[] 241)) m L:=by
  obtain⟨es,clock,h1,h2⟩:=hm1
  exact⟨es,clock,by rw[hw2];exact(hb2.block m (Array.getElem?_eq_some_iff.1 h1).1).trans h1,h2⟩
 have hlk2:(Instr.lookup 63 (.map (some m)) (.agg #[.int .u8 p.kind,.int .u64 p.token,.int .u64 p.session,.int .u64 p.number,.int .u64 p.position,.string p.data]) true).run Tryz.prog (w1.alloc (.cells #[] 241)).drew=.ok (.tuple #[.agg #[],.bool false]) (w1.alloc (.cells #[] 241)).drew:=by
  have:=sO (w:=(w1.alloc (.cells #[] 241)).drew) hm2 p
  rwa [@decide_eq_false _ (aaf p L) hp] at this
 clear hw2 hb2 hm2
 have HM:=hid hm
 have HM1:=hid hm1
 have HP:=hid hp
 have QS:=hid hq1
 have Nc:=hid hh1
 clear hm hm1 hp hq1 hqq hh1 hw1 c6 c7 c8
 refine nS (fun K hK=>?_)
 go_wp2_with fail
 refine nS (fun K hK=>?_)
 go_wp2_with fail
 go_region
 all_goals
  go_wp2_with fail
  obtain⟨w3,hw3⟩:∃ w3,(w1.alloc (.cells #[] 241)).drew=w3:=⟨_,rfl⟩
  rw[hw3]
  have hb3:Below w1.heap.size w1 w3:=by rw[← hw3];exact((Below.refl _ _).alloc (Nat.le_refl _) _).drew
  have hz3:=hb3.size
  have k7:w3.cell? ⟨b,7,none⟩=some (.chan (some q)):=(hb3.cell (p:=⟨b,7,none⟩) (Nat.lt_of_lt_of_le hb hn1)).trans d7
  have k8:w3.cell? ⟨b,8,none⟩=some (.map (some m)):=(hb3.cell (p:=⟨b,8,none⟩) (Nat.lt_of_lt_of_le hb hn1)).trans d8
  have l0:w3.cell? ⟨w.heap.size,0,none⟩=some (.int .u8 p.kind):=(hb3.cell (p:=⟨w.heap.size,0,none⟩) hwl).trans e0
  have l1:w3.cell? ⟨w.heap.size,1,none⟩=some (.int .u64 p.token):=(hb3.cell (p:=⟨w.heap.size,1,none⟩) hwl).trans e1
  have l2:w3.cell? ⟨w.heap.size,2,none⟩=some (.int .u64 p.session):=(hb3.cell (p:=⟨w.heap.size,2,none⟩) hwl).trans e2
  have l3:w3.cell? ⟨w.heap.size,3,none⟩=some (.int .u64 p.number):=(hb3.cell (p:=⟨w.heap.size,3,none⟩) hwl).trans e3
  have l4:w3.cell? ⟨w.heap.size,4,none⟩=some (.int .u64 p.position):=(hb3.cell (p:=⟨w.heap.size,4,none⟩) hwl).trans e4
  have l5:w3.cell? ⟨w.heap.size,5,none⟩=some (.string p.data):=(hb3.cell (p:=⟨w.heap.size,5,none⟩) hwl).trans e5
  have Uc:=hid ((hb3.block q (by omega)).trans QS.out)
  have QT:Hid (Waits w3 m L):=by
   obtain⟨es,clock,h1,h2⟩:=HM1.out
   exact⟨es,clock,(hb3.block m (by omega)).trans h1,h2⟩
  clear hw3 d6 d7 d8 e0 e1 e2 e3 e4 e5 f8 g0 g1 g2 g3 g4 g5 hlk hlk2
  refine nS (fun K hK=>?_)
  go_wp2_with fail
  refine Ih ?_
  refine Cc ?_
  refine Ut (c:=q) (cap:=60) (buf:=(L.map pv).toArray) (s:=s) (r:=r) (tm:=false) (v:=pv p) rfl rfl (by simp[go_sem,execOp,scase,Act.eval,pv,pc];rfl) Uc.out (by simpa using hl) ?_
  obtain⟨w4,hw4⟩:∃ w4,w3.setChan q 60 ((L.map pv).toArray.push (pv p)) false (s+1) r false=w4:=⟨_,rfl⟩
  rw[hw4]
  refine zq (v:=.int .i64 0) (w':=w4) rfl rfl (by simp[go_sem,goInt]) ?_
  refine zq (v:=.bool true) (w':=w4) rfl rfl (by simp[go_sem]) ?_
  refine Ii ?_
  refine vM ?_
  have hc4:aN (fun k=>k=q) w3 w4:=by rw[← hw4];exact(aN.refl _ _).setChan _ _ _ _ _ _ _ (fun _=>rfl)
  have JQ:=hc4.size
  have hqb:b≠q:=fun e=>by
   have h1:=Uc.out
   rw[← e] at h1
   have h2:=k8
   simp only[World.cell?,h1] at h2
   cases h2
  have hqm:m≠q:=fun e=>by
   obtain⟨es,clock,h1,_⟩:=QT.out
   rw[e,Uc.out] at h1
   cases h1
  have m8:w4.cell? ⟨b,8,none⟩=some (.map (some m)):=(hc4.cell (p:=⟨b,8,none⟩) (by show b<w3.heap.size;omega) hqb).trans k8
  have hne:¬ w.heap.size=q:=by omega
  have hl3:w.heap.size<w3.heap.size:=by omega
  have n0:w4.cell? ⟨w.heap.size,0,none⟩=some (.int .u8 p.kind):=(hc4.cell (p:=⟨w.heap.size,0,none⟩) hl3 hne).trans l0
  have n1:w4.cell? ⟨w.heap.size,1,none⟩=some (.int .u64 p.token):=(hc4.cell (p:=⟨w.heap.size,1,none⟩) hl3 hne).trans l1
  have n2:w4.cell? ⟨w.heap.size,2,none⟩=some (.int .u64 p.session):=(hc4.cell (p:=⟨w.heap.size,2,none⟩) hl3 hne).trans l2
  have n3:w4.cell? ⟨w.heap.size,3,none⟩=some (.int .u64 p.number):=(hc4.cell (p:=⟨w.heap.size,3,none⟩) hl3 hne).trans l3
  have n4:w4.cell? ⟨w.heap.size,4,none⟩=some (.int .u64 p.position):=(hc4.cell (p:=⟨w.heap.size,4,none⟩) hl3 hne).trans l4
  have n5:w4.cell? ⟨w.heap.size,5,none⟩=some (.string p.data):=(hc4.cell (p:=⟨w.heap.size,5,none⟩) hl3 hne).trans l5
  have XD:Hid (Waits w4 m L):=by
   obtain⟨es,clock,h1,h2⟩:=QT.out
   exact⟨es,clock,(hc4.block m (by omega) hqm).trans h1,h2⟩
  have ZP:Hid (wB w4 q (L++[p])):=⟨s+1,r,by
   rw[← hw4,heap_setChan _ _ _ _ _ _ _ _ (by omega)]
   simp⟩
  have hup:(Instr.mapUpdate 63 (.map (some m)) (.agg #[.int .u8 p.kind,.int .u64 p.token,.int .u64 p.session,.int .u64 p.number,.int .u64 p.position,.string p.data]) (.agg #[])).run Tryz.prog w4.drew=.ok () (qH w4.drew m p):=NC (w:=w4.drew) XD.out p HP.out
  clear hw4 k7 k8 l0 l1 l2 l3 l4 l5
  go_wp2_with fail
  go_region
  all_goals
   go_wp2_with fail
   go_ret
   have c1:aN (fun k=>k=q∨k=m) w w3:=aN.of_below (hb1.trans (hb3.mono hn1))
   have c2:aN (fun k=>k=q∨k=m) w3 w4:=hc4.mono (fun i _ h=>Or.inl h)
   have c3:aN (fun k=>k=q∨k=m) w4 (qH w4.drew m p):=((aN.refl _ w4).drew).same (zZ _ m p (Or.inr rfl))
   refine⟨rfl,c1.same (c2.same c3),?_,E8 (w:=w4.drew) XD.out p⟩
   obtain⟨s',r',h⟩:=ZP.out
   exact⟨s',r',((zZ (F:=fun k=>k=m) w4.drew m p rfl).block q (by show q<w4.heap.size;omega) (fun e=>hqm e.symm)).trans h⟩
theorem QU (w:World) (b:Nat) (p:gG) (c6:w.cell? ⟨b,6,none⟩=some (.bool false)) (hb:b<w.heap.size) :
  Calls Tryz.prog 102 #[.pointer (some ⟨b,0,none⟩),.agg #[.int .u8 p.kind,.int .u64 p.token,.int .u64 p.session,.int .u64 p.number,.int .u64 p.position,.string p.data]] w (fun e w'=>e=.returned (.bool false)∧Below w.heap.size w w'):=by
 have hb1:Below w.heap.size w (w.alloc (.cells #[.int .u8 p.kind,.int .u64 p.token,.int .u64 p.session,.int .u64 p.number,.int .u64 p.position,.string p.data] 162)):=(Below.refl _ _).alloc (Nat.le_refl _) _
 have d6:=(hb1.cell (p:=⟨b,6,none⟩) hb).trans c6
 clear c6
 go_enter func102,ntmps102
 go_wp2_with fail
 go_ret
 exact⟨rfl,hb1⟩
theorem NG (w:World) (b q m:Nat) (L:List gG) (p:gG) (c6:w.cell? ⟨b,6,none⟩=some (.bool true)) (c7:w.cell? ⟨b,7,none⟩=some (.chan (some q))) (c8:w.cell? ⟨b,8,none⟩=some (.map (some m))) (hq:wB w q L) (hm:Waits w m L) (hp:p∈L) (hb:b<w.heap.size) :
  Calls Tryz.prog 102 #[.pointer (some ⟨b,0,none⟩),.agg #[.int .u8 p.kind,.int .u64 p.token,.int .u64 p.session,.int .u64 p.number,.int .u64 p.position,.string p.data]] w (fun e w'=>e=.returned (.bool true)∧Below w.heap.size w w'):=by
 obtain⟨w1,hw1⟩:∃ w1,w.alloc (.cells #[.int .u8 p.kind,.int .u64 p.token,.int .u64 p.session,.int .u64 p.number,.int .u64 p.position,.string p.data] 162)=w1:=⟨_,rfl⟩
 have hb1:Below w.heap.size w w1:=by rw[← hw1];exact(Below.refl _ _).alloc (Nat.le_refl _) _
 have hh1:w1.heap[w.heap.size]? = some (.cells #[.int .u8 p.kind,.int .u64 p.token,.int .u64 p.session,.int .u64 p.number,.int .u64 p.position,.string p.data] 162 (0,0)):=by rw[← hw1];exact heap_alloc_new w _
 have d6:w1.cell? ⟨b,6,none⟩=some (.bool true):=(hb1.cell (p:=⟨b,6,none⟩) hb).trans c6
 have d7:w1.cell? ⟨b,7,none⟩=some (.chan (some q)):=(hb1.cell (p:=⟨b,7,none⟩) hb).trans c7
 have d8:w1.cell? ⟨b,8,none⟩=some (.map (some m)):=(hb1.cell (p:=⟨b,8,none⟩) hb).trans c8
 have e0:w1.cell? ⟨w.heap.size,0,none⟩=some (.int .u8 p.kind):=by simp[World.cell?,hh1]
 have e1:w1.cell? ⟨w.heap.size,1,none⟩=some (.int .u64 p.token):=by simp[World.cell?,hh1]
 have e2:w1.cell? ⟨w.heap.size,2,none⟩=some (.int .u64 p.session):=by simp[World.cell?,hh1]
 have e3:w1.cell? ⟨w.heap.size,3,none⟩=some (.int .u64 p.number):=by simp[World.cell?,hh1]
 have e4:w1.cell? ⟨w.heap.size,4,none⟩=some (.int .u64 p.position):=by simp[World.cell?,hh1]
 have e5:w1.cell? ⟨w.heap.size,5,none⟩=some (.string p.data):=by simp[World.cell?,hh1]
 obtain⟨s,r,hqq⟩:=hq
 have JC:q<w.heap.size:=(Array.getElem?_eq_some_iff.1 hqq).1
 have hm1:Waits w1 m L:=by
  obtain⟨es,clock,h1,h2⟩:=hm
  exact⟨es,clock,(hb1.block m (Array.getElem?_eq_some_iff.1 h1).1).trans h1,h2⟩
 have hml:m<w.heap.size:=by
  obtain⟨es,clock,h1,h2⟩:=hm
  exact(Array.getElem?_eq_some_iff.1 h1).1
 have hq1:w1.heap[q]? = some (.chan 60 (L.map pv).toArray false s r false):=(hb1.block q JC).trans hqq
 have hlk:(Instr.lookup 63 (.map (some m)) (.agg #[.int .u8 p.kind,.int .u64 p.token,.int .u64 p.session,.int .u64 p.number,.int .u64 p.position,.string p.data]) true).run Tryz.prog w1.drew=.ok (.tuple #[.agg #[],.bool true]) w1.drew:=by
  have:=sO (w:=w1.drew) hm1 p
  rwa [@decide_eq_true _ (aaf p L) hp] at this
 have hn1:=hb1.size
 have hwl:w.heap.size<w1.heap.size:=(Array.getElem?_eq_some_iff.1 hh1).1
 obtain⟨w2,hw2⟩:∃ w2,w1.alloc (.cells #[] 241)=w2:=⟨_,rfl⟩
 have hb2:Below w1.heap.size w1 w2:=by rw[← hw2];exact(Below.refl _ _).alloc (Nat.le_refl _) _
 have f8:(w1.alloc (.cells #[] 241)).cell? ⟨b,8,none⟩=some (.map (some m)):=by rw[hw2];exact(hb2.cell (p:=⟨b,8,none⟩) (Nat.lt_of_lt_of_le hb hn1)).trans d8
 have g0:(w1.alloc (.cells #[] 241)).cell? ⟨w.heap.size,0,none⟩=some (.int .u8 p.kind):=by rw[hw2];exact(hb2.cell (p:=⟨w.heap.size,0,none⟩) hwl).trans e0
 have g1:(w1.alloc (.cells #[] 241)).cell? ⟨w.heap.size,1,none⟩=some (.int .u64 p.token):=by rw[hw2];exact(hb2.cell (p:=⟨w.heap.size,1,none⟩) hwl).trans e1
 have g2:(w1.alloc (.cells #[] 241)).cell? ⟨w.heap.size,2,none⟩=some (.int .u64 p.session):=by rw[hw2];exact(hb2.cell (p:=⟨w.heap.size,2,none⟩) hwl).trans e2
 have g3:(w1.alloc (.cells #[] 241)).cell? ⟨w.heap.size,3,none⟩=some (.int .u64 p.number):=by rw[hw2];exact(hb2.cell (p:=⟨w.heap.size,3,none⟩) hwl).trans e3
 have g4:(w1.alloc (.cells #[] 241)).cell? ⟨w.heap.size,4,none⟩=some (.int .u64 p.position):=by rw[hw2];exact(hb2.cell (p:=⟨w.heap.size,4,none⟩) hwl).trans e4
 have g5:(w1.alloc (.cells #[] 241)).cell? ⟨w.heap.size,5,none⟩=some (.string p.data):=by rw[hw2];exact(hb2.cell (p:=⟨w.heap.size,5,none⟩) hwl).trans e5
 have hm2:Waits (w1.alloc (.cells #[] 241)) m L:=by
  obtain⟨es,clock,h1,h2⟩:=hm1
  exact⟨es,clock,by rw[hw2];exact(hb2.block m (Array.getElem?_eq_some_iff.1 h1).1).trans h1,h2⟩
 have hlk2:(Instr.lookup 63 (.map (some m)) (.agg #[.int .u8 p.kind,.int .u64 p.token,.int .u64 p.session,.int .u64 p.number,.int .u64 p.position,.string p.data]) true).run Tryz.prog (w1.alloc (.cells #[] 241)).drew=.ok (.tuple #[.agg #[],.bool true]) (w1.alloc (.cells #[] 241)).drew:=by
  have:=sO (w:=(w1.alloc (.cells #[] 241)).drew) hm2 p
  rwa [@decide_eq_true _ (aaf p L) hp] at this
 have hb3:Below w1.heap.size w1 (w1.alloc (.cells #[] 241)).drew:=by rw[hw2];exact hb2.drew
 have hbb:=hb1.trans (hb3.mono hn1)
 clear hw2 hb2 hm2 hm hm1 hp hq1 hqq hh1 c6 c7 c8 hb3
 go_enter func102,ntmps102
 go_wp2_with fail
 go_region
 all_goals
  go_wp2_with fail
  go_ret
  exact⟨rfl,hbb⟩
theorem Ux (w:World) (b q m:Nat) (up:Bool) (L:List gG) (p:gG) (c6:w.cell? ⟨b,6,none⟩=some (.bool up)) (c7:w.cell? ⟨b,7,none⟩=some (.chan (some q))) (c8:w.cell? ⟨b,8,none⟩=some (.map (some m))) (hq:wB w q L) (hm:Waits w m L) (hl:L.length<60) (hb:b<w.heap.size) :
  Calls Tryz.prog 102 #[.pointer (some ⟨b,0,none⟩),.agg #[.int .u8 p.kind,.int .u64 p.token,.int .u64 p.session,.int .u64 p.number,.int .u64 p.position,.string p.data]] w (fun e w'=>(∃ r:Bool,e=.returned (.bool r))∧aN (fun k=>k=q∨k=m) w w'∧wB w' q (nN up L p)∧Waits w' m (nN up L p)):=by
 have same:∀ w',Below w.heap.size w w'→wB w' q L∧Waits w' m L:=fun w' h=>by
  obtain⟨s,r,h1⟩:=hq
  obtain⟨es,clock,h2,h3⟩:=hm
  exact⟨⟨s,r,(h.block q (Array.getElem?_eq_some_iff.1 h1).1).trans h1⟩,⟨es,clock,(h.block m (Array.getElem?_eq_some_iff.1 h2).1).trans h2,h3⟩⟩
 cases up with
 | false=>
  refine(QU w b p c6 hb).mono ?_
  rintro e w' ⟨rfl,h⟩
  have hs:=same w' h
  exact⟨⟨_,rfl⟩,aN.of_below h,by rw[nN,if_neg (by simp)];exact hs.1,by rw[nN,if_neg (by simp)];exact hs.2⟩
 | true=>
  by_cases hp:p∈L
  ·refine(NG w b q m L p c6 c7 c8 hq hm hp hb).mono ?_
   rintro e w' ⟨rfl,h⟩
   have hs:=same w' h
   exact⟨⟨_,rfl⟩,aN.of_below h,by rw[nN,if_neg (by simp[hp])];exact hs.1,by rw[nN,if_neg (by simp[hp])];exact hs.2⟩
  ·refine(QO w b q m L p c6 c7 c8 hq hm hp hl hb).mono ?_
   rintro e w' ⟨rfl,h1,h2,h3⟩
   exact⟨⟨_,rfl⟩,h1,by rw[nN,if_pos ⟨rfl,hp,hl⟩];exact h2,by rw[nN,if_pos ⟨rfl,hp,hl⟩];exact h3⟩
def aU (w:World) (b:Nat) (T:TypeId) (xs:List Value):Prop:=w.heap[b]? = some (.cells xs.toArray T (0,0))
theorem aU.lt {w:World} {b:Nat} {T:TypeId} {xs:List Value} (h:aU w b T xs):b<w.heap.size:=(Array.getElem?_eq_some_iff.1 h).1
theorem aU.cell {w:World} {b:Nat} {T:TypeId} {xs:List Value} (h:aU w b T xs) (i:Nat):w.cell? ⟨b,i,none⟩=xs[i]?:=by
 have:w.heap[b]? = some (.cells xs.toArray T (0,0)):=h
 simp[World.cell?,this]
theorem aU.frozen {w:World} {b:Nat} {T:TypeId} {xs:List Value} (h:aU w b T xs) (i:Nat):w.frozen? ⟨b,i,none⟩=false:=by
 have:w.heap[b]? = some (.cells xs.toArray T (0,0)):=h
 simp[World.frozen?,this]
theorem aU.set {w:World} {b:Nat} {T:TypeId} {xs:List Value} (h:aU w b T xs) (i:Nat) (v:Value):aU (w.setCell ⟨b,i,none⟩ v) b T (xs.set i v):=by
 unfold aU
 rw[heap_setCell_same w b i xs.toArray T v h]
 simp
theorem aU.fZ {F:Nat→Prop} {w w':World} {b:Nat} {T:TypeId} {xs:List Value} (h:aU w b T xs) (hc:aN F w w') (hf:¬ F b):aU w' b T xs:=(hc.block b h.lt hf).trans h
theorem aU.below {w w':World} {b:Nat} {T:TypeId} {xs:List Value} (h:aU w b T xs) (hc:Below w.heap.size w w'):aU w' b T xs:=(hc.block b h.lt).trans h
theorem wB.lt {w:World} {q:Nat} {L:List gG} (h:wB w q L):q<w.heap.size:=by
 obtain⟨s,r,h⟩:=h
 exact(Array.getElem?_eq_some_iff.1 h).1
theorem wB.fZ {F:Nat→Prop} {w w':World} {q:Nat} {L:List gG} (h:wB w q L) (hc:aN F w w') (hf:¬ F q):wB w' q L:=by
 have hl:=h.lt
 obtain⟨s,r,h⟩:=h
 exact⟨s,r,(hc.block q hl hf).trans h⟩
theorem Waits.lt {w:World} {m:Nat} {L:List gG} (h:Waits w m L):m<w.heap.size:=by
 obtain⟨es,clock,h,_⟩:=h
 exact(Array.getElem?_eq_some_iff.1 h).1
theorem Waits.fZ {F:Nat→Prop} {w w':World} {m:Nat} {L:List gG} (h:Waits w m L) (hc:aN F w w') (hf:¬ F m):Waits w' m L:=by
 have hl:=h.lt
 obtain⟨es,clock,h,hk⟩:=h
 exact⟨es,clock,(hc.block m hl hf).trans h,hk⟩
abbrev rG (i0 i1 i2 i3:Value) (last:Int) (had up:Bool) (q m:Nat) (tl:List Value):List Value:=i0::i1::i2::i3::.int .i64 last::.bool had::.bool up::.chan (some q)::.map (some m)::tl
theorem QV (w:World):(Instr.makeChan 62 (.int .i64 60)).run Tryz.prog w=.ok (.chan (some w.heap.size)) (w.alloc (.chan 60 #[] false 0 0 false)):=by
 have h:(Tryz.prog.info? 162).map (·.bytes)=some 56:=by kernel_rfl
 obtain⟨i,hi,hb⟩:=Option.map_eq_some_iff.1 h
 simpa using run_makeChan (P:=Tryz.prog) (w:=w) underlying62 hi .i64 60 (by omega) (by rw[hb];omega)
theorem empty_any (w:World) (b:Nat) (T:TypeId) (i0 i1 i2 i3:Value) (last:Int) (had up:Bool) (vq vm:Value) (tl:List Value) (hB:aU w b T (i0::i1::i2::i3::.int .i64 last::.bool had::.bool up::vq::vm::tl)) :
  Calls Tryz.prog 56 #[.pointer (some ⟨b,0,none⟩)] w (fun e w'=>e=.returned (.tuple #[])∧∃ q m,w.heap.size≤q∧w.heap.size≤m∧aU w' b T (rG i0 i1 i2 i3 last had up q m tl)∧wB w' q []∧Waits w' m []∧aN (fun k=>k=b) w w'):=by
 have hlt:=hB.lt
 have hmk:=QV w
 generalize hw1:w.alloc (.chan 60 #[] false 0 0 false)=w1 at hmk
 have hb1:Below w.heap.size w w1:=by rw[← hw1];exact(Below.refl _ _).alloc (Nat.le_refl _) _
 have hB1:=hB.below hb1
 have hq1:w1.heap[w.heap.size]? = some (.chan 60 #[] false 0 0 false):=by rw[← hw1];exact heap_alloc_new w _
 have hz1:w1.heap.size=w.heap.size+1:=by rw[← hw1];simp
 have d7:w1.cell? ⟨b,7,none⟩=some vq:=hB1.cell 7
 have g7:=hB1.frozen 7
 have hB2:=hB1.set 7 (.chan (some w.heap.size))
 have hbb:b≠w.heap.size:=by omega
 have hq2:(w1.setCell ⟨b,7,none⟩ (.chan (some w.heap.size))).heap[w.heap.size]? = some (.chan 60 #[] false 0 0 false):=by rw[Below.heap_setCell _ _ _ _ (fun e=>hbb e.symm)];exact hq1
 have hc2:aN (fun k=>k=b) w (w1.setCell ⟨b,7,none⟩ (.chan (some w.heap.size))):=(aN.of_below hb1).setCell _ _ (fun _=>rfl)
 have hz2:(w1.setCell ⟨b,7,none⟩ (.chan (some w.heap.size))).heap.size=w.heap.size+1:=by simp[hz1]
 generalize hw2:w1.setCell ⟨b,7,none⟩ (.chan (some w.heap.size))=w2 at *
 have hb3:Below w2.heap.size w2 (w2.alloc (.map #[] 0)):=(Below.refl _ _).alloc (Nat.le_refl _) _
 have hB3:=hB2.below hb3
 have hq3:=(hb3.block w.heap.size (by omega)).trans hq2
 have QW:(w2.alloc (.map #[] 0)).heap[w2.heap.size]? = some (.map #[] 0):=heap_alloc_new w2 _
 have hc3:=hc2.wY hb3
 have hz3:(w2.alloc (.map #[] 0)).heap.size=w.heap.size+2:=by simp[hz2]
 generalize hw3:w2.alloc (.map #[] 0)=w3 at *
 have hmm:(Instr.makeMap 63 none).run Tryz.prog w2=.ok (.map (some w2.heap.size)) w3:=by rw[← hw3];rfl
 have d8:w3.cell? ⟨b,8,none⟩=some vm:=hB3.cell 8
 have g8:=hB3.frozen 8
 have HB3:=hid hB3
 have HZ2:=hid hz2
 clear hz2 hz3 hz1
 have Uc:=hid hq3
 have QT:=hid QW
 clear hB hB1 hB2 hB3 hq1 hq2 hq3 QW hb3 hc2 hb1
 go_enter func56,ntmps56
 go_wp2_with fail
 go_end0
 refine⟨rfl,w.heap.size,w2.heap.size,Nat.le_refl _,by have:=HZ2.out;omega,HB3.out.set 8 (.map (some w2.heap.size)),⟨0,0,?_⟩,⟨#[],0,?_,rfl,fun e he=>by simp at he⟩,hc3.setCell _ _ (fun _=>rfl)⟩
 ·rw[Below.heap_setCell _ _ _ _ (fun e=>hbb e.symm)]
  exact Uc.out
 ·rw[Below.heap_setCell _ _ _ _ (by show w2.heap.size≠b;have:=HZ2.out;omega)]
  exact QT.out
theorem FX (w:World) (q:Nat):(binOp .eql 62 (.chan (some q)) (.chan none)).run Tryz.prog w=.ok (.bool false) w:=by
 have h1:∀ d:Nat,(Op.equalIn (d+1) 62 (.chan (some q)) (.chan none)).run Tryz.prog w=.ok false w:=fun d=>by simp[Op.equalIn,run_underlying underlying62]
 have h2:(Op.equal 62 (.chan (some q)) (.chan none)).run Tryz.prog w=.ok false w:=h1 9999
 simp[binOp,h2]
theorem JR (w:World) (b:Nat) (T:TypeId) (i0 i1 i2 i3:Value) (last:Int) (up:Bool) (q m:Nat) (tl:List Value) (hB:aU w b T (rG i0 i1 i2 i3 last true up q m tl)) (conn:Int) (hc:conn≤last) :
  Calls Tryz.prog 95 #[.pointer (some ⟨b,0,none⟩),.int .i64 conn] w (fun e w'=>e=.returned (.bool false)∧w'=w):=by
 have d4:w.cell? ⟨b,4,none⟩=some (.int .i64 last):=hB.cell 4
 have d5:w.cell? ⟨b,5,none⟩=some (.bool true):=hB.cell 5
 have d7:w.cell? ⟨b,7,none⟩=some (.chan (some q)):=hB.cell 7
 have hq:=FX w q
 go_enter func95,ntmps95
 go_wp2_with fail
 go_ret
 exact⟨rfl,rfl⟩
theorem FY (w:World) (b:Nat) (T:TypeId) (i0 i1 i2 i3:Value) (last:Int) (had up:Bool) (q m:Nat) (tl:List Value) (hB:aU w b T (rG i0 i1 i2 i3 last had up q m tl)) (conn:Int) (hc:had=false∨last<conn) :
  Calls Tryz.prog 95 #[.pointer (some ⟨b,0,none⟩),.int .i64 conn] w (fun e w'=>e=.returned (.bool true)∧∃ q' m',w.heap.size≤q'∧w.heap.size≤m'∧aU w' b T (rG i0 i1 i2 i3 conn true true q' m' tl)∧wB w' q' []∧Waits w' m' []∧aN (fun k=>k=b) w w'):=by
 have d4:w.cell? ⟨b,4,none⟩=some (.int .i64 last):=hB.cell 4
 have d5:w.cell? ⟨b,5,none⟩=some (.bool had):=hB.cell 5
 have d6:w.cell? ⟨b,6,none⟩=some (.bool up):=hB.cell 6
 have d7:w.cell? ⟨b,7,none⟩=some (.chan (some q)):=hB.cell 7
 have g4:=hB.frozen 4
 have hq:=FX w q
 have hB1:aU (w.setCell ⟨b,4,none⟩ (.int .i64 conn)) b T (rG i0 i1 i2 i3 conn had up q m tl):=hB.set 4 _
 have hc1:aN (fun k=>k=b) w (w.setCell ⟨b,4,none⟩ (.int .i64 conn)):=(aN.refl _ _).setCell _ _ (fun _=>rfl)
 obtain⟨w1,hw1⟩:∃ w1,w.setCell ⟨b,4,none⟩ (.int .i64 conn)=w1:=⟨_,rfl⟩
 rw[hw1] at hB1 hc1
 have k5:w1.cell? ⟨b,5,none⟩=some (.bool had):=hB1.cell 5
 have g5:=hB1.frozen 5
 have hB2:aU (w1.setCell ⟨b,5,none⟩ (.bool true)) b T (rG i0 i1 i2 i3 conn true up q m tl):=hB1.set 5 _
 have hc2:aN (fun k=>k=b) w (w1.setCell ⟨b,5,none⟩ (.bool true)):=hc1.setCell _ _ (fun _=>rfl)
 obtain⟨w2,hw2⟩:∃ w2,w1.setCell ⟨b,5,none⟩ (.bool true)=w2:=⟨_,rfl⟩
 rw[hw2] at hB2 hc2
 have l6:w2.cell? ⟨b,6,none⟩=some (.bool up):=hB2.cell 6
 have g6:=hB2.frozen 6
 have hB3:aU (w2.setCell ⟨b,6,none⟩ (.bool true)) b T (rG i0 i1 i2 i3 conn true true q m tl):=hB2.set 6 _
 have hc3:aN (fun k=>k=b) w (w2.setCell ⟨b,6,none⟩ (.bool true)):=hc2.setCell _ _ (fun _=>rfl)
 obtain⟨w3,hw3⟩:∃ w3,w2.setCell ⟨b,6,none⟩ (.bool true)=w3:=⟨_,rfl⟩
 rw[hw3] at hB3 hc3
 have HB3:=hid hB3
 clear hB hB1 hB2 hB3 hc1 hc2
 have hz3:=hc3.size
 have hc':had=true→last<conn:=fun e=>by
  rcases hc with h | h
  ·rw[h] at e;cases e
  ·exact h
 clear hc
 cases had
 all_goals
  try (have hcc:=hc' rfl)
  clear hc'
  go_enter func95,ntmps95
  go_wp2_with fail
  refine(empty_any _ b T i0 i1 i2 i3 conn true true _ _ tl HB3.out).mono ?_;rintro e w4 ⟨rfl,q',m',h1,h2,h3,h4,h5,h6⟩
  have H4:=hid h4
  go_wp2_with fail
  go_ret
  exact⟨rfl,q',m',by omega,by omega,h3,H4.out,h5,hc3.same h6⟩
theorem rH (w:World) (b:Nat) (T:TypeId) (i0 i1 i2 i3:Value) (last:Int) (had up:Bool) (q m:Nat) (tl:List Value) (hB:aU w b T (rG i0 i1 i2 i3 last had up q m tl)) (conn:Int) :
  Calls Tryz.prog 96 #[.pointer (some ⟨b,0,none⟩),.int .i64 conn] w (fun e w'=>e=.returned (.bool (up&&decide (conn=last)))∧w'=w):=by
 have d4:w.cell? ⟨b,4,none⟩=some (.int .i64 last):=hB.cell 4
 have d6:w.cell? ⟨b,6,none⟩=some (.bool up):=hB.cell 6
 clear hB
 cases up
 all_goals
  go_enter func96,ntmps96
  go_wp2_with fail
  go_ret
  exact⟨by first | rfl | (congr 2),rfl⟩
theorem PX (w:World) (b:Nat) (T:TypeId) (i0 i1 i2 i3:Value) (last:Int) (had up:Bool) (q m:Nat) (tl:List Value) (hB:aU w b T (rG i0 i1 i2 i3 last had up q m tl)) (conn:Int) (hn:(up&&decide (conn=last))=false) :
  Calls Tryz.prog 67 #[.pointer (some ⟨b,0,none⟩),.int .i64 conn] w (fun e w'=>e=.returned (.int .i64 10)∧w'=w):=by
 have HB:=hid hB
 clear hB
 go_enter func67,ntmps67
 go_wp2_with fail
 refine(rH _ b T i0 i1 i2 i3 last had up q m tl HB.out conn).mono ?_;rintro e w1 ⟨rfl,rfl⟩
 rw[hn]
 go_wp2_with fail
 go_ret
 exact⟨rfl,rfl⟩
theorem JU (w:World) (b:Nat) (T:TypeId) (i0 i1 i2 i3:Value) (last:Int) (had up:Bool) (q m:Nat) (tl:List Value) (hB:aU w b T (rG i0 i1 i2 i3 last had up q m tl)) (conn:Int) (hn:(up&&decide (conn=last))=true) :
  Calls Tryz.prog 67 #[.pointer (some ⟨b,0,none⟩),.int .i64 conn] w (fun e w'=>e=.returned (.int .i64 0)∧∃ q' m',w.heap.size≤q'∧w.heap.size≤m'∧aU w' b T (rG i0 i1 i2 i3 last had false q' m' tl)∧wB w' q' []∧Waits w' m' []∧aN (fun k=>k=b) w w'):=by
 have d6:w.cell? ⟨b,6,none⟩=some (.bool up):=hB.cell 6
 have g6:=hB.frozen 6
 have hB1:aU (w.setCell ⟨b,6,none⟩ (.bool false)) b T (rG i0 i1 i2 i3 last had false q m tl):=hB.set 6 _
 have hc1:aN (fun k=>k=b) w (w.setCell ⟨b,6,none⟩ (.bool false)):=(aN.refl _ _).setCell _ _ (fun _=>rfl)
 have hz1:=hc1.size
 have HB:=hid hB
 have HB1:=hid hB1
 clear hB hB1
 go_enter func67,ntmps67
 go_wp2_with fail
 refine(rH _ b T i0 i1 i2 i3 last had up q m tl HB.out conn).mono ?_;rintro e w1 ⟨rfl,rfl⟩
 rw[hn]
 go_wp2_with fail
 refine(empty_any _ b T i0 i1 i2 i3 last had false _ _ tl HB1.out).mono ?_;rintro e w4 ⟨rfl,q',m',h1,h2,h3,h4,h5,h6⟩
 have H4:=hid h4
 go_wp2_with fail
 go_ret
 exact⟨rfl,q',m',by omega,by omega,h3,H4.out,h5,hc1.same h6⟩
theorem aU.lK {w:World} {b q:Nat} {T:TypeId} {xs:List Value} {L:List gG} (h:aU w b T xs) (k:wB w q L):b≠q:=fun e=>by
 obtain⟨s,r,k⟩:=k
 have h':w.heap[b]? = _:=h
 rw[e,k] at h'
 cases h'
theorem aU.gV {w:World} {b m:Nat} {T:TypeId} {xs:List Value} {L:List gG} (h:aU w b T xs) (k:Waits w m L):b≠m:=fun e=>by
 obtain⟨es,clock,k,_⟩:=k
 have h':w.heap[b]? = _:=h
 rw[e,k] at h'
 cases h'
theorem wB.gV {w:World} {q m:Nat} {L M:List gG} (h:wB w q L) (k:Waits w m M):q≠m:=fun e=>by
 obtain⟨es,clock,k,_⟩:=k
 obtain⟨s,r,h⟩:=h
 rw[e,k] at h
 cases h
structure aW (w:World) (b:Nat) (T:TypeId) (i0 i1 i2 i3:Value) (last:Int) (had up:Bool) (tl:List Value) (L:List gG) (q m:Nat):Prop where
 blk:aU w b T (rG i0 i1 i2 i3 last had up q m tl)
 oD:wB w q L
 pO:Waits w m L
theorem aW.drew {w:World} {b:Nat} {T:TypeId} {i0 i1 i2 i3:Value} {last:Int} {had up:Bool} {tl:List Value} {L:List gG} {q m:Nat} (h:aW w b T i0 i1 i2 i3 last had up tl L q m):aW w.drew b T i0 i1 i2 i3 last had up tl L q m:=⟨h.blk,h.oD,h.pO⟩
theorem aW.below {w w':World} {b:Nat} {T:TypeId} {i0 i1 i2 i3:Value} {last:Int} {had up:Bool} {tl:List Value} {L:List gG} {q m:Nat} (h:aW w b T i0 i1 i2 i3 last had up tl L q m) (hb:Below w.heap.size w w'):aW w' b T i0 i1 i2 i3 last had up tl L q m :=
 ⟨h.blk.below hb,h.oD.fZ (F:=fun _=>False) (aN.of_below hb) id,h.pO.fZ (F:=fun _=>False) (aN.of_below hb) id⟩
theorem aW.fZ {F:Nat→Prop} {w w':World} {b:Nat} {T:TypeId} {i0 i1 i2 i3:Value} {last:Int} {had up:Bool} {tl:List Value} {L:List gG} {q m:Nat} (h:aW w b T i0 i1 i2 i3 last had up tl L q m) (hc:aN F w w') (h1:¬ F b) (h2:¬ F q) (h3:¬ F m):aW w' b T i0 i1 i2 i3 last had up tl L q m :=
 ⟨h.blk.fZ hc h1,h.oD.fZ hc h2,h.pO.fZ hc h3⟩
theorem aW.post {w:World} {b:Nat} {T:TypeId} {i0 i1 i2 i3:Value} {last:Int} {had up:Bool} {tl:List Value} {L:List gG} {q m:Nat} (h:aW w b T i0 i1 i2 i3 last had up tl L q m) (p:gG) (hl:L.length<60) :
  Calls Tryz.prog 102 #[.pointer (some ⟨b,0,none⟩),.agg #[.int .u8 p.kind,.int .u64 p.token,.int .u64 p.session,.int .u64 p.number,.int .u64 p.position,.string p.data]] w (fun e w'=>(∃ r:Bool,e=.returned (.bool r))∧aW w' b T i0 i1 i2 i3 last had up tl (nN up L p) q m∧aN (fun k=>k=q∨k=m) w w'):=by
 refine(Ux w b q m up L p (h.blk.cell 6) (h.blk.cell 7) (h.blk.cell 8) h.oD h.pO hl h.blk.lt).mono ?_
 rintro e w' ⟨h1,h2,h3,h4⟩
 exact⟨h1,⟨h.blk.fZ h2 (fun e=>e.elim (h.blk.lK h.oD) (h.blk.gV h.pO)),h3,h4⟩,h2⟩
def qc (token:Nat):gG:=⟨0,token,0,0,0,⟨#[]⟩⟩
abbrev jV (token:Nat) (silence:Int) (asked:Value) (next:Nat) (streams:Value) (made:Nat) (calls:Value) (called:Nat):List Value:=[.int .u64 token,.int .u64 0,.int .u64 0,.int .i64 silence,asked,.int .u64 next,streams,.int .i64 made,calls,.int .i64 called]
theorem CB (w:World) (b:Nat) (i0 i1 i2 i3:Value) (last:Int) (had up:Bool) (token:Nat) (silence:Int) (asked:Value) (next:Nat) (streams:Value) (made:Nat) (calls:Value) (called:Nat) (L:List gG) (q m:Nat)
  (h:aW w b 80 i0 i1 i2 i3 last had up (jV token silence asked next streams made calls called) L q m) (hl:L.length<60) :
  Calls Tryz.prog 71 #[.pointer (some ⟨b,0,none⟩)] w (fun e w'=>e=.returned (.tuple #[])∧aW w' b 80 i0 i1 i2 i3 last had up (jV token silence asked next streams made calls called) (nN up L (qc token)) q m∧aN (fun k=>k=q∨k=m) w w'):=by
 have d9:w.cell? ⟨b,9,none⟩=some (.int .u64 token):=h.blk.cell 9
 have d10:w.cell? ⟨b,10,none⟩=some (.int .u64 0):=h.blk.cell 10
 have d11:w.cell? ⟨b,11,none⟩=some (.int .u64 0):=h.blk.cell 11
 have H:=hid h
 clear h
 go_enter func71,ntmps71
 go_wp2_with fail
 go_region_with (go_at_call 102;refine(H.out.drew.post (qc token) hl).mono ?_;rintro e w1 ⟨⟨r,rfl⟩,h1,h2⟩;have H1:=hid h1;clear h1)
 all_goals
  go_wp2_with fail
  (try simp only[Exit.inBlock,Exit.then]);refine bodyPost_ret (results_none rfl _ _ _) rfl ?_
  exact⟨rfl,H1.out,(aN.refl _ w).drew.same h2⟩
theorem ZQ (w:World) (b:Nat) (i0 i1 i2 i3:Value) (last:Int) (up:Bool) (tl:List Value) (L:List gG) (q m:Nat) (h:aW w b 80 i0 i1 i2 i3 last true up tl L q m) (conn:Int) (hc:conn≤last) :
  Calls Tryz.prog 65 #[.pointer (some ⟨b,0,none⟩),.int .i64 conn] w (fun e w'=>e=.returned (.int .i64 10)∧w'=w):=by
 have H:=hid h
 clear h
 go_enter func65,ntmps65
 go_wp2_with fail
 refine(JR w b _ i0 i1 i2 i3 last up q m tl H.out.blk conn hc).mono ?_;rintro e w1 ⟨rfl,rfl⟩
 go_wp2_with fail
 go_ret
 exact⟨rfl,rfl⟩
theorem XZ (w:World) (b:Nat) (i0 i1 i2 i3:Value) (last:Int) (had up:Bool) (token:Nat) (silence:Int) (asked:Value) (next:Nat) (streams:Value) (made:Nat) (calls:Value) (called:Nat) (L:List gG) (q m:Nat)
  (h:aW w b 80 i0 i1 i2 i3 last had up (jV token silence asked next streams made calls called) L q m) (conn:Int) (hc:had=false∨last<conn) :
  Calls Tryz.prog 65 #[.pointer (some ⟨b,0,none⟩),.int .i64 conn] w (fun e w'=>e=.returned (.int .i64 0)∧∃ q' m',w.heap.size≤q'∧w.heap.size≤m'∧aW w' b 80 i0 i1 i2 i3 conn true true (jV token silence asked next streams made calls called) [qc token] q' m'∧aN (fun k=>k=b) w w'):=by
 have H:=hid h
 have HC:=hid hc
 clear h hc
 go_enter func65,ntmps65
 go_wp2_with fail
 refine(FY w b _ i0 i1 i2 i3 last had up q m _ H.out.blk conn HC.out).mono ?_;rintro e w1 ⟨rfl,q',m',h1,h2,h3,h4,h5,h6⟩
 have H1:=hid (show aW w1 b 80 i0 i1 i2 i3 conn true true (jV token silence asked next streams made calls called) [] q' m' from⟨h3,h4,h5⟩)
 clear h3 h4 h5
 go_wp2_with fail
 refine(CB w1 b i0 i1 i2 i3 conn true true token silence asked next streams made calls called [] q' m' H1.out (by simp)).mono ?_;rintro e w2 ⟨rfl,h7,h8⟩
 have H7:=hid h7
 clear h7
 go_wp2_with fail
 go_ret
 exact⟨rfl,q',m',h1,h2,H7.out,h6.trans h8 (fun i hi hh=>by rcases hh with rfl | rfl<;>omega)⟩
theorem QX (w:World) (b:Nat) (i0 i1 i2 i3:Value) (last:Int) (had up:Bool) (token:Nat) (silence:Int) (asked:Value) (next:Nat) (streams:Value) (made:Nat) (calls:Value) (called:Nat) (L:List gG) (q m:Nat)
  (h:aW w b 80 i0 i1 i2 i3 last had up (jV token silence asked next streams made calls called) L q m) (hl:L.length<60) (hs:0≤silence∧silence≤1000000000000) :
  Calls Tryz.prog 35 #[.pointer (some ⟨b,0,none⟩)] w (fun e w'=>e=.returned (.tuple #[])∧aW w' b 80 i0 i1 i2 i3 last had up (jV token (silence+1) asked next streams made calls called) (nN up L (qc token)) q m∧aN (fun k=>k=b∨k=q∨k=m) w w'):=by
 have d12:w.cell? ⟨b,12,none⟩=some (.int .i64 silence):=h.blk.cell 12
 have g12:=h.blk.frozen 12
 have hc1:aN (fun k=>k=b∨k=q∨k=m) w (w.setCell ⟨b,12,none⟩ (.int .i64 (silence+1))):=(aN.refl _ _).setCell _ _ (fun _=>Or.inl rfl)
 have h1:aW (w.setCell ⟨b,12,none⟩ (.int .i64 (silence+1))) b 80 i0 i1 i2 i3 last had up (jV token (silence+1) asked next streams made calls called) L q m :=
  ⟨h.blk.set 12 _,h.oD.fZ (F:=fun k=>k=b) ((aN.refl _ _).setCell _ _ (fun _=>rfl)) (fun e=>h.blk.lK h.oD e.symm),h.pO.fZ (F:=fun k=>k=b) ((aN.refl _ _).setCell _ _ (fun _=>rfl)) (fun e=>h.blk.gV h.pO e.symm)⟩
 obtain⟨w1,hw1⟩:∃ w1,w.setCell ⟨b,12,none⟩ (.int .i64 (silence+1))=w1:=⟨_,rfl⟩
 rw[hw1] at h1 hc1
 have d11:w1.cell? ⟨b,11,none⟩=some (.int .u64 0):=h1.blk.cell 11
 have H1:=hid h1
 clear h h1
 go_enter func35,ntmps35
 go_wp2_with fail
 go_region
 all_goals
  go_wp2_with fail
  refine(CB _ b i0 i1 i2 i3 last had up token (silence+1) asked next streams made calls called L q m H1.out.drew hl).mono ?_;rintro e w2 ⟨rfl,h7,h8⟩
  have H7:=hid h7
  clear h7
  go_wp2_with fail
  go_end0
  exact⟨rfl,H7.out,hc1.drew.same (h8.mono (fun i _ hh=>Or.inr hh))⟩
theorem Aa (r:List UInt8):iO bK (0::r)=none:=by
 unfold iO
 rw[if_neg]
 rintro⟨h1,h2,h3⟩
 rw[jk] at h2
 unfold aS at h3
 have h4:=(List.cons.inj h3).1
 have h5:((List.take ((0::r:List UInt8).length-5) (List.drop 1 (0::r))).length.toUInt8).toNat=0:=by rw[h4];rfl
 simp only[List.length_cons,List.drop_succ_cons,List.drop_zero,List.length_take] at h1 h2 h5
 simp[Nat.toUInt8,UInt8.toNat_ofNat'] at h5
 omega
theorem Uy (w:World) (b:Nat) (v0 v1 v2 v3 v4 v5:Value) (h:aU w b 162 [v0,v1,v2,v3,v4,v5]):(loadVar 162 ⟨b,0,none⟩).run Tryz.prog w=.ok (.agg #[v0,v1,v2,v3,v4,v5]) w:=by
 have e0:w.cell? ⟨b,0,none⟩=some v0:=h.cell 0
 have e1:w.cell? ⟨b,1,none⟩=some v1:=h.cell 1
 have e2:w.cell? ⟨b,2,none⟩=some v2:=h.cell 2
 have e3:w.cell? ⟨b,3,none⟩=some v3:=h.cell 3
 have e4:w.cell? ⟨b,4,none⟩=some v4:=h.cell 4
 have e5:w.cell? ⟨b,5,none⟩=some v5:=h.cell 5
 simp[go_sem,e0,e1,e2,e3,e4,e5]
theorem PY (w:World) (a:Option Addr) (c:Nat) (F:List UInt8) (h:Rd w (.slice a F.length c) F) (hl:F.length≤2000000) (hcap:F.length≤c) (hn:iO bK F=none) :
  Calls Tryz.prog 97 #[.slice a F.length c] w (fun e w'=>e=.returned (.tuple #[.agg #[.int .u8 0,.int .u64 0,.int .u64 0,.int .u64 0,.int .u64 0,.string ⟨#[]⟩],.bool false])∧Below w.heap.size w w'):=by
 have hb0:Below w.heap.size w (w.alloc (.cells #[.int .u8 0,.int .u64 0,.int .u64 0,.int .u64 0,.int .u64 0,.string ⟨#[]⟩] 162)):=(Below.refl _ _).alloc (Nat.le_refl _) _
 have hh0:=heap_alloc_new w (.cells #[.int .u8 0,.int .u64 0,.int .u64 0,.int .u64 0,.int .u64 0,.string ⟨#[]⟩] 162)
 have hz0:w.heap.size<(w.alloc (.cells #[.int .u8 0,.int .u64 0,.int .u64 0,.int .u64 0,.int .u64 0,.string ⟨#[]⟩] 162)).heap.size:=by simp
 have H0:=hid (h.later hb0)
 have HN:=hid hn
 obtain⟨w0,hw0⟩:∃ w0,w.alloc (.cells #[.int .u8 0,.int .u64 0,.int .u64 0,.int .u64 0,.int .u64 0,.string ⟨#[]⟩] 162)=w0:=⟨_,rfl⟩
 rw[hw0] at hb0 hh0 hz0 H0
 clear h hn
 go_enter func97,ntmps97
 go_wp2_with fail
 refine(Nu w0 a c F H0.out (by unfold maxLen;omega) hcap).mono ?_;rintro e w1 ⟨hb1,hm⟩
 rw[HN.out] at hm
 simp only at hm
 subst hm
 have hB1:aU w1 w.heap.size 162 [.int .u8 0,.int .u64 0,.int .u64 0,.int .u64 0,.int .u64 0,.string ⟨#[]⟩]:=(hb1.block _ hz0).trans hh0
 have e0:w1.cell? ⟨w.heap.size,0,none⟩=some (.int .u8 0):=hB1.cell 0
 have e1:w1.cell? ⟨w.heap.size,1,none⟩=some (.int .u64 0):=hB1.cell 1
 have e2:w1.cell? ⟨w.heap.size,2,none⟩=some (.int .u64 0):=hB1.cell 2
 have e3:w1.cell? ⟨w.heap.size,3,none⟩=some (.int .u64 0):=hB1.cell 3
 have e4:w1.cell? ⟨w.heap.size,4,none⟩=some (.int .u64 0):=hB1.cell 4
 have e5:w1.cell? ⟨w.heap.size,5,none⟩=some (.string ⟨#[]⟩):=hB1.cell 5
 have g0:=hB1.frozen 0
 have g1:=hB1.frozen 1
 have g2:=hB1.frozen 2
 have g3:=hB1.frozen 3
 have g4:=hB1.frozen 4
 have g5:=hB1.frozen 5
 have iV:Below w.heap.size w w1:=hb0.trans (hb1.mono hb0.size)
 have hB2:aU ((((((w1.setCell ⟨w.heap.size,0,none⟩ (.int .u8 0)).setCell ⟨w.heap.size,1,none⟩ (.int .u64 0)).setCell ⟨w.heap.size,2,none⟩ (.int .u64 0)).setCell ⟨w.heap.size,3,none⟩ (.int .u64 0)).setCell ⟨w.heap.size,4,none⟩ (.int .u64 0)).setCell ⟨w.heap.size,5,none⟩ (.string ⟨#[]⟩)) w.heap.size 162 [.int .u8 0,.int .u64 0,.int .u64 0,.int .u64 0,.int .u64 0,.string ⟨#[]⟩]:=(((((hB1.set 0 _).set 1 _).set 2 _).set 3 _).set 4 _).set 5 _
 have HL:=hid (Uy _ _ _ _ _ _ _ _ hB2)
 have HB:=hid ((((((iV.setCell (p:=⟨w.heap.size,0,none⟩) (Nat.le_refl _) (.int .u8 0)).setCell (p:=⟨w.heap.size,1,none⟩) (Nat.le_refl _) (.int .u64 0)).setCell (p:=⟨w.heap.size,2,none⟩) (Nat.le_refl _) (.int .u64 0)).setCell (p:=⟨w.heap.size,3,none⟩) (Nat.le_refl _) (.int .u64 0)).setCell (p:=⟨w.heap.size,4,none⟩) (Nat.le_refl _) (.int .u64 0)).setCell (p:=⟨w.heap.size,5,none⟩) (Nat.le_refl _) (.string ⟨#[]⟩))
 clear hB2 hB1
 go_wp2_with fail
 (try simp only[Exit.inBlock,Exit.then])
 refine⟨rfl,.tuple #[.agg #[.int .u8 0,.int .u64 0,.int .u64 0,.int .u64 0,.int .u64 0,.string ⟨#[]⟩],.bool false],?_,rfl,HB.out⟩
 rw[results_cell_tmp rfl]
 have:=HL.out
 simp[asAddr,this]
theorem JV (w:World) (b:Nat) (i0 i1 i2 i3:Value) (last:Int) (had up:Bool) (tl:List Value) (L:List gG) (q m:Nat) (h:aW w b 80 i0 i1 i2 i3 last had up tl L q m) (conn:Int) (a:Option Addr) (c:Nat) (F:List UInt8) (hr:Rd w (.slice a F.length c) F) (hl:F.length≤2000000) (hcap:F.length≤c) (hn:iO bK F=none) :
  Calls Tryz.prog 68 #[.pointer (some ⟨b,0,none⟩),.int .i64 conn,.slice a F.length c] w (fun e w'=>e=.returned (.int .i64 (bif up&&decide (conn=last) then 0 else 10))∧Below w.heap.size w w'):=by
 have H:=hid h
 have HR:=hid hr
 have HN:=hid hn
 clear h hr hn
 cases hup:(up&&decide (conn=last))
 ·have HU:=hid hup
  clear hup
  go_enter func68,ntmps68
  go_wp2_with fail
  refine(rH _ b _ i0 i1 i2 i3 last had up q m tl H.out.blk conn).mono ?_;rintro e w1 ⟨rfl,rfl⟩
  rw[HU.out]
  go_wp2_with fail
  go_ret
  exact⟨rfl,Below.refl _ _⟩
 ·have HU:=hid hup
  clear hup
  go_enter func68,ntmps68
  go_wp2_with fail
  refine(rH _ b _ i0 i1 i2 i3 last had up q m tl H.out.blk conn).mono ?_;rintro e w1 ⟨rfl,rfl⟩
  rw[HU.out]
  go_wp2_with fail
  refine(PY w1 a c F HR.out hl hcap HN.out).mono ?_;rintro e w2 ⟨rfl,hb2⟩
  go_wp2_with fail
  go_ret
  exact⟨rfl,hb2.alloc hb2.size _⟩
theorem JW (w:World) (b:Nat) (i0 i1 i2 i3:Value) (last:Int) (had up:Bool) (tl:List Value) (L:List gG) (q m:Nat) (h:aW w b 75 i0 i1 i2 i3 last had up tl L q m) (conn:Int) (a:Option Addr) (c:Nat) (F:List UInt8) (hr:Rd w (.slice a F.length c) F) (hl:F.length≤2000000) (hcap:F.length≤c) (hn:iO bK F=none) :
  Calls Tryz.prog 69 #[.pointer (some ⟨b,0,none⟩),.int .i64 conn,.slice a F.length c] w (fun e w'=>e=.returned (.int .i64 (bif up&&decide (conn=last) then 0 else 10))∧Below w.heap.size w w'):=by
 have H:=hid h
 have HR:=hid hr
 have HN:=hid hn
 clear h hr hn
 cases hup:(up&&decide (conn=last))
 ·have HU:=hid hup
  clear hup
  go_enter func69,ntmps69
  go_wp2_with fail
  refine(rH _ b _ i0 i1 i2 i3 last had up q m tl H.out.blk conn).mono ?_;rintro e w1 ⟨rfl,rfl⟩
  rw[HU.out]
  go_wp2_with fail
  go_ret
  exact⟨rfl,Below.refl _ _⟩
 ·have HU:=hid hup
  clear hup
  go_enter func69,ntmps69
  go_wp2_with fail
  refine(rH _ b _ i0 i1 i2 i3 last had up q m tl H.out.blk conn).mono ?_;rintro e w1 ⟨rfl,rfl⟩
  rw[HU.out]
  go_wp2_with fail
  refine(PY w1 a c F HR.out hl hcap HN.out).mono ?_;rintro e w2 ⟨rfl,hb2⟩
  go_wp2_with fail
  go_ret
  exact⟨rfl,hb2.alloc hb2.size _⟩
def qW:gG:=⟨7,0,0,0,0,⟨#[]⟩⟩
abbrev nT (aI:Value) (ms mo:Nat):List Value:=[aI,.map (some ms),.pointer none,.int .u64 0,.slice none 0 0,.int .i64 0,.map (some mo)]
def Void (w:World) (m:Nat):Prop:=w.heap[m]? = some (.map #[] 0)
theorem Void.lt {w:World} {m:Nat} (h:Void w m):m<w.heap.size:=(Array.getElem?_eq_some_iff.1 h).1
theorem Void.fZ {F:Nat→Prop} {w w':World} {m:Nat} (h:Void w m) (hc:aN F w w') (hf:¬ F m):Void w' m:=(hc.block m h.lt hf).trans h
theorem Void.Ij {w:World} {m b:Nat} {T:TypeId} {xs:List Value} (h:Void w m) (k:aU w b T xs):m≠b:=fun e=>by
 have h':w.heap[m]? = _:=h
 have k':w.heap[b]? = _:=k
 rw[e,k'] at h'
 cases h'
theorem Void.lK {w:World} {m q:Nat} {L:List gG} (h:Void w m) (k:wB w q L):m≠q:=fun e=>by
 obtain⟨s,r,k⟩:=k
 have h':w.heap[m]? = _:=h
 rw[e,k] at h'
 cases h'
theorem Ac (w:World):(binOp .eql 72 (.pointer none) (.pointer none)).run Tryz.prog w=.ok (.bool true) w:=by
 have h1:∀ d:Nat,(Op.equalIn (d+1) 72 (.pointer none) (.pointer none)).run Tryz.prog w=.ok true w:=fun d=>by simp[Op.equalIn,run_underlying underlying72]
 have h2:(Op.equal 72 (.pointer none) (.pointer none)).run Tryz.prog w=.ok true w:=h1 9999
 simp[binOp,h2]
theorem NH (w:World) (b:Nat) (i0 i1 i2 i3:Value) (last:Int) (had up:Bool) (aI:Value) (ms mo:Nat) (L:List gG) (q m:Nat)
  (h:aW w b 75 i0 i1 i2 i3 last had up (nT aI ms mo) L q m) (hl:L.length<60) :
  Calls Tryz.prog 73 #[.pointer (some ⟨b,0,none⟩)] w (fun e w'=>e=.returned (.tuple #[])∧aW w' b 75 i0 i1 i2 i3 last had up (nT aI ms mo) (nN up L qW) q m∧aN (fun k=>k=q∨k=m) w w'):=by
 have d11:w.cell? ⟨b,11,none⟩=some (.pointer none):=h.blk.cell 11
 have hq:=Ac w
 have H:=hid h
 clear h
 go_enter func73,ntmps73
 go_wp2_with fail
 refine(H.out.post qW hl).mono ?_;rintro e w1 ⟨⟨r,rfl⟩,h1,h2⟩
 have H1:=hid h1
 clear h1
 go_wp2_with fail
 (try simp only[Exit.inBlock,Exit.then]);refine bodyPost_ret (results_none rfl _ _ _) rfl ?_
 exact⟨rfl,H1.out,h2⟩
theorem ZR (w:World) (b:Nat) (i0 i1 i2 i3:Value) (last:Int) (up:Bool) (tl:List Value) (L:List gG) (q m:Nat) (h:aW w b 75 i0 i1 i2 i3 last true up tl L q m) (conn:Int) (hc:conn≤last) :
  Calls Tryz.prog 66 #[.pointer (some ⟨b,0,none⟩),.int .i64 conn] w (fun e w'=>e=.returned (.int .i64 10)∧w'=w):=by
 have H:=hid h
 clear h
 go_enter func66,ntmps66
 go_wp2_with fail
 refine(JR w b _ i0 i1 i2 i3 last up q m tl H.out.blk conn hc).mono ?_;rintro e w1 ⟨rfl,rfl⟩
 go_wp2_with fail
 go_ret
 exact⟨rfl,rfl⟩
theorem X0 (w:World) (b:Nat) (i0 i1 i2 i3:Value) (last:Int) (had up:Bool) (aI:Value) (ms mo:Nat) (L:List gG) (q m:Nat)
  (h:aW w b 75 i0 i1 i2 i3 last had up (nT aI ms mo) L q m) (conn:Int) (hc:had=false∨last<conn) :
  Calls Tryz.prog 66 #[.pointer (some ⟨b,0,none⟩),.int .i64 conn] w (fun e w'=>e=.returned (.int .i64 0)∧∃ q' m',w.heap.size≤q'∧w.heap.size≤m'∧aW w' b 75 i0 i1 i2 i3 conn true true (nT aI ms mo) [] q' m'∧aN (fun k=>k=b) w w'):=by
 have H:=hid h
 have HC:=hid hc
 clear h hc
 go_enter func66,ntmps66
 go_wp2_with fail
 refine(FY w b _ i0 i1 i2 i3 last had up q m _ H.out.blk conn HC.out).mono ?_;rintro e w1 ⟨rfl,q',m',h1,h2,h3,h4,h5,h6⟩
 have d11:w1.cell? ⟨b,11,none⟩=some (.pointer none):=h3.cell 11
 have g11:=h3.frozen 11
 have H3:=hid h3
 have H4:=hid h4
 have H5:=hid h5
 clear h3 h4 h5
 go_wp2_with fail
 go_ret
 have hc1:aN (fun k=>k=b) w1 (w1.setCell ⟨b,11,none⟩ (.pointer none)):=(aN.refl _ _).setCell _ _ (fun _=>rfl)
 exact⟨rfl,q',m',h1,h2,⟨H3.out.set 11 _,H4.out.fZ hc1 (fun e=>H3.out.lK H4.out e.symm),H5.out.fZ hc1 (fun e=>H3.out.gV H5.out e.symm)⟩,h6.same hc1⟩
theorem QY (w:World) (b:Nat) (i0 i1 i2 i3:Value) (last:Int) (had up:Bool) (aI:Value) (ms mo:Nat) (L:List gG) (q m:Nat)
  (h:aW w b 75 i0 i1 i2 i3 last had up (nT aI ms mo) L q m) (hv:Void w ms) (hl:L.length<60) :
  Calls Tryz.prog 37 #[.pointer (some ⟨b,0,none⟩)] w (fun e w'=>e=.returned (.tuple #[])∧aW w' b 75 i0 i1 i2 i3 last had up (nT aI ms mo) (nN up L qW) q m∧aN (fun k=>k=q∨k=m) w w'):=by
 have d10:w.cell? ⟨b,10,none⟩=some (.map (some ms)):=h.blk.cell 10
 have hr:=run_range_map (P:=Tryz.prog) w 70 _ _ ms #[] 0 underlying70 hv
 have hx:∀ ty,(Instr.next (.pointer (some ⟨w.heap.size,0,none⟩)) false ty).run Tryz.prog (w.alloc (.mapIter (some ms) 0 #[] 0))=.ok (.tuple #[.bool false]) (w.alloc (.mapIter (some ms) 0 #[] 0)):=fun ty=>by
  rcases run_next_map (P:=Tryz.prog) w ty ms 0 0 #[] #[] 0 hv (fun x hx=>by simp at hx) (Nat.le_refl _) with⟨_,h⟩ | ⟨e,he,_⟩
  ·exact h
  ·simp[leftOf] at he
 have hb1:Below w.heap.size w (w.alloc (.mapIter (some ms) 0 #[] 0)):=(Below.refl _ _).alloc (Nat.le_refl _) _
 have H1:=hid (h.below hb1)
 clear h hv
 go_enter func37,ntmps37
 go_wp2_with fail
 go_loopg [2,3] 1 (fun gk x y wr=>wr=w.alloc (.mapIter (some ms) 0 #[] 0))
 case atStart=>rfl
 case round=>
  subst hrel
  go_wp2_with fail
  refine(NH _ b i0 i1 i2 i3 last had up aI ms mo L q m H1.out hl).mono ?_;rintro e w2 ⟨rfl,h7,h8⟩
  have H7:=hid h7
  clear h7
  go_wp2_with fail
  go_end0
  exact⟨rfl,H7.out,(aN.of_below hb1).same h8⟩
theorem Uz (w:World) (b:Nat) (i0 i1 i2 i3:Value) (last:Int) (had up:Bool) (aI:Value) (ms mo:Nat) (L:List gG) (q m:Nat)
  (h:aW w b 75 i0 i1 i2 i3 last had up (nT aI ms mo) L q m) :
  Calls Tryz.prog 72 #[.pointer (some ⟨b,0,none⟩)] w (fun e w'=>e=.returned (.tuple #[])∧∃ q' m',w.heap.size≤q'∧w.heap.size≤m'∧aW w' b 75 i0 i1 i2 i3 last had up (nT aI ms mo) [] q' m'∧aN (fun k=>k=b) w w'):=by
 have d11:w.cell? ⟨b,11,none⟩=some (.pointer none):=h.blk.cell 11
 have g11:=h.blk.frozen 11
 have hB:aU (w.setCell ⟨b,11,none⟩ (.pointer none)) b 75 (rG i0 i1 i2 i3 last had up q m (nT aI ms mo)):=h.blk.set 11 _
 have hc:aN (fun k=>k=b) w (w.setCell ⟨b,11,none⟩ (.pointer none)):=(aN.refl _ _).setCell _ _ (fun _=>rfl)
 have hz:=hc.size
 have HB:=hid hB
 clear h hB
 go_enter func72,ntmps72
 go_wp2_with fail
 refine(empty_any _ b _ i0 i1 i2 i3 last had up _ _ _ HB.out).mono ?_;rintro e w1 ⟨rfl,q',m',h1,h2,h3,h4,h5,h6⟩
 have H4:=hid h4
 have H3:=hid h3
 clear h3 h4
 go_wp2_with fail
 go_end0
 exact⟨rfl,q',m',by omega,by omega,⟨H3.out,H4.out,h5⟩,hc.same h6⟩
theorem NI {w:World} {ms:Nat} (h:Void w ms) (ty:TypeId):(Builtin.clear_ #[70] ty #[.map (some ms)]).run Tryz.prog w=.ok (.tuple #[]) w:=by
 have h':w.heap[ms]? = some (.map #[] 0):=h
 have hs:w.heap.setIfInBounds ms (.map #[] 0)=w.heap:=by
  apply Array.ext (by simp)
  intro i h1 h2
  rw[Array.getElem_setIfInBounds]
  split
  ·rename_i e
   subst e
   exact(Array.getElem?_eq_some_iff.1 h').2.symm
  ·rfl
 simp[Builtin.clear_,run_underlying underlying70,MapKept.run_getObj_map h',MapKept.run_setObj_map _ h',Result.andThen,hs]
theorem JX (w:World) (b:Nat) (i0 i1 i2 i3:Value) (last:Int) (had up:Bool) (aI:Value) (ms mo:Nat) (L:List gG) (q m:Nat)
  (h:aW w b 75 i0 i1 i2 i3 last had up (nT aI ms mo) L q m) (hv:Void w ms) :
  Calls Tryz.prog 81 #[.pointer (some ⟨b,0,none⟩)] w (fun e w'=>e=.returned (.tuple #[])∧∃ q' m',w.heap.size≤q'∧w.heap.size≤m'∧aW w' b 75 i0 i1 i2 i3 last had up (nT aI ms mo) [] q' m'∧aN (fun k=>k=b) w w'):=by
 have d10:w.cell? ⟨b,10,none⟩=some (.map (some ms)):=h.blk.cell 10
 have d13:w.cell? ⟨b,13,none⟩=some (.slice none 0 0):=h.blk.cell 13
 have g13:=h.blk.frozen 13
 have hcl:∀ ty,(Builtin.clear_ #[70] ty #[.map (some ms)]).run Tryz.prog w=.ok (.tuple #[]) w:=NI hv
 have hc:aN (fun k=>k=b) w (w.setCell ⟨b,13,none⟩ (.slice none 0 0)):=(aN.refl _ _).setCell _ _ (fun _=>rfl)
 have h1:aW (w.setCell ⟨b,13,none⟩ (.slice none 0 0)) b 75 i0 i1 i2 i3 last had up (nT aI ms mo) L q m:=⟨h.blk.set 13 _,h.oD.fZ hc (fun e=>h.blk.lK h.oD e.symm),h.pO.fZ hc (fun e=>h.blk.gV h.pO e.symm)⟩
 have hz:=hc.size
 have H1:=hid h1
 clear h h1 hv
 go_enter func81,ntmps81
 go_wp2_with fail
 refine(Uz _ b i0 i1 i2 i3 last had up aI ms mo L q m H1.out).mono ?_;rintro e w1 ⟨rfl,q',m',h1,h2,h3,h4⟩
 have H3:=hid h3
 clear h3
 go_wp2_with fail
 go_end0
 exact⟨rfl,q',m',by omega,by omega,H3.out,hc.same h4⟩
theorem UA (w:World):(zeroValue 191).run Tryz.prog w=.ok (.agg #[.int .u64 0,.int .u64 0,.int .u64 0,.string ⟨#[]⟩]) w:=by
 simp[go_sem]
theorem JY {w:World} {mo:Nat} (h:Void w mo) (id:Int):(Instr.lookup 71 (.map (some mo)) (.int .i64 id) true).run Tryz.prog w=.ok (.tuple #[.agg #[.int .u64 0,.int .u64 0,.int .u64 0,.string ⟨#[]⟩],.bool false]) w:=by
 have h':w.heap[mo]? = some (.map #[] 0):=h
 have hc:∀ em,(Instr.checkKey em 10000 3 (.int .i64 id)).run Tryz.prog w=.ok () w:=fun em=>MapKept.run_checkKey underlying3 (by simp[MapKept.IsKey]) em 9999
 simp[Instr.lookup,run_underlying underlying71,MapKept.run_getObj_map h',hc,Instr.findKey,run_underlying underlying3,Instr.findNow,UA,Result.andThen]
theorem UC (w:World) (b:Nat) (i0 i1 i2 i3:Value) (last:Int) (had up:Bool) (aI:Value) (ms mo:Nat) (L:List gG) (q m:Nat)
  (h:aW w b 75 i0 i1 i2 i3 last had up (nT aI ms mo) L q m) (hv:Void w mo) (id:Int) (v:ByteArray) :
  Calls Tryz.prog 80 #[.pointer (some ⟨b,0,none⟩),.int .i64 id,.string v] w (fun e w'=>e=.returned (.int .i64 16)∧Below w.heap.size w w'):=by
 have d15:w.cell? ⟨b,15,none⟩=some (.map (some mo)):=h.blk.cell 15
 have hlk:=JY hv id
 clear h hv
 go_enter func80,ntmps80
 go_wp2_with fail
 go_ret
 exact⟨rfl,(Below.refl _ _).alloc (Nat.le_refl _) _⟩
theorem wG (w:World) (b:Nat) (v0 v1 v2:Value) (h:aU w b 115 [v0,v1,v2]):(loadVar 115 ⟨b,0,none⟩).run Tryz.prog w=.ok (.agg #[v0,v1,v2]) w:=by
 have e0:w.cell? ⟨b,0,none⟩=some v0:=h.cell 0
 have e1:w.cell? ⟨b,1,none⟩=some v1:=h.cell 1
 have e2:w.cell? ⟨b,2,none⟩=some v2:=h.cell 2
 simp[go_sem,e0,e1,e2]
theorem X3 (w:World) (b:Nat) (i0 i1 i2 i3:Value) (last:Int) (had up:Bool) (aI:Value) (ms mo:Nat) (L:List gG) (q m:Nat)
  (h:aW w b 75 i0 i1 i2 i3 last had up (nT aI ms mo) L q m) :
  Calls Tryz.prog 79 #[.pointer (some ⟨b,0,none⟩)] w (fun e w'=>e=.returned (.tuple #[.agg #[.int .i64 0,.string ⟨#[]⟩,.string ⟨#[]⟩],.bool false])∧Below w.heap.size w w'):=by
 have hb0:Below w.heap.size w (w.alloc (.cells #[.int .i64 0,.string ⟨#[]⟩,.string ⟨#[]⟩] 115)):=(Below.refl _ _).alloc (Nat.le_refl _) _
 have hB0:aU (w.alloc (.cells #[.int .i64 0,.string ⟨#[]⟩,.string ⟨#[]⟩] 115)) w.heap.size 115 [.int .i64 0,.string ⟨#[]⟩,.string ⟨#[]⟩]:=heap_alloc_new w _
 have h0:=h.below hb0
 obtain⟨w0,hw0⟩:∃ w0,w.alloc (.cells #[.int .i64 0,.string ⟨#[]⟩,.string ⟨#[]⟩] 115)=w0:=⟨_,rfl⟩
 rw[hw0] at hb0 hB0 h0
 have d13:w0.cell? ⟨b,13,none⟩=some (.slice none 0 0):=h0.blk.cell 13
 have e0:w0.cell? ⟨w.heap.size,0,none⟩=some (.int .i64 0):=hB0.cell 0
 have e1:w0.cell? ⟨w.heap.size,1,none⟩=some (.string ⟨#[]⟩):=hB0.cell 1
 have e2:w0.cell? ⟨w.heap.size,2,none⟩=some (.string ⟨#[]⟩):=hB0.cell 2
 have g0:=hB0.frozen 0
 have g1:=hB0.frozen 1
 have g2:=hB0.frozen 2
 have HL:=hid (wG _ _ _ _ _ (show aU (((w0.setCell ⟨w.heap.size,0,none⟩ (.int .i64 0)).setCell ⟨w.heap.size,1,none⟩ (.string ⟨#[]⟩)).setCell ⟨w.heap.size,2,none⟩ (.string ⟨#[]⟩)) w.heap.size 115 [.int .i64 0,.string ⟨#[]⟩,.string ⟨#[]⟩] from((hB0.set 0 _).set 1 _).set 2 _))
 have HB:=hid (((hb0.setCell (p:=⟨w.heap.size,0,none⟩) (Nat.le_refl _) (.int .i64 0)).setCell (p:=⟨w.heap.size,1,none⟩) (Nat.le_refl _) (.string ⟨#[]⟩)).setCell (p:=⟨w.heap.size,2,none⟩) (Nat.le_refl _) (.string ⟨#[]⟩))
 clear h h0 hB0
 go_enter func79,ntmps79
 go_wp2_with fail
 (try simp only[Exit.inBlock,Exit.then])
 refine⟨rfl,.tuple #[.agg #[.int .i64 0,.string ⟨#[]⟩,.string ⟨#[]⟩],.bool false],?_,rfl,HB.out⟩
 rw[results_cell_tmp rfl]
 have:=HL.out
 simp[asAddr,this]
def jr (b:Nat):Value:=.pointer (some ⟨b,0,none⟩)
def rJ (w:World) (lo:Nat) (T:TypeId) (v:Value) (Bs:List Nat):Prop:=w.ownsRow lo T 1 v Bs.length (Bs.map jr)
theorem rJ.slice {w:World} {lo:Nat} {T:TypeId} {v:Value} {Bs:List Nat} (h:rJ w lo T v Bs):∃ a c,v=.slice a Bs.length c:=ak h
theorem rJ.cell {w:World} {lo:Nat} {T:TypeId} {v:Value} {Bs:List Nat} (h:rJ w lo T v Bs) (h0:0<Bs.length):∃ g c,v=.slice (some ⟨g,0,none⟩) Bs.length c∧lo≤g∧g<w.heap.size∧∀ i (hi:i<Bs.length),w.cell? ⟨g,i,none⟩=some (jr Bs[i]):=by
 rcases h.2 with⟨_,e⟩ | ⟨g,cap,cur,hv,r⟩
 ·omega
 ·have hl:=h.lt g (by rw[hv];rfl)
  refine⟨g,cap,hv,hl.1,hl.2,fun i hi=>?_⟩
  have:=h.cells (g:=g) (by rw[hv];rfl) i (jr Bs[i]) (by simp[List.getElem?_eq_getElem hi])
  rw[jO _ _ rfl] at this
  simpa using this
theorem rJ.below {w w':World} {lo:Nat} {T:TypeId} {v:Value} {Bs:List Nat} (h:rJ w lo T v Bs) (hb:Below w.heap.size w w'):rJ w' lo T v Bs:=au h (fun g hg=>hb.block g (h.lt g hg).2)
def Ik (n:Nat) (f:Nat→Bool) (z:Int):Prop:=(∃ k:Nat,k<n∧f k=true∧(∀ j,j<k→f j=false)∧z=k)∨((∀ j,j<n→f j=false)∧z = -1)
theorem QZ (w:World) (lo:Nat) (v:Value) (Bs:List Nat) (cb:Nat) (f:Nat→Bool) (h:rJ w lo 136 v Bs) (hl:Bs.length≤400)
  (hcl:∀ wr,Below w.heap.size w wr→∀ i (hi:i<Bs.length),Calls Tryz.prog 220 #[jr Bs[i],.pointer (some ⟨cb,0,none⟩)] wr (fun e w'=>e=.returned (.bool (f i))∧Below wr.heap.size wr w')) :
  Calls Tryz.prog 219 #[v,.func (Fn.func 220) #[] #[.pointer (some ⟨cb,0,none⟩)]] w (fun e w'=>∃ z:Int,e=.returned (.int .i64 z)∧Ik Bs.length f z∧Below w.heap.size w w'):=by
 obtain⟨la,lc,rfl⟩:=h.slice
 have H:=hid h
 have HC:=hid hcl
 clear h hcl
 go_enter func219,ntmps219
 go_wp2_with fail
 go_loopg [5,8] Bs.length (fun gk t i wr=>∃ k:Nat,k+gk=Bs.length∧i=.int .i64 k∧Hid (∀ j,j<k→f j=false)∧Below w.heap.size w wr)
 case atStart=>exact⟨0,by omega,rfl,hid (fun j hj=>by omega),Below.refl _ _⟩
 case round=>
  obtain⟨k,hk,rfl,HA,hbel⟩:=hrel
  by_cases hlt:k<Bs.length
  ·obtain⟨g,cap,hv,hlo,hgs,hcell⟩:=H.out.cell (by omega)
   obtain⟨rfl,rfl⟩:la=some ⟨g,0,none⟩∧lc=cap:=by simpa using hv
   have hck:wr.cell? ⟨g,k,none⟩=some (jr Bs[k]):=(hbel.cell (p:=⟨g,k,none⟩) hgs).trans (hcell k hlt)
   unfold jr at hck
   have oM:(k:Int)<(Bs.length:Int):=by omega
   clear hv hcell
   go_wp2_with fail
   refine(HC.out _ hbel k hlt).mono ?_;rintro e w1 ⟨rfl,hb1⟩
   have hb2:=hbel.trans (hb1.mono hbel.size)
   clear hb1 hck
   cases hm:f k with
   | false=>
    go_wp2_with fail
    go_roundg (gk-1)
    case rel=>exact⟨k+1,by omega,by go_num,hid (fun j hj=>by
     rcases Nat.lt_or_ge j k with h | h
     ·exact HA.out j h
     ·rw[show j=k from by omega];exact hm),hb2⟩
    case measure=>omega
   | true=>
    go_wp2_with fail
    go_ret
    exact⟨k,rfl,Or.inl ⟨k,hlt,hm,HA.out,rfl⟩,hb2⟩
  ·have oM:¬ (k:Int)<(Bs.length:Int):=by omega
   go_wp2_with fail
   go_ret
   exact⟨-1,rfl,Or.inr ⟨fun j hj=>HA.out j (by omega),rfl⟩,hbel⟩
theorem NJ (w:World) (lo:Nat) (v:Value) (Bs:List Nat) (cb:Nat) (f:Nat→Bool) (h:rJ w lo 166 v Bs) (hl:Bs.length≤400)
  (hcl:∀ wr,Below w.heap.size w wr→∀ i (hi:i<Bs.length),Calls Tryz.prog 125 #[jr Bs[i],.pointer (some ⟨cb,0,none⟩)] wr (fun e w'=>e=.returned (.bool (f i))∧Below wr.heap.size wr w')) :
  Calls Tryz.prog 124 #[v,.func (Fn.func 125) #[] #[.pointer (some ⟨cb,0,none⟩)]] w (fun e w'=>∃ z:Int,e=.returned (.int .i64 z)∧Ik Bs.length f z∧Below w.heap.size w w'):=by
 obtain⟨la,lc,rfl⟩:=h.slice
 have H:=hid h
 have HC:=hid hcl
 clear h hcl
 go_enter func124,ntmps124
 go_wp2_with fail
 go_loopg [5,8] Bs.length (fun gk t i wr=>∃ k:Nat,k+gk=Bs.length∧i=.int .i64 k∧Hid (∀ j,j<k→f j=false)∧Below w.heap.size w wr)
 case atStart=>exact⟨0,by omega,rfl,hid (fun j hj=>by omega),Below.refl _ _⟩
 case round=>
  obtain⟨k,hk,rfl,HA,hbel⟩:=hrel
  by_cases hlt:k<Bs.length
  ·obtain⟨g,cap,hv,hlo,hgs,hcell⟩:=H.out.cell (by omega)
   obtain⟨rfl,rfl⟩:la=some ⟨g,0,none⟩∧lc=cap:=by simpa using hv
   have hck:wr.cell? ⟨g,k,none⟩=some (jr Bs[k]):=(hbel.cell (p:=⟨g,k,none⟩) hgs).trans (hcell k hlt)
   unfold jr at hck
   have oM:(k:Int)<(Bs.length:Int):=by omega
   clear hv hcell
   go_wp2_with fail
   refine(HC.out _ hbel k hlt).mono ?_;rintro e w1 ⟨rfl,hb1⟩
   have hb2:=hbel.trans (hb1.mono hbel.size)
   clear hb1 hck
   cases hm:f k with
   | false=>
    go_wp2_with fail
    go_roundg (gk-1)
    case rel=>exact⟨k+1,by omega,by go_num,hid (fun j hj=>by
     rcases Nat.lt_or_ge j k with h | h
     ·exact HA.out j h
     ·rw[show j=k from by omega];exact hm),hb2⟩
    case measure=>omega
   | true=>
    go_wp2_with fail
    go_ret
    exact⟨k,rfl,Or.inl ⟨k,hlt,hm,HA.out,rfl⟩,hb2⟩
  ·have oM:¬ (k:Int)<(Bs.length:Int):=by omega
   go_wp2_with fail
   go_ret
   exact⟨-1,rfl,Or.inr ⟨fun j hj=>HA.out j (by omega),rfl⟩,hbel⟩
theorem UD (w:World) (lo:Nat) (v:Value) (Bs:List Nat) (cb:Nat) (f:Nat→Bool) (h:rJ w lo 168 v Bs) (hl:Bs.length≤400)
  (hcl:∀ wr,Below w.heap.size w wr→∀ i (hi:i<Bs.length),Calls Tryz.prog 129 #[jr Bs[i],.pointer (some ⟨cb,0,none⟩)] wr (fun e w'=>e=.returned (.bool (f i))∧Below wr.heap.size wr w')) :
  Calls Tryz.prog 128 #[v,.func (Fn.func 129) #[] #[.pointer (some ⟨cb,0,none⟩)]] w (fun e w'=>∃ z:Int,e=.returned (.int .i64 z)∧Ik Bs.length f z∧Below w.heap.size w w'):=by
 obtain⟨la,lc,rfl⟩:=h.slice
 have H:=hid h
 have HC:=hid hcl
 clear h hcl
 go_enter func128,ntmps128
 go_wp2_with fail
 go_loopg [5,8] Bs.length (fun gk t i wr=>∃ k:Nat,k+gk=Bs.length∧i=.int .i64 k∧Hid (∀ j,j<k→f j=false)∧Below w.heap.size w wr)
 case atStart=>exact⟨0,by omega,rfl,hid (fun j hj=>by omega),Below.refl _ _⟩
 case round=>
  obtain⟨k,hk,rfl,HA,hbel⟩:=hrel
  by_cases hlt:k<Bs.length
  ·obtain⟨g,cap,hv,hlo,hgs,hcell⟩:=H.out.cell (by omega)
   obtain⟨rfl,rfl⟩:la=some ⟨g,0,none⟩∧lc=cap:=by simpa using hv
   have hck:wr.cell? ⟨g,k,none⟩=some (jr Bs[k]):=(hbel.cell (p:=⟨g,k,none⟩) hgs).trans (hcell k hlt)
   unfold jr at hck
   have oM:(k:Int)<(Bs.length:Int):=by omega
   clear hv hcell
   go_wp2_with fail
   refine(HC.out _ hbel k hlt).mono ?_;rintro e w1 ⟨rfl,hb1⟩
   have hb2:=hbel.trans (hb1.mono hbel.size)
   clear hb1 hck
   cases hm:f k with
   | false=>
    go_wp2_with fail
    go_roundg (gk-1)
    case rel=>exact⟨k+1,by omega,by go_num,hid (fun j hj=>by
     rcases Nat.lt_or_ge j k with h | h
     ·exact HA.out j h
     ·rw[show j=k from by omega];exact hm),hb2⟩
    case measure=>omega
   | true=>
    go_wp2_with fail
    go_ret
    exact⟨k,rfl,Or.inl ⟨k,hlt,hm,HA.out,rfl⟩,hb2⟩
  ·have oM:¬ (k:Int)<(Bs.length:Int):=by omega
   go_wp2_with fail
   go_ret
   exact⟨-1,rfl,Or.inr ⟨fun j hj=>HA.out j (by omega),rfl⟩,hbel⟩
end Go.Proofs.YtgalebcpagmohaaGreatDoor
