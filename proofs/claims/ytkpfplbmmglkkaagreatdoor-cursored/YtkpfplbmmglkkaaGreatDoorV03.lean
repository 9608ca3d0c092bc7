/- Package ends: topics: topic, unfinished, pushAll, Finish. -/
import Derived.Test.YtkpfplbmmglkkaaGreatDoorV01
import Derived.Laws.OwnMore
import Derived.Deep.RegionLaw
import Derived.Lib.SliceRun
set_option linter.all false
set_option maxHeartbeats 2000000
set_option maxRecDepth 100000
namespace Go.Proofs.YtkpfplbmmglkkaaGreatDoor
open Go.Proofs.Tryz
variable {w:World}{lo n g:Nat}{v:Value}{e:TypeId}{xs:List Value}
open Go.RowKit Go.Conc
structure pO where
 ap:Nat
 name:ByteArray
 base:ByteArray
 count:Nat
 dJ:Value
 kv:List Value
 bD:Bool
abbrev nP(t:pO):List Value:=[.string t.name,.string t.base,.int .u64 t.count,t.dJ,.bool t.bD]
structure oC(w:World)(lo:Nat)(v:Value)(Ts:List pO):Prop where
 row:rH w lo 100 v (Ts.map (fun t=>t.ap))
 ue:∀ t∈Ts,aZ w t.ap 108 (nP t)
 qc:(Ts.map (fun t=>t.ap)).Nodup
 dJ:∀ t∈Ts,w.ownsRow lo 103 1 t.dJ t.kv.length t.kv∧t.kv.length≤16∧∀ u∈t.kv,u.oneCell'=true
 xd:∀ (i j:Nat) (x y:pO),Ts[i]? = some x→Ts[j]? = some y→i≠j→∀ g,x.dJ.ownBlock=some g→y.dJ.ownBlock≠some g
theorem oC.below{w':World}{Ts:List pO}(h:oC w lo v Ts)(hb:Below w.heap.size w w'):oC w' lo v Ts:=⟨h.row.below hb,fun t ht=>(h.ue t ht).below hb,h.qc,fun t ht=>⟨aH (h.dJ t ht).1 (fun g hg=>hb.block g ((h.dJ t ht).1.lt g hg).2),(h.dJ t ht).2⟩,h.xd⟩
theorem zN(t:pO)(name:ByteArray)(cb:Nat)(w:World)(hB:aZ w t.ap 108 (nP t))(hc:w.cell? (aj cb 0)=some (.string name)):
  aT 97 #[aJ t.ap,aM cb] w (fun e w'=>e=.returned (.bool (t.name.toList==name.toList))∧Below w.heap.size w w'):=by
 unfold aJ;have d0:=hB.ce 0 rfl;clear hB
 go_enter func97,ntmps97
 go_wp2_with fail
 go_region
 all_goals
  go_wp2_with fail
  go_ret
  exact⟨rfl,(Below.refl _ _).drew⟩
theorem ajF:(100:TypeId)≠108:=by decide
theorem ajG:(100:TypeId)≠103:=by decide
theorem aeo:(108:TypeId)≠103:=by decide
theorem aZ.bY{b size:Nat}{T:TypeId}{ys:List Value}(h:aZ w b T xs)(k:w.ownsRow lo e size v n ys)(bT:e≠T):v.ownBlock≠some b:=fun hv=>by
 obtain⟨cur,hc⟩:=gB k hv;have h':w.heap[b]? = _:=h;rw[hc] at h';simp only[Option.some.injEq,Obj.cells.injEq] at h';exact bT h'.2.1
theorem uh(w:World)(b:Nat)(i0 i1 i2 i3:Value)(bu:Int)(fN up:Bool)(au:Value)(ms mo:Nat)(L:List aS)(q m:Nat)
  (h:jY w b 91 i0 i1 i2 i3 bu fN up (ZH au ms mo) L q m) (v:Value) :
  aT 48 #[aM b,v] w (fun e w'=>e=.returned (.tuple #[])∧w'=w):=by
 have d11:=h.ap.ce 11 rfl;have hq:=F8 w;clear h
 go_enter func48,ntmps48
 go_wp2_with fail
 (try simp only[Exit.inBlock,Exit.then]);refine bodyPost_ret (results_none rfl _ _ _) rfl ?_
 exact⟨rfl,rfl⟩
theorem Oj{i:Nat}(h:aZ w g 103 xs)(hi:i<xs.length)(c:Nat)(ty:TypeId):(Builtin.clear_ #[106] ty #[.slice (some (aj g i)) 1 c]).run Tryz.prog w=.ok (.tuple #[]) (w.setCell (aj g i) (.slice none 0 0)):=by
 have hu:w.cell? (aj g i)=some xs[i]:=(h.cell i).trans (List.getElem?_eq_getElem hi);have zO:=h.aq i;have hzc:(Builtin.zeroCells #[.slice none 0 0] 1).toList=[.slice none 0 0]:=by simp[Builtin.zeroCells]
 simp[Builtin.clear_,run_underlying underlying106,go_sem,hzc,hu,zO]
theorem Tryz.infoBytesK:(Tryz.prog.info? 103).map (fun i=>(i.zero,i.size,i.bytes))=some (some (.slice none 0 0),1,24):=by kernel_rfl
theorem oD{c:Nat}(h:w.ownsRow lo e 1 (.slice (some (aj g 0)) n c) n xs):n≤c∧c≤maxLen∧∃ cur,w.heap[g]? = some (.cells cur e (0,0))∧cur.size=c∧cur.toList.take n=xs∧lo≤g:=by
 rcases h.2 with⟨e,_⟩ | ⟨g',cap,cur,hv,h1,h2,h3,h4,h5,h6⟩
 ·cases e
 ·simp only[Value.slice.injEq,Option.some.injEq,Addr.mk.injEq,and_true,true_and] at hv
  obtain⟨rfl,rfl⟩:=hv;exact⟨h3,h4,cur,h2,by simpa using h5,by simpa using h6,h1⟩
theorem lu{P:Program}{ops:Array Oper}{o:Oper}{a:Act}{K:Act→World→Prop}{Q:Exit→Act→World→Prop}{E:Prop}
  (hg:o.guard=none) (s x:Operand) (t:TypeId) (hop:o.op=Op.call { callee:=Callee.builtin Builtin.append,args:=#[s,x],argTypes:=#[t,t] }) (v1 v2:Value) (hs:a.eval s=v1) (hx:a.eval x=v2)
  (v:Value) (w':World) (hr:(Builtin.append_ #[t,t] o.type #[v1,v2]).run P w=.ok v w') (hK:K (a.put o.dst v) w') :
  if Region.wanted o (yielded ops a.tmps)=true then Oper.wp P o a w K Q else E:=by
 have hw:Region.wanted o (yielded ops a.tmps)=true:=by simp[Region.wanted,hg]
 rw[if_pos hw];unfold Oper.wp execOp;simp only[hop,resolve,invoke,builtin,Sem.run_bind,Sem.run_pure,Result.andThen_ok,List.map_toArray,List.map_cons,List.map_nil,hs,hx,hr];exact hK
theorem Rk(w:World)(a:Addr)(n c:Nat)(hc:n≤c)(hm:c≤maxLen):
  aT 72 #[.slice (some a) n c,vI 0,vI 0] w (fun e w'=>e=.returned (.slice (some a) n c)∧w'=w):=by
 unfold maxLen at hm
 go_enter func72,ntmps72
 go_wp2_with fail
 all_goals
  go_ret
  exact⟨rfl,rfl⟩
theorem Ol(w:World)(lo g n c:Nat)(xs:List Value)(h:w.ownsRow lo 103 1 (.slice (some (aj g 0)) n c) n xs)(h2:2≤n)(Kh:∀ u∈xs,u.oneCell'=true):
  aT 72 #[.slice (some (aj g 0)) n c,vI 0,vI 1] w (fun e w'=>e=.returned (.slice (some (aj g 0)) (n-1) c)∧w'.ownsRow lo 103 1 (.slice (some (aj g 0)) (n-1) c) (n-1) (xs.drop 1)∧aQ (fun k=>k=g) w w'):=by
 obtain⟨hnc,Yq,cur,hg,BF,jt,di⟩:=oD h;have Yr:xs.length=n:=by have:=h.1;omega
 obtain⟨iI,rE,zj,uZ,zk⟩:=info_parts Tryz.infoBytesK;have h0:w.drew.ownsRow lo 103 1 (.slice (some (aj g 0)) 0 c) 0 []:=⟨rfl,.inr ⟨g,c,cur,rfl,di,hg,Nat.zero_le _,Yq,by simpa using BF,by simp⟩⟩
 obtain⟨w1,hr,iY,FN⟩:=run_append_fits (P:=Tryz.prog) w.drew lo 106 106 103 iI 1 underlying106 rE uZ g 0 c [] h0 (aj g 1) (n-1) (c-1) (xs.drop 1) (by rw[List.length_drop];omega) (fun j u hu=>by
  rw[dF _ _ rfl,List.getElem?_drop] at *;have:=h.cells (g:=g) rfl (1+j) u (by rw[Nat.add_comm];simpa[Nat.add_comm] using hu);rw[dF _ _ rfl] at this
  simpa using this) (fun u hu=>Kh u (List.mem_of_mem_drop hu)) (by omega)
 simp only[Nat.zero_add,List.nil_append] at hr iY;unfold maxLen at Yq;have Om:¬ c=1:=by omega
 have CK:(1:Int)≤(n:Int):=by omega
 obtain⟨ajH,_,ZO,ku,ajI,aep,_⟩:=oD iY;have hz:(Value.slice none 0 0).cells=#[.slice none 0 0]:=rfl;have dD:aZ w1 g 103 ZO.toList:=by unfold aZ;rw[Array.toArray_toList];exact ku
 have tZ:∀ ty,(Builtin.clear_ #[106] ty #[.slice (some ⟨g,n-1,none⟩) (n-(n-1)) (c-(n-1))]).run Tryz.prog w1=.ok (.tuple #[]) (w1.setCell ⟨g,n-1,none⟩ (.slice none 0 0)):=fun ty=>by
  rw[show n-(n-1)=1 by omega];exact Oj dD (by rw[Array.length_toList];omega) _ ty
 have Yt:Hid ((w1.setCell ⟨g,n-1,none⟩ (.slice none 0 0)).ownsRow lo 103 1 (.slice (some (aj g 0)) (n-1) c) (n-1) (xs.drop 1)):=by
  refine⟨iY.1,.inr ⟨g,c,ZO.setIfInBounds (n-1) (.slice none 0 0),rfl,di,heap_setCell_same w1 g (n-1) ZO _ _ ku,ajH,by unfold maxLen;omega,by simpa using ajI,?_⟩⟩;rw[Array.toList_setIfInBounds,Nat.mul_one,List.take_set_of_le (Nat.le_refl _)];exact aep
 have jk:aQ (fun k=>k=g) w.drew w1:=⟨FN.os,FN.tape,FN.output,FN.size,fun k hk hf=>FN.block k hk (fun e=>hf (Option.some.inj e))⟩
 have BE:aQ (fun k=>k=g) w (w1.setCell ⟨g,n-1,none⟩ (.slice none 0 0)):=((aQ.refl _ w).drew.same jk).setCell _ _ (fun _=>rfl);have U5:n-1≤c:=by omega
 have HR:=U hr;clear hr iY h h0 jt hg ku aep FN jk dD
 go_enter func72,ntmps72
 go_wp2_with fail
 go_region_law (refine lu rfl (.tmp 22) (.tmp 25) 106 rfl _ _ rfl rfl _ w1 HR.o ?_)
 all_goals
  go_wp2_with fail
  go_ret
  exact⟨rfl,Yt.o,BE⟩
end Go.Proofs.YtkpfplbmmglkkaaGreatDoor
