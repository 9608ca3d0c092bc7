/- Package ends: topics: topic, unfinished, pushAll, Finish. -/
import Derived.Test.YtolfcabodiphmaaGreatDoorV00
import Derived.Laws.OwnMore
import Derived.Deep.RegionLaw
import Derived.Lib.SliceRun
set_option linter.unusedSimpArgs false
set_option linter.unusedVariables false
namespace Go.Proofs.YtolfcabodiphmaaGreatDoor
open Go.RowKit Go.Conc
structure jv where
 blk:Nat
 name:ByteArray
 base:ByteArray
 count:Nat
 kept:Value
 kv:List Value
 fin:Bool
abbrev qY(t:jv):List Value:=[.string t.name,.string t.base,.int .u64 t.count,t.kept,.bool t.fin]
structure jT(w:World)(lo:Nat)(v:Value)(Ts:List jv):Prop where
 row:uV w lo 147 v (Ts.map (fun t=>t.blk))
 each:∀ t∈Ts,aK w t.blk 149 (qY t)
 nodup:(Ts.map (fun t=>t.blk)).Nodup
 kept:∀ t∈Ts,w.ownsRow lo 64 1 t.kept t.kv.length t.kv∧t.kv.length≤16∧∀ u∈t.kv,u.oneCell'=true
 apart:∀ (i j:Nat) (x y:jv),Ts[i]? = some x→Ts[j]? = some y→i≠j→∀ g,x.kept.ownBlock=some g→y.kept.ownBlock≠some g
theorem jT.below{w w':World}{lo:Nat}{v:Value}{Ts:List jv}(h:jT w lo v Ts)(hb:Below w.heap.size w w'):jT w' lo v Ts:=⟨h.row.below hb,fun t ht=>(h.each t ht).below hb,h.nodup,fun t ht=>⟨aC (h.kept t ht).1 (fun g hg=>hb.block g ((h.kept t ht).1.lt g hg).2),(h.kept t ht).2⟩,h.apart⟩
theorem aho:(147:TypeId) ≠ 149:=by decide
theorem ahp:(147:TypeId) ≠ 64:=by decide
theorem aK.dF{w:World}{b lo n size:Nat}{T e:TypeId}{xs ys:List Value}{v:Value}(h:aK w b T xs)(k:w.ownsRow lo e size v n ys)(hne:e≠T):v.ownBlock≠some b:=fun hv=>by
 obtain⟨cur,hc⟩:=mM k hv
 have h':w.heap[b]? = _:=h
 rw[hc] at h'
 simp only[Option.some.injEq,Obj.cells.injEq] at h'
 exact hne h'.2.1
def Oc(v:Value)(Ts:List jv)(k:Nat):Prop:=v.ownBlock=some k∨∃ t∈Ts,t.blk=k∨t.kept.ownBlock=some k
theorem jT.lt{w:World}{lo:Nat}{v:Value}{Ts:List jv}(h:jT w lo v Ts){k:Nat}(hk:Oc v Ts k):k<w.heap.size:=by
 rcases hk with hk | ⟨t,ht,rfl | hk⟩
 ·exact(World.ownsRow.lt h.row k hk).2
 ·exact(h.each t ht).lt
 ·exact((h.kept t ht).1.lt k hk).2
theorem jT.dB{F:Nat→Prop}{w w':World}{lo:Nat}{v:Value}{Ts:List jv}(h:jT w lo v Ts)(hc:aG F w w')(hF:∀ k,Oc v Ts k→¬ F k):jT w' lo v Ts :=
 ⟨hc.own h.row (fun g hg=>hF g (Or.inl hg)),fun t ht=>(h.each t ht).dB hc (hF _ (Or.inr ⟨t,ht,Or.inl rfl⟩)),h.nodup,fun t ht=>⟨hc.own (h.kept t ht).1 (fun g hg=>hF g (Or.inr ⟨t,ht,Or.inr hg⟩)),(h.kept t ht).2⟩,h.apart⟩
theorem fQ{P:Program}{ops:Array Oper}{o:Oper}{a:Act}{w:World}{K:Act→World→Prop}{Q:Exit→Act→World→Prop}{E:Prop}
  (hg:o.guard=none) (s x:Operand) (t:TypeId) (hop:o.op=Op.call { callee:=Callee.builtin Builtin.append,args:=#[s,x],argTypes:=#[t,t] }) (v1 v2:Value) (hs:a.eval s=v1) (hx:a.eval x=v2)
  (v:Value) (w':World) (hr:(Builtin.append_ #[t,t] o.type #[v1,v2]).run P w=.ok v w') (hK:K (a.put o.dst v) w') :
  if Region.wanted o (yielded ops a.tmps)=true then Oper.wp P o a w K Q else E:=by
 have hw:Region.wanted o (yielded ops a.tmps)=true:=by simp[Region.wanted,hg]
 rw[if_pos hw]
 unfold Oper.wp execOp
 simp only[hop,resolve,invoke,builtin,Sem.run_bind,Sem.run_pure,Result.andThen_ok,List.map_toArray,List.map_cons,List.map_nil,hs,hx,hr]
 exact hK
theorem jU(w:World)(ty t e:TypeId)(z:Value)(size bytes:Nat)(ht:Tryz.prog.underlying t=some (.slice e))(hi:(Tryz.prog.info? e).map (fun i=>(i.zero,i.size,i.bytes))=some (some z,size,bytes))
  (hzs:z.cells.size=size) (hsz:0<size) (v:Value) (n:Nat) (xs:List Value) (lo:Nat) (hP:w.ownsRow lo e size v n xs) (ad:Addr) (m c:Nat) (news:List Value)
  (hl:news.length=m*size) (hnews:∀ j u,news[j]? = some u→w.cell? (ad.add j)=some u) (h1:∀ u∈news,u.oneCell'=true) (hlen:n+m≤maxLen) (hbytes:(n+m)*bytes≤140737488355328) (hlo:lo≤w.heap.size) :
  ∃ a' c' w',(Builtin.append_ #[t,t] ty #[v,.slice (some ad) m c]).run Tryz.prog w=.ok (.slice a' (n+m) c') w'∧w'.ownsRow lo e size (.slice a' (n+m) c') (n+m) (xs++news)∧Grew w w' v (.slice a' (n+m) c'):=by
 obtain⟨iI,uS,hI0,hI1,hI2⟩:=info_parts hi
 obtain⟨v',w',hr,h2,h3,_,h5⟩:=run_append_own_at (P:=Tryz.prog) w lo t ty e iI z size bytes ht uS hI0 hI1 hI2 hzs hsz v n xs hP ad m c news hl hnews h1 hlen hbytes hlo
 obtain⟨a',c',hv'⟩:=ay h2
 subst hv'
 exact⟨a',c',w',hr,h2,h3,fun k hk=>by
  rcases h5 with h5 | h5
  ·exact Or.inl (h5 ▸ hk)
  ·rw[hk] at h5;cases h5;exact Or.inr (Nat.le_refl _)⟩
theorem Tryz.infoPay:(Tryz.prog.info? 124).map (fun i=>(i.zero,i.size,i.bytes))=some (some (.agg #[.int .u8 0,.int .u64 0,.int .u64 0,.int .u64 0,.int .u64 0,.string ⟨#[]⟩]),6,56):=by kernel_rfl
end Go.Proofs.YtolfcabodiphmaaGreatDoor
