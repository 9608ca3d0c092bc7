/- slices.Delete of the first question. -/
import Derived.Test.YtolfcabodiphmaaGreatDoorV30
import Derived.Test.YtolfcabodiphmaaGreatDoorV02
import Derived.Test.YtolfcabodiphmaaGreatDoorV00
set_option linter.unusedSimpArgs false
set_option linter.unusedVariables false
set_option maxHeartbeats 4000000
set_option maxRecDepth 100000
namespace Go.Proofs.YtolfcabodiphmaaGreatDoor
open Go.Proofs.Tryz
open Go.RowKit Go.Conc
theorem Wq{w:World}{lo g n c i:Nat}{xs:List Value}(h:w.ownsRow lo 139 6 (.slice (some ⟨g,0,none⟩) n c) n xs)(hi:i<n):∃ w',(∀ ty c',(Builtin.clear_ #[102] ty #[.slice (some ⟨g,i*6,none⟩) (n-i) c']).run Tryz.prog w=.ok (.tuple #[]) w')∧w'.ownsRow lo 139 6 (.slice (some ⟨g,0,none⟩) i c) i (xs.take (i*6))∧aG (fun k=>k=g) w w':=by
 obtain⟨h1,h2⟩:=h
 rcases h2 with⟨hv,_⟩ | ⟨g',cap,cur,hv,hl,hh,h3,h4,h5,h6⟩
 ·simp at hv
 ·obtain⟨rfl,rfl⟩:g=g'∧c=cap:=by simpa using hv
  obtain⟨m,hm⟩:∃ m,n-i=m+1:=⟨n-i-1,by omega⟩
  obtain⟨Z,hZ⟩:∃ Z,Z=(Builtin.zeroCells #[.string ⟨#[]⟩,.string ⟨#[]⟩,.int .u64 0,.int .u64 0,.int .u64 0,.string ⟨#[]⟩] (m+1)).toList:=⟨_,rfl⟩
  have hZl:Z.length=(m+1)*6:=by rw[hZ];simp[Builtin.zeroCells]
  have hlen:i*6+Z.length≤cur.size:=by rw[hZl,h5];omega
  have hst:=run_storeCells_cells (P:=Tryz.prog) g (i*6) Z 0 w (fun j hj=>by
   have:i*6+(0+j)<cur.size:=by omega
   simp[World.cell?,hh]
   omega) (fun j hj=>by simp[World.frozen?,hh]) (fun v hv=>by
   rw[hZ] at hv
   simp only[Builtin.zeroCells,Array.toList_map,List.mem_map] at hv
   obtain⟨q,_,rfl⟩:=hv
   have h6:q % 6<6:=Nat.mod_lt _ (by omega)
   show Value.oneCell' ((#[Value.string ⟨#[]⟩,.string ⟨#[]⟩,.int .u64 0,.int .u64 0,.int .u64 0,.string ⟨#[]⟩]:Array Value)[q % 6]!)=true
   generalize q % 6=r at h6
   match r,h6 with
   | 0,_=>rfl
   | 1,_=>rfl
   | 2,_=>rfl
   | 3,_=>rfl
   | 4,_=>rfl
   | 5,_=>rfl)
  simp only[Nat.add_zero] at hst
  obtain⟨cur',hc1,hc2⟩:=pR (b:=g) (T:=139) Z (i*6) w cur hh hlen
  obtain⟨r1,r2,r3,r4⟩:=ou (b:=g) Z (i*6) w
  refine⟨w.setCells g (i*6) Z,fun ty c'=>?_,⟨by rw[List.length_take,h1];omega,Or.inr ⟨g,c,cur',rfl,hl,hc1,by omega,h4,?_,?_⟩⟩,⟨r1,r2,r3,by rw[r4];exact Nat.le_refl _,fun k _ hk=>mV Z (i*6) w k hk⟩⟩
  ·rw[hm]
   simp[Builtin.clear_,run_underlying underlying102,Value.cells,← hZ,hst,Result.andThen]
  ·have:cur'.toList.length=cur.toList.length:=by rw[hc2];simp;omega
   simpa[h5] using this
  ·rw[hc2,← h6,List.take_take,List.append_assoc,List.take_append_of_le_length (by simp;omega),List.take_take]
   congr 1
   omega
theorem Dl{w:World}{lo g n c:Nat}{xs:List Value}(h:w.ownsRow lo 139 6 (.slice (some ⟨g,0,none⟩) (n-1) c) (n-1) xs)(h1:1≤n)(hc:n≤c):∃ w',(∀ ty c',(Builtin.clear_ #[102] ty #[.slice (some ⟨g,(n-1)*6,none⟩) (n-(n-1)) c']).run Tryz.prog w=.ok (.tuple #[]) w')∧w'.ownsRow lo 139 6 (.slice (some ⟨g,0,none⟩) (n-1) c) (n-1) xs∧aG (fun k=>k=g) w w':=by
 obtain⟨h2,h3⟩:=h
 rcases h3 with⟨hv,_⟩ | ⟨g',cap,cur,hv,hl,hh,h3,h4,h5,h6⟩
 ·simp at hv
 ·obtain⟨rfl,rfl⟩:g=g'∧c=cap:=by simpa using hv
  have hw:w.ownsRow lo 139 6 (.slice (some ⟨g,0,none⟩) n c) n (cur.toList.take (n*6)):=⟨by rw[List.length_take,Array.length_toList,h5];have:=Nat.mul_le_mul_right 6 hc;omega,Or.inr ⟨g,c,cur,rfl,hl,hh,hc,h4,h5,rfl⟩⟩
  obtain⟨w',r1,r2,r3⟩:=Wq hw (show n-1<n by omega)
  refine⟨w',r1,?_,r3⟩
  rw[List.take_take,show min ((n-1)*6) (n*6)=(n-1)*6 by omega,h6] at r2
  exact r2
theorem KE{w:World}{lo g n c:Nat}{xs:List Value}(h:w.ownsRow lo 139 6 (.slice (some ⟨g,0,none⟩) n c) n xs):n≤c∧c≤maxLen∧∃ cur,w.heap[g]? = some (.cells cur 139 (0,0))∧cur.size=c*6∧lo≤g:=by
 rcases h.2 with⟨hv,_⟩ | ⟨g',cap,cur,hv,hl,hh,h3,h4,h5,h6⟩
 ·simp at hv
 ·obtain⟨rfl,rfl⟩:g=g'∧c=cap:=by simpa using hv
  exact⟨h3,h4,cur,hh,h5,hl⟩
theorem Ws{l:List Lp}{u:Value}(h:u∈oV l):u.oneCell'=true:=by
 unfold oV at h
 obtain⟨x,_,hx⟩:=List.mem_flatMap.1 h
 simp[CW] at hx
 rcases hx with rfl | rfl | rfl | rfl | rfl | rfl<;>rfl
theorem acj(w:World)(lo g n c:Nat)(xs:List Value)(h:w.ownsRow lo 139 6 (.slice (some ⟨g,0,none⟩) n c) n xs)(h1:1≤n)(hone:∀ u∈xs,u.oneCell'=true)(hc1:¬ c=1):
  Calls Tryz.prog 64 #[.slice (some ⟨g,0,none⟩) n c,.int .i64 0,.int .i64 1] w (fun e w'=>e=.returned (.slice (some ⟨g,0,none⟩) (n-1) c)∧w'.ownsRow lo 139 6 (.slice (some ⟨g,0,none⟩) (n-1) c) (n-1) (xs.drop 6)∧aG (fun k=>k=g) w w'):=by
 obtain⟨hnc,hcm,cur,hg,hcs,hlo⟩:=KE h
 have hxl:xs.length=n*6:=h.1
 obtain⟨iI,uS,hI0,hI1,hI2⟩:=info_parts Tryz.infoQu
 have h0:w.drew.ownsRow lo 139 6 (.slice (some ⟨g,0,none⟩) 0 c) 0 []:=⟨rfl,.inr ⟨g,c,cur,rfl,hlo,hg,Nat.zero_le _,hcm,by simpa using hcs,by simp⟩⟩
 obtain⟨w1,hr,hown,hgr⟩:=run_append_fits (P:=Tryz.prog) w.drew lo 102 102 139 iI 6 underlying102 uS hI1 g 0 c [] h0 ⟨g,6,none⟩ (n-1) (c-1) (xs.drop 6) (by rw[List.length_drop];omega) (fun j u hu=>by
  rw[fE _ _ rfl,List.getElem?_drop] at *
  have:=h.cells (g:=g) rfl (6+j) u hu
  rw[fE _ _ rfl] at this
  simpa using this) (fun u hu=>hone u (List.mem_of_mem_drop hu)) (by omega)
 simp only[Nat.zero_add,List.nil_append] at hr hown
 obtain⟨w2,hcl,hown2,hc2⟩:=Dl hown h1 hnc
 have HCH:=hid ((show aG (fun k=>k=g) w w1 from(aG.refl _ w).drew.same ⟨hgr.os,hgr.tape,hgr.output,hgr.size,fun k hk hf=>hgr.block k hk (fun e=>hf (Option.some.inj e))⟩).same hc2)
 have Vu:=hid hown2
 unfold maxLen at hcm
 have hn1:(1:Int)≤(n:Int):=by omega
 have hn0:n-1≤c:=by omega
 have aoB:¬ c=n-1:=by omega
 have aoC:¬ n-1=c:=by omega
 have HR:=hid hr
 clear hr hown hown2 h h0 hg hgr hc2 hone
 go_enter func64,ntmps64
 go_wp2_with fail
 go_region_law (refine fQ rfl (.tmp 22) (.tmp 25) 102 rfl _ _ rfl rfl _ w1 HR.out ?_)
 all_goals
  go_wp2_with fail
  go_ret
  exact⟨rfl,Vu.out,HCH.out⟩
theorem acn(w:World)(lo g n c:Nat)(xs:List Value)(h:w.ownsRow lo 139 6 (.slice (some ⟨g,0,none⟩) n c) n xs)(h1:1≤n)(hone:∀ u∈xs,u.oneCell'=true)(hc1:c=1):
  Calls Tryz.prog 64 #[.slice (some ⟨g,0,none⟩) n c,.int .i64 0,.int .i64 1] w (fun e w'=>e=.returned (.slice (some ⟨g,0,none⟩) (n-1) c)∧w'.ownsRow lo 139 6 (.slice (some ⟨g,0,none⟩) (n-1) c) (n-1) (xs.drop 6)∧aG (fun k=>k=g) w w'):=by
 obtain⟨hnc,hcm,cur,hg,hcs,hlo⟩:=KE h
 have hxl:xs.length=n*6:=h.1
 obtain⟨iI,uS,hI0,hI1,hI2⟩:=info_parts Tryz.infoQu
 have h0:w.drew.ownsRow lo 139 6 (.slice (some ⟨g,0,none⟩) 0 c) 0 []:=⟨rfl,.inr ⟨g,c,cur,rfl,hlo,hg,Nat.zero_le _,hcm,by simpa using hcs,by simp⟩⟩
 obtain⟨w1,hr,hown,hgr⟩:=run_append_fits (P:=Tryz.prog) w.drew lo 102 102 139 iI 6 underlying102 uS hI1 g 0 c [] h0 ⟨g,0,none⟩ (n-1) 0 (xs.drop 6) (by rw[List.length_drop];omega) (fun j u hu=>by
  rw[List.drop_of_length_le (by omega)] at hu
  cases hu) (fun u hu=>hone u (List.mem_of_mem_drop hu)) (by omega)
 simp only[Nat.zero_add,List.nil_append] at hr hown
 obtain⟨w2,hcl,hown2,hc2⟩:=Dl hown h1 hnc
 have HCH:=hid ((show aG (fun k=>k=g) w w1 from(aG.refl _ w).drew.same ⟨hgr.os,hgr.tape,hgr.output,hgr.size,fun k hk hf=>hgr.block k hk (fun e=>hf (Option.some.inj e))⟩).same hc2)
 have Vu:=hid hown2
 unfold maxLen at hcm
 obtain rfl:n=1:=by omega
 subst hc1
 simp only[Nat.sub_self,Nat.zero_mul,Nat.sub_zero] at hcl hr Vu ⊢
 have HR:=hid hr
 clear hr hown hown2 h h0 hg hgr hc2 hone
 go_enter func64,ntmps64
 go_wp2_with fail
 go_region_law (refine fQ rfl (.tmp 22) (.tmp 25) 102 rfl _ _ rfl rfl _ w1 HR.out ?_)
 all_goals
  go_wp2_with fail
  go_ret
  exact⟨rfl,Vu.out,HCH.out⟩
theorem dV.resv{lo:Nat}{w w5 w6:World}{g g':SG}{p:SP}{b:Nat}(h:dV lo w g p w5 g')(hc:aG (fun k=>k=b) w5 w6)(hb:w.heap.size≤b)(hn:¬ Key g'.res b):dV lo w g p w6 g' :=
 ⟨⟨h.srv.has.keep hc (fun k hk e=>hn (e ▸ hk)),h.srv.rt,h.srv.tp,h.srv.ss,h.srv.rw⟩,h.st,⟨h.grow.c.trans hc (fun i hi e=>by have e:i=b:=e;omega),h.grow.k⟩,h.b,h.iv,h.cfg⟩
theorem Zd{lo:Nat}{w:World}{g:SG}(h:Srv lo w g)(hn:g.waits=[]):
  Calls Tryz.prog 44 #[.pointer (some ⟨g.b,0,none⟩)] w (fun e w'=>e=.returned (.tuple #[.agg #[.int .i64 0,.string ⟨#[]⟩,.string ⟨#[]⟩],.bool false])∧Below w.heap.size w w'):=by
 have hbw0:Below w.heap.size w (w.alloc (.cells #[.int .i64 0,.string ⟨#[]⟩,.string ⟨#[]⟩] 70)):=(Below.refl _ _).alloc (Nat.le_refl _) _
 have au:aK (w.alloc (.cells #[.int .i64 0,.string ⟨#[]⟩,.string ⟨#[]⟩] 70)) w.heap.size 70 [.int .i64 0,.string ⟨#[]⟩,.string ⟨#[]⟩]:=heap_alloc_new w _
 obtain⟨w0,dw⟩:∃ w0,w.alloc (.cells #[.int .i64 0,.string ⟨#[]⟩,.string ⟨#[]⟩] 70)=w0:=⟨_,rfl⟩
 rw[dw] at hbw0 au
 have e0:w0.cell? ⟨w.heap.size,0,none⟩=some (.int .i64 0):=au.cell 0
 have fe0:=au.frozen 0
 have e1:w0.cell? ⟨w.heap.size,1,none⟩=some (.string ⟨#[]⟩):=au.cell 1
 have fe1:=au.frozen 1
 have e2:w0.cell? ⟨w.heap.size,2,none⟩=some (.string ⟨#[]⟩):=au.cell 2
 have fe2:=au.frozen 2
 obtain⟨aa,ac,hav⟩:=h.rw.slice
 have d13:w0.cell? ⟨g.b,13,none⟩=some (.slice aa 0 ac):=(show w0.cell? ⟨g.b,13,none⟩=some g.wv from(h.below hbw0).blk.cell 13).trans (by rw[hav,hn];rfl)
 have HL:=hid (oq _ _ _ _ _ (show aK (((w0.setCell ⟨w.heap.size,0,none⟩ (.int .i64 0)).setCell ⟨w.heap.size,1,none⟩ (.string ⟨#[]⟩)).setCell ⟨w.heap.size,2,none⟩ (.string ⟨#[]⟩)) w.heap.size 70 [.int .i64 0,.string ⟨#[]⟩,.string ⟨#[]⟩] from((au.set 0 _).set 1 _).set 2 _))
 have HB:=hid (((hbw0.setCell (p:=⟨w.heap.size,0,none⟩) (Nat.le_refl _) (.int .i64 0)).setCell (p:=⟨w.heap.size,1,none⟩) (Nat.le_refl _) (.string ⟨#[]⟩)).setCell (p:=⟨w.heap.size,2,none⟩) (Nat.le_refl _) (.string ⟨#[]⟩))
 clear h hav hn hbw0 au
 go_enter func44,ntmps44
 go_wp2_with fail
 (try simp only[Exit.inBlock,Exit.then])
 refine⟨rfl,.tuple #[.agg #[.int .i64 0,.string ⟨#[]⟩,.string ⟨#[]⟩],.bool false],?_,rfl,HB.out⟩
 rw[results_cell_tmp rfl]
 have:=HL.out
 simp[asAddr,this]
theorem Wu{lo:Nat}{w:World}{g:SG}{x:Lp}{r:List Lp}(h:Srv lo w g)(hlo:lo≤w.heap.size)(hS:YU g.st)(hn:g.waits=x::r):
  Calls Tryz.prog 44 #[.pointer (some ⟨g.b,0,none⟩)] w (fun e w'=>e=.returned (.tuple #[.agg #[.int .i64 g.given,.string x.name,.string x.value],.bool true])∧∃ g',dV lo w g g.st.next w' g'):=by
 have hbw0:Below w.heap.size w (w.alloc (.cells #[.int .i64 0,.string ⟨#[]⟩,.string ⟨#[]⟩] 70)):=(Below.refl _ _).alloc (Nat.le_refl _) _
 have au:aK (w.alloc (.cells #[.int .i64 0,.string ⟨#[]⟩,.string ⟨#[]⟩] 70)) w.heap.size 70 [.int .i64 0,.string ⟨#[]⟩,.string ⟨#[]⟩]:=heap_alloc_new w _
 obtain⟨w0,dw⟩:∃ w0,w.alloc (.cells #[.int .i64 0,.string ⟨#[]⟩,.string ⟨#[]⟩] 70)=w0:=⟨_,rfl⟩
 rw[dw] at hbw0 au
 have e0:w0.cell? ⟨w.heap.size,0,none⟩=some (.int .i64 0):=au.cell 0
 have fe0:=au.frozen 0
 have e1:w0.cell? ⟨w.heap.size,1,none⟩=some (.string ⟨#[]⟩):=au.cell 1
 have fe1:=au.frozen 1
 have e2:w0.cell? ⟨w.heap.size,2,none⟩=some (.string ⟨#[]⟩):=au.cell 2
 have fe2:=au.frozen 2
 obtain⟨aa,ac,hav⟩:=h.rw.slice
 have hl:g.waits.length=r.length+1:=by rw[hn];rfl
 have h0:=h.below hbw0
 obtain⟨ga,rfl⟩:∃ ga,aa=some ⟨ga,0,none⟩:=by
  rcases h.rw with⟨_,e,_⟩ | ⟨ga,cap,e⟩
  ·rw[hl] at e;cases e
  ·rw[hav] at e
   exact⟨ga,(Value.slice.inj e).1⟩
 have hown:=h0.sF
 have hcell:∀ j v,(CW x)[j]? = some v→w0.cell? ⟨ga,j,none⟩=some v:=fun j v hj=>by
  have hj6:j<6:=by
   rcases Nat.lt_or_ge j 6 with h | h
   ·exact h
   ·rw[List.getElem?_eq_none (by simp;omega)] at hj;cases hj
  have:=hown.cells (g:=ga) (by rw[hav];rfl) j v (by rw[hn];show (CW x++oV r)[j]? = some v;rw[List.getElem?_append_left (by simp;omega)];exact hj)
  rw[fE _ _ rfl] at this
  simpa using this
 have d13:w0.cell? ⟨g.b,13,none⟩=some (.slice (some ⟨ga,0,none⟩) (r.length+1) ac):=(show w0.cell? ⟨g.b,13,none⟩=some g.wv from h0.blk.cell 13).trans (by rw[hav,hl])
 have c0:w0.cell? ⟨ga,0,none⟩=some (.string x.name):=hcell 0 _ rfl
 have c1:w0.cell? ⟨ga,1,none⟩=some (.string x.value):=hcell 1 _ rfl
 have c2:w0.cell? ⟨ga,2,none⟩=some (.int .u64 x.back.token):=hcell 2 _ rfl
 have c3:w0.cell? ⟨ga,3,none⟩=some (.int .u64 x.back.session):=hcell 3 _ rfl
 have c4:w0.cell? ⟨ga,4,none⟩=some (.int .u64 x.back.request):=hcell 4 _ rfl
 have c5:w0.cell? ⟨ga,5,none⟩=some (.string x.back.answer):=hcell 5 _ rfl
 have hbe:(((r.length:Int)+1)==0)=false:=by simp;omega
 have zW:Below w0.heap.size w0 (w0.alloc (.cells #[.string x.name,.string x.value,.int .u64 x.back.token,.int .u64 x.back.session,.int .u64 x.back.request,.string x.back.answer] 139)):=(Below.refl _ _).alloc (Nat.le_refl _) _
 have kE:aK (w0.alloc (.cells #[.string x.name,.string x.value,.int .u64 x.back.token,.int .u64 x.back.session,.int .u64 x.back.request,.string x.back.answer] 139)) w0.heap.size 139 [.string x.name,.string x.value,.int .u64 x.back.token,.int .u64 x.back.session,.int .u64 x.back.request,.string x.back.answer]:=heap_alloc_new w0 _
 obtain⟨wq,Si⟩:∃ wq,w0.alloc (.cells #[.string x.name,.string x.value,.int .u64 x.back.token,.int .u64 x.back.session,.int .u64 x.back.request,.string x.back.answer] 139)=wq:=⟨_,rfl⟩
 rw[Si] at zW kE
 have q0:wq.cell? ⟨w0.heap.size,0,none⟩=some (.string x.name):=kE.cell 0
 have fq0:=kE.frozen 0
 have q1:wq.cell? ⟨w0.heap.size,1,none⟩=some (.string x.value):=kE.cell 1
 have fq1:=kE.frozen 1
 have q2:wq.cell? ⟨w0.heap.size,2,none⟩=some (.int .u64 x.back.token):=kE.cell 2
 have fq2:=kE.frozen 2
 have q3:wq.cell? ⟨w0.heap.size,3,none⟩=some (.int .u64 x.back.session):=kE.cell 3
 have fq3:=kE.frozen 3
 have q4:wq.cell? ⟨w0.heap.size,4,none⟩=some (.int .u64 x.back.request):=kE.cell 4
 have fq4:=kE.frozen 4
 have q5:wq.cell? ⟨w0.heap.size,5,none⟩=some (.string x.back.answer):=kE.cell 5
 have fq5:=kE.frozen 5
 have hbQ:=hbw0.trans (zW.mono hbw0.size)
 have hQ:=h.below hbQ
 have q13:wq.cell? ⟨g.b,13,none⟩=some (.slice (some ⟨ga,0,none⟩) (r.length+1) ac):=(show wq.cell? ⟨g.b,13,none⟩=some g.wv from hQ.blk.cell 13).trans (by rw[hav,hl])
 have Wv:wq.ownsRow lo 139 6 (.slice (some ⟨ga,0,none⟩) (r.length+1) ac) (r.length+1) (oV g.waits):=by
  have:=hQ.sF
  rw[hav,hl] at this
  exact this
 have ajs:=hid (show Calls Tryz.prog 64 #[.slice (some ⟨ga,0,none⟩) (r.length+1) ac,.int .i64 0,.int .i64 1] wq (fun e w'=>e=.returned (.slice (some ⟨ga,0,none⟩) r.length ac)∧w'.ownsRow lo 139 6 (.slice (some ⟨ga,0,none⟩) r.length ac) r.length (oV r)∧aG (fun k=>k=ga) wq w') by
  have hd:(oV g.waits).drop 6=oV r:=by rw[hn];rfl
  by_cases hc:ac=1
  ·have:=acn wq lo ga (r.length+1) ac (oV g.waits) Wv (by omega) (fun u hu=>Ws hu) hc
   rw[hd] at this
   exact this
  ·have:=acj wq lo ga (r.length+1) ac (oV g.waits) Wv (by omega) (fun u hu=>Ws hu) hc
   rw[hd] at this
   exact this)
 have Ze:g.wv.ownBlock=some ga:=by rw[hav];rfl
 have hgw:ga≠g.b:=fun e=>hQ.blk.dF hQ.sF (by decide) (by rw[Ze,e])
 have hga:ga<w.heap.size:=(h.sF.lt ga Ze).2
 have hzq:=kE.lt
 have hz0:=au.lt
 have aoD:=h.blk.lt
 have HMO:=hid h.tY.lt
 have hgv:=hS.nn.2.1
 have hgv:g.given≤1000000000000:=hgv
 have HOW:=hid (show ∀ e∈g.owed,e.1≠g.given from fun e he hh=>by have h1:e.1<g.given:=hS.ow.2 e he;omega)
 have HNX:=hid (show g.st.next = { g.st with waits:=r,given:=g.given+1,owed:=g.owed++[(g.given,x.back)] } by unfold SP.next;rw[show g.st.waits=x::r from hn];rfl)
 have afK:=hid (au.below zW)
 have Aj:=hid (show ¬ Key g.res w.heap.size from h.lM)
 have HQb:=hid kE
 have HbQ:=hid hbQ
 have HQ:=hid hQ
 have HGO:=hid Ze
 have aoG:=hbw0.size
 clear h h0 hav hn hl hbw0 au hcell hown zW kE hbQ hQ Wv Ze hS
 go_enter func44,ntmps44
 go_wp2_with fail
 refine ajs.out.mono ?_;rintro e w2 ⟨rfl,hown2,hc2⟩
 have hB2:=HQ.out.blk.dB hc2 (fun e=>hgw (Eq.symm e))
 have hR2:=afK.out.dB hc2 (fun e=>by have e:w.heap.size=ga:=e;omega)
 have hQ2:=HQb.out.dB hc2 (fun e=>by have e:w0.heap.size=ga:=e;omega)
 have k13:w2.cell? ⟨g.b,13,none⟩=some (.slice (some ⟨ga,0,none⟩) (r.length+1) ac):=hc2.cell (p:=⟨g.b,13,none⟩) HQ.out.blk.lt (fun e=>hgw (Eq.symm e)) |>.trans q13
 have l13:=hB2.frozen 13
 have hB3:aK (w2.setCell ⟨g.b,13,none⟩ (.slice (some ⟨ga,0,none⟩) r.length ac)) g.b 105 ({ g with wv:=.slice (some ⟨ga,0,none⟩) r.length ac,waits:=r }:SG).cells:=hB2.set 13 _
 have hc3:aG (fun k=>k=g.b) w2 (w2.setCell ⟨g.b,13,none⟩ (.slice (some ⟨ga,0,none⟩) r.length ac)):=(aG.refl _ _).setCell _ _ (fun _=>rfl)
 have hR3:=hR2.dB hc3 (fun e=>by have e:w.heap.size=g.b:=e;omega)
 have hQ3:=hQ2.dB hc3 (fun e=>by have e:w0.heap.size=g.b:=e;omega)
 have ho3:=hc3.own hown2 (fun k hk e=>by cases hk;exact hgw e)
 obtain⟨w3,hw3⟩:∃ w3,w2.setCell ⟨g.b,13,none⟩ (.slice (some ⟨ga,0,none⟩) r.length ac)=w3:=⟨_,rfl⟩
 rw[hw3] at hB3 hc3 hR3 hQ3 ho3
 have k14:w3.cell? ⟨g.b,14,none⟩=some (.int .i64 g.given):=hB3.cell 14
 have l14:=hB3.frozen 14
 have hB4:aK (w3.setCell ⟨g.b,14,none⟩ (.int .i64 ((g.given:Int)+1))) g.b 105 ({ g with wv:=.slice (some ⟨ga,0,none⟩) r.length ac,waits:=r,given:=g.given+1 }:SG).cells:=hB3.set 14 _
 have hc4:aG (fun k=>k=g.b) w3 (w3.setCell ⟨g.b,14,none⟩ (.int .i64 ((g.given:Int)+1))):=(aG.refl _ _).setCell _ _ (fun _=>rfl)
 have hR4:=hR3.dB hc4 (fun e=>by have e:w.heap.size=g.b:=e;omega)
 have Zf:=hQ3.dB hc4 (fun e=>by have e:w0.heap.size=g.b:=e;omega)
 have Tq:=hc4.own ho3 (fun k hk e=>by cases hk;exact hgw e)
 have DR:=HQ.out.aaI (OW:=g.given+1) (wv':=.slice (some ⟨ga,0,none⟩) r.length ac) (q':=r) (((hc2.mono (G:=fun k=>k=g.b∨g.wv.ownBlock=some k) (fun k _ e=>Or.inr (by rw[HGO.out,e]))).same (hc3.mono (fun k _ e=>Or.inl e))).same (hc4.mono (fun k _ e=>Or.inl e))) hB4 Tq (fun k hk=>Or.inl (HGO.out.trans hk))
 obtain⟨w4,hw4⟩:∃ w4,w3.setCell ⟨g.b,14,none⟩ (.int .i64 ((g.given:Int)+1))=w4:=⟨_,rfl⟩
 rw[hw4] at DR hR4 Zf
 have k15:w4.cell? ⟨g.b,15,none⟩=some (.map (some g.mo)):=DR.srv.blk.cell 15
 have u0:w4.cell? ⟨w0.heap.size,0,none⟩=some (.string x.name):=Zf.cell 0
 have u1:w4.cell? ⟨w0.heap.size,1,none⟩=some (.string x.value):=Zf.cell 1
 have u2:w4.cell? ⟨w0.heap.size,2,none⟩=some (.int .u64 x.back.token):=Zf.cell 2
 have u3:w4.cell? ⟨w0.heap.size,3,none⟩=some (.int .u64 x.back.session):=Zf.cell 3
 have u4:w4.cell? ⟨w0.heap.size,4,none⟩=some (.int .u64 x.back.request):=Zf.cell 4
 have u5:w4.cell? ⟨w0.heap.size,5,none⟩=some (.string x.back.answer):=Zf.cell 5
 obtain⟨w5,hup,hm5,hc5⟩:=Ku (w:=w4.drew) DR.srv.tY x.back HOW.out
 have hmq:g.mo<w.heap.size:=HMO.out
 have Xy:=(DR.below (Below.refl _ w4).drew).trans ((DR.srv.drew).aaH hm5 hc5)
 have IL:=aK.dB (w:=w4.drew) hR4 hc5 (fun e=>by have e:w.heap.size=g.mo:=e;omega)
 have hQ5:=aK.dB (w:=w4.drew) Zf hc5 (fun e=>by have e:w0.heap.size=g.mo:=e;omega)
 have s0:w5.cell? ⟨w0.heap.size,0,none⟩=some (.string x.name):=hQ5.cell 0
 have s1:w5.cell? ⟨w0.heap.size,1,none⟩=some (.string x.value):=hQ5.cell 1
 have OY:=hid Xy
 have MN:=hid IL
 clear hown2 hc2 hB2 hR2 hQ2 hB3 hc3 hR3 hQ3 ho3 hB4 hc4 hR4 Zf Tq DR hm5 hc5 Xy IL hQ5
 have r0:w5.cell? ⟨w.heap.size,0,none⟩=some (.int .i64 0):=MN.out.cell 0
 have r1:w5.cell? ⟨w.heap.size,1,none⟩=some (.string ⟨#[]⟩):=MN.out.cell 1
 have r2:w5.cell? ⟨w.heap.size,2,none⟩=some (.string ⟨#[]⟩):=MN.out.cell 2
 have v0:=MN.out.frozen 0
 have v1:=MN.out.frozen 1
 have v2:=MN.out.frozen 2
 have MW:=hid (oq _ _ _ _ _ (show aK (((w5.setCell ⟨w.heap.size,0,none⟩ (.int .i64 g.given)).setCell ⟨w.heap.size,1,none⟩ (.string x.name)).setCell ⟨w.heap.size,2,none⟩ (.string x.value)) w.heap.size 70 [.int .i64 g.given,.string x.name,.string x.value] from((MN.out.set 0 _).set 1 _).set 2 _))
 have Ro:=hid (show aG (fun k=>k=w.heap.size) w5 (((w5.setCell ⟨w.heap.size,0,none⟩ (.int .i64 g.given)).setCell ⟨w.heap.size,1,none⟩ (.string x.name)).setCell ⟨w.heap.size,2,none⟩ (.string x.value)) from(((aG.refl (fun k=>k=w.heap.size) w5).setCell ⟨w.heap.size,0,none⟩ _ (fun _=>rfl)).setCell ⟨w.heap.size,1,none⟩ _ (fun _=>rfl)).setCell ⟨w.heap.size,2,none⟩ _ (fun _=>rfl))
 have ajw:=hid (OY.out.blk afK.out Aj.out).2
 go_wp2_with fail
 go_region
 all_goals
  go_wp2_with fail
  (try simp only[Exit.inBlock,Exit.then])
  refine⟨rfl,.tuple #[.agg #[.int .i64 g.given,.string x.name,.string x.value],.bool true],?_,rfl,_,by rw[HNX.out];exact(OY.out.before HbQ.out).resv Ro.out (Nat.le_refl _) ajw.out⟩
  rw[results_cell_tmp rfl]
  have:=MW.out
  simp[asAddr,this]
end Go.Proofs.YtolfcabodiphmaaGreatDoor
