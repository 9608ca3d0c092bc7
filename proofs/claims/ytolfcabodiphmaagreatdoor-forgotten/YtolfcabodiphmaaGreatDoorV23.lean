/- Package ends: the server's own words: payload, heard of a session; payload of a feed; first of a topic. -/
import Derived.Test.YtolfcabodiphmaaGreatDoorV21
import Derived.Test.YtolfcabodiphmaaGreatDoorV01
import Derived.Test.YtolfcabodiphmaaGreatDoorV22
import Derived.Deep.RegionHeld3
import Derived.Deep.DeepCutAuto
import Derived.LaidEqlPtr
import Derived.Laws.IdiomRangeMap
set_option linter.unusedSimpArgs false
set_option linter.unusedVariables false
set_option maxHeartbeats 4000000
set_option maxRecDepth 100000
namespace Go.Proofs.YtolfcabodiphmaaGreatDoor
open Go.Proofs.Tryz
open Go.RowKit Go.Conc
theorem yS{w:World}{s:gy}(h:aK w s.blk 132 (fJ s))(kind number:Nat):
  Calls Tryz.prog 90 #[.pointer (some ⟨s.blk,0,none⟩),.int .u8 kind,.int .u64 number] w (fun e w'=>e=.returned (.agg #[.int .u8 kind,.int .u64 s.token,.int .u64 s.number,.int .u64 number,.int .u64 0,.string ⟨#[]⟩])∧Below w.heap.size w w'):=by
 have hbw0:Below w.heap.size w (w.alloc (.cells #[.int .u8 0,.int .u64 0,.int .u64 0,.int .u64 0,.int .u64 0,.string ⟨#[]⟩] 124)):=(Below.refl _ _).alloc (Nat.le_refl _) _
 have au:aK (w.alloc (.cells #[.int .u8 0,.int .u64 0,.int .u64 0,.int .u64 0,.int .u64 0,.string ⟨#[]⟩] 124)) w.heap.size 124 [.int .u8 0,.int .u64 0,.int .u64 0,.int .u64 0,.int .u64 0,.string ⟨#[]⟩]:=heap_alloc_new w _
 obtain⟨w0,dw⟩:∃ w0,w.alloc (.cells #[.int .u8 0,.int .u64 0,.int .u64 0,.int .u64 0,.int .u64 0,.string ⟨#[]⟩] 124)=w0:=⟨_,rfl⟩
 rw[dw] at hbw0 au
 have e0:w0.cell? ⟨w.heap.size,0,none⟩=some (.int .u8 0):=au.cell 0
 have fe0:=au.frozen 0
 have e1:w0.cell? ⟨w.heap.size,1,none⟩=some (.int .u64 0):=au.cell 1
 have fe1:=au.frozen 1
 have e2:w0.cell? ⟨w.heap.size,2,none⟩=some (.int .u64 0):=au.cell 2
 have fe2:=au.frozen 2
 have e3:w0.cell? ⟨w.heap.size,3,none⟩=some (.int .u64 0):=au.cell 3
 have fe3:=au.frozen 3
 have e4:w0.cell? ⟨w.heap.size,4,none⟩=some (.int .u64 0):=au.cell 4
 have fe4:=au.frozen 4
 have e5:w0.cell? ⟨w.heap.size,5,none⟩=some (.string ⟨#[]⟩):=au.cell 5
 have fe5:=au.frozen 5
 have hL:=h.below hbw0
 have d0:w0.cell? ⟨s.blk,0,none⟩=some (.int .u64 s.token):=hL.cell 0
 have d2:w0.cell? ⟨s.blk,2,none⟩=some (.int .u64 s.number):=hL.cell 2
 have MW:=hid (qX _ _ _ _ _ _ _ _ (aK.drew (Ak au (.int .u8 kind) (.int .u64 s.token) (.int .u64 s.number) (.int .u64 number) (.int .u64 0) (.string ⟨#[]⟩))))
 have Ro:=hid (tN hbw0 (Nat.le_refl _) (.int .u8 kind) (.int .u64 s.token) (.int .u64 s.number) (.int .u64 number) (.int .u64 0) (.string ⟨#[]⟩)).drew
 clear h hL au hbw0
 go_enter func90,ntmps90
 go_wp2_with fail
 go_big_region
 all_goals
  go_wp2_with fail
  (try simp only[Exit.inBlock,Exit.then])
  refine⟨rfl,.agg #[.int .u8 kind,.int .u64 s.token,.int .u64 s.number,.int .u64 number,.int .u64 0,.string ⟨#[]⟩],?_,rfl,Ro.out⟩
  have:=MW.out
  simp[results,Tryz.results90,asAddr,this]
theorem Hy{w:World}{s:gy}(h:aK w s.blk 132 (fJ s)):
  Calls Tryz.prog 81 #[.pointer (some ⟨s.blk,0,none⟩)] w (fun e w'=>e=.returned (.agg #[.int .u8 7,.int .u64 s.token,.int .u64 s.number,.int .u64 s.next,.int .u64 0,.string ⟨#[]⟩])∧Below w.heap.size w w'):=by
 have hbw0:Below w.heap.size w (w.alloc (.cells #[.int .u8 0,.int .u64 0,.int .u64 0,.int .u64 0,.int .u64 0,.string ⟨#[]⟩] 124)):=(Below.refl _ _).alloc (Nat.le_refl _) _
 have au:aK (w.alloc (.cells #[.int .u8 0,.int .u64 0,.int .u64 0,.int .u64 0,.int .u64 0,.string ⟨#[]⟩] 124)) w.heap.size 124 [.int .u8 0,.int .u64 0,.int .u64 0,.int .u64 0,.int .u64 0,.string ⟨#[]⟩]:=heap_alloc_new w _
 obtain⟨w0,dw⟩:∃ w0,w.alloc (.cells #[.int .u8 0,.int .u64 0,.int .u64 0,.int .u64 0,.int .u64 0,.string ⟨#[]⟩] 124)=w0:=⟨_,rfl⟩
 rw[dw] at hbw0 au
 have e0:w0.cell? ⟨w.heap.size,0,none⟩=some (.int .u8 0):=au.cell 0
 have fe0:=au.frozen 0
 have e1:w0.cell? ⟨w.heap.size,1,none⟩=some (.int .u64 0):=au.cell 1
 have fe1:=au.frozen 1
 have e2:w0.cell? ⟨w.heap.size,2,none⟩=some (.int .u64 0):=au.cell 2
 have fe2:=au.frozen 2
 have e3:w0.cell? ⟨w.heap.size,3,none⟩=some (.int .u64 0):=au.cell 3
 have fe3:=au.frozen 3
 have e4:w0.cell? ⟨w.heap.size,4,none⟩=some (.int .u64 0):=au.cell 4
 have fe4:=au.frozen 4
 have e5:w0.cell? ⟨w.heap.size,5,none⟩=some (.string ⟨#[]⟩):=au.cell 5
 have fe5:=au.frozen 5
 have hL:=h.below hbw0
 have d4:w0.cell? ⟨s.blk,4,none⟩=some (.int .u64 s.next):=hL.cell 4
 have HB0:=hid au
 have Hb0:=hid hbw0
 have HL:=hid hL
 clear h hL au hbw0
 go_enter func81,ntmps81
 go_wp2_with fail
 refine(yS HL.out 7 s.next).mono ?_;rintro e w1 ⟨rfl,hb1⟩
 have hB1:=HB0.out.below hb1
 have r0:w1.cell? ⟨w.heap.size,0,none⟩=some (.int .u8 0):=hB1.cell 0
 have g0:=hB1.frozen 0
 have r1:w1.cell? ⟨w.heap.size,1,none⟩=some (.int .u64 0):=hB1.cell 1
 have g1:=hB1.frozen 1
 have r2:w1.cell? ⟨w.heap.size,2,none⟩=some (.int .u64 0):=hB1.cell 2
 have g2:=hB1.frozen 2
 have r3:w1.cell? ⟨w.heap.size,3,none⟩=some (.int .u64 0):=hB1.cell 3
 have g3:=hB1.frozen 3
 have r4:w1.cell? ⟨w.heap.size,4,none⟩=some (.int .u64 0):=hB1.cell 4
 have g4:=hB1.frozen 4
 have r5:w1.cell? ⟨w.heap.size,5,none⟩=some (.string ⟨#[]⟩):=hB1.cell 5
 have g5:=hB1.frozen 5
 have MW:=hid (qX _ _ _ _ _ _ _ _ (Ak hB1 (.int .u8 7) (.int .u64 s.token) (.int .u64 s.number) (.int .u64 s.next) (.int .u64 0) (.string ⟨#[]⟩)))
 have Ro:=hid (tN (Hb0.out.trans (hb1.mono Hb0.out.size)) (Nat.le_refl _) (.int .u8 7) (.int .u64 s.token) (.int .u64 s.number) (.int .u64 s.next) (.int .u64 0) (.string ⟨#[]⟩))
 clear hB1 hb1
 go_wp2_with fail
 (try simp only[Exit.inBlock,Exit.then])
 refine⟨rfl,.agg #[.int .u8 7,.int .u64 s.token,.int .u64 s.number,.int .u64 s.next,.int .u64 0,.string ⟨#[]⟩],?_,rfl,Ro.out⟩
 have:=MW.out
 simp[results,Tryz.results81,asAddr,this]
theorem yO.ru{lo:Nat}{w:World}{m:yO}(h:Has lo w m.res):aK w m.blk 149 (xI m):=h.blk (List.mem_append_left _ (List.mem_singleton.2 rfl))
theorem yO.row{lo:Nat}{w:World}{m:yO}(h:Has lo w m.res)(ho:m.Ok):w.ownsRow lo 64 1 m.kv m.ks.length (m.ks.map (fun k=>k.v)):=h.own ho.rk (fun _ hp=>List.mem_append_right _ (List.mem_append_left _ hp))
theorem yO.cellAt{lo:Nat}{w:World}{m:yO}(h:Has lo w m.res)(ho:m.Ok){j:Nat}{k:KbM}(hj:m.ks[j]? = some k):∃ ga c,m.kv=.slice (some ⟨ga,0,none⟩) m.ks.length c∧ga<w.heap.size∧w.cell? ⟨ga,j,none⟩=some k.v:=by
 have hr:=yO.row h ho
 have hl:j<m.ks.length:=(List.getElem?_eq_some_iff.1 hj).1
 rcases hr.2 with⟨_,e⟩ | ⟨ga,c,cur,hv,r⟩
 ·omega
 ·refine⟨ga,c,hv,(hr.lt ga (by rw[hv];rfl)).2,?_⟩
  have:=hr.cells (g:=ga) (by rw[hv];rfl) j k.v (by rw[List.getElem?_map,hj];rfl)
  rw[fE _ _ rfl] at this
  simpa using this
theorem Has.left{lo:Nat}{w:World}{A B G:List fM}(h:Has lo w G)(hp:G.Perm (A++B)):Has lo w A:=(aA.1 (h.perm hp)).1
theorem SG.AY{g:SG}{s:gy}(hs:g.aT=some s):g.res.Perm (s.res g.oG++(g.aU++(g.aQ++(g.rowT++(g.qL++(g.lH++(g.oW++g.qM))))))):=aY (fun p=>by
 have e:g.nJ=s.res g.oG:=by unfold SG.nJ;rw[hs];simp
 unfold SG.res SG.rest
 rw[e]
 simp only[aH]
 omega)
theorem Srv.oH{lo:Nat}{w:World}{g:SG}{s:gy}(h:Srv lo w g)(hs:g.aT=some s):Has lo w (s.res g.oG):=h.has.left (SG.AY hs)
theorem Srv.yT{lo:Nat}{w:World}{g:SG}{s:gy}(h:Srv lo w g)(hs:g.aT=some s):s.Ok:=h.ss s (by rw[hs];simp)
theorem Srv.jm{lo:Nat}{w:World}{g:SG}{s:gy}(h:Srv lo w g)(hs:g.aT=some s):aK w s.blk 132 (fJ s):=(h.oH hs).blk (List.mem_append_left _ (List.mem_singleton.2 rfl))
theorem Srv.lK{lo:Nat}{w w':World}{g:SG}{s s':gy}(h:Srv lo w g)(hs:g.aT=some s)(hh:Has lo w' (s'.res g.oG))(hg:Grow w (s.res g.oG) w' (s'.res g.oG))(hb:s'.blk=s.blk)(ht:s'.token=s.token)(ok:s'.Ok):dV lo w g { g.st with aT:=some s'.o } w' { g with aT:=some s' }:=by
 have e1:({ g with aT:=some s' }:SG).aU=g.aU:=by
  have:({ g with aT:=some s' }:SG).cells=g.cells:=by
   have e:({ g with aT:=some s' }:SG).jB=g.jB:=by
    unfold SG.jB
    rw[hs]
    cases g.cur
    ·rfl
    ·show aJ s'.blk=aJ s.blk
     rw[hb]
   show uw g.iv _ _ _ g.last g.had g.up g.q g.m [g.tv,.map (some g.ms),({ g with aT:=some s' }:SG).jB,_,g.wv,_,_]=_
   rw[e]
  show [iO g.b _ ({ g with aT:=some s' }:SG).cells]=_
  rw[this]
  rfl
 have e2:({ g with aT:=some s' }:SG).lH=g.lH:=by
  unfold SG.lH
  rw[hs]
  show [iH g.ms [(s'.token,s'.blk)]]=[iH g.ms [(s.token,s.blk)]]
  rw[hb,ht]
 have p2:(s'.res g.oG++(g.aU++(g.aQ++(g.rowT++(g.qL++(g.lH++(g.oW++g.qM))))))).Perm ({ g with aT:=some s' }:SG).res:=by
  have:=(SG.AY (g:={ g with aT:=some s' }) (s:=s') rfl).symm
  rw[e1,e2] at this
  exact this
 exact⟨⟨((h.has.perm (SG.AY hs)).swap hh hg).perm p2,h.rt,h.tp,fun x hx=>by
  have:x=s':=by simpa using hx
  rw[this];exact ok,h.rw⟩,rfl,hg.swap.perm (SG.AY hs).symm p2,rfl,rfl,rfl,rfl,rfl⟩
theorem SG.oAt{g:SG}{s:gy}(hs:g.aT=some s):g.st.aT=some s.o:=by unfold SG.st;rw[hs];rfl
structure SSp(p:SP):Prop where
 ln:∀ o,p.aT=some o→o.feeds.length≤0∧o.answers.length≤1000000
structure YU(p:SP):Prop extends SSp p where
 sl:∀ o,p.aT=some o→o.silence≤1000000000000∧o.next≤1000000000000
 nn:p.begun≤1000000000000∧p.given≤1000000000000∧p.waits.length≤1000000
 ow:(p.owed.map (fun x=>x.1)).Nodup∧∀ x∈p.owed,x.1<p.given
theorem SSp.of0{p:SP}(_:∀ t∈p.aX,t.kept.length≤t.count∧t.count≤1000000000000)(nf:∀ o,p.aT=some o→o.feeds=[])(la:∀ o,p.aT=some o→o.answers.length≤1000000):SSp p:=⟨fun o ho=>⟨by rw[nf o ho];simp,la o ho⟩⟩
theorem SSp.mono{p p':SP}(h:SSp p)(_:p'.aX=p.aX)(hs:∀ o',p'.aT=some o'→∃ o,p.aT=some o∧o'.feeds=o.feeds∧o'.answers=o.answers):SSp p':=⟨fun o' ho'=>by
 obtain⟨o,ho,h1,h2⟩:=hs o' ho'
 rw[h1,h2]
 exact h.ln o ho⟩
theorem SSp.abX{g:SG}{s:gy}(hS:SSp g.st)(hs:g.aT=some s):s.feeds=[]:=by
 have h1:=(hS.ln s.o (SG.oAt hs)).1
 have h2:s.o.feeds.length=s.feeds.length:=by unfold gy.o;simp
 exact List.length_eq_zero_iff.1 (by omega)
theorem Srv.afl{lo:Nat}{w:World}{g:SG}{s:gy}(h:Srv lo w g)(hs:g.aT=some s){k:Nat}(hk:k<s.answers.length):∃ ga c,s.av=.slice (some ⟨ga,0,none⟩) s.answers.length c∧ga<w.heap.size∧∀ j v,(pc s.answers[k])[j]? = some v→w.cell? ⟨ga,k*6+j,none⟩=some v:=by
 have ho:w.ownsRow lo 124 6 s.av s.answers.length (dD s.answers):=(h.oH hs).own (h.yT hs).rn (fun p hp=>by unfold gy.res;simp only[List.mem_append];exact Or.inr (Or.inr (Or.inr hp)))
 rcases ho.2 with⟨_,e⟩ | ⟨ga,c,cur,hv,r⟩
 ·omega
 ·refine⟨ga,c,hv,(ho.lt ga (by rw[hv];rfl)).2,fun j v hj=>?_⟩
  have hj6:j<6:=by
   rcases Nat.lt_or_ge j 6 with h | h
   ·exact h
   ·rw[Array.getElem?_eq_none (by simp[pc];omega)] at hj;cases hj
  have:=ho.cells (g:=ga) (by rw[hv];rfl) (k*6+j) v (wK _ k j v hk hj hj6)
  rw[fE _ _ rfl] at this
  simpa using this
theorem SG.YV{g:SG}(h:g.jB=.pointer none):g.cur=false∨g.aT=none:=by
 unfold SG.jB at h
 split at h
 ·cases h
 ·rename_i hn
  cases hc:g.cur with
  | false=>exact Or.inl rfl
  | true=>
   cases hs:g.aT with
   | none=>exact Or.inr rfl
   | some s=>exact absurd hs (hn s hc)
theorem SP.Na{W:Nat}{p:SP}(h:p.cur=false∨p.aT=none):p.speak W=p.post (fK 7 0 0 0 0):=by
 unfold SP.speak
 rcases h with h | h
 ·rw[h]
 ·rw[h]
  split
  ·rename_i e;cases e
  ·rfl
theorem SG.YW{g:SG}(h:g.cur=false∨g.aT=none):g.st.cur=false∨g.st.aT=none:=by
 rcases h with h | h
 ·exact Or.inl h
 ·exact Or.inr (by unfold SG.st;rw[h];rfl)
def CX(g:SG)(s:gy)(k:Nat):List aP:=(s.answers.take k).foldl (bU g.up) (bU g.up g.L s.o.heard)
theorem Rw(g:SG)(s:gy){k:Nat}(hk:k<s.answers.length):CX g s (k+1)=bU g.up (CX g s k) s.answers[k]:=by
 unfold CX
 rw[List.take_add_one,List.getElem?_eq_getElem hk]
 simp only[Option.toList_some,List.foldl_append,List.foldl_cons,List.foldl_nil]
theorem VO(g:SG)(s:gy){k:Nat}(hk:s.answers.length≤k):CX g s k=s.answers.foldl (bU g.up) (bU g.up g.L s.o.heard):=by
 unfold CX
 rw[List.take_of_length_le hk]
theorem SP.Nb{g:SG}{s:gy}(hc:g.cur=true)(hs:g.aT=some s)(hf:s.feeds=[]):({ g with L:=s.answers.foldl (bU g.up) (bU g.up g.L s.o.heard) }:SG).st=g.st.speak g.W:=by
 have hfo:s.o.feeds=[]:=by unfold gy.o;rw[hf];rfl
 unfold SP.speak
 rw[show g.st.cur=true from hc,SG.oAt hs]
 simp only[hfo,SP.mO]
 have e:(({ g with L:=s.answers.foldl (bU g.up) (bU g.up g.L s.o.heard) }:SG).st) = { g.st with L:=s.answers.foldl (bU g.up) (bU g.up g.L s.o.heard) }:=rfl
 rw[e]
 have e2:({ s.o with feeds:=[] }:IU)=s.o:=by rw[← hfo]
 rw[e2,← SG.oAt hs,← show g.st.cur=true from hc]
 rfl
theorem dV.same{lo:Nat}{w w':World}{g g':SG}{p:SP}(h:dV lo w g p w' g'):dV lo w g g'.st w' g':=⟨h.srv,rfl,h.grow,h.b,h.iv,h.cfg⟩
theorem Hz{lo:Nat}{w:World}{g:SG}(h:Srv lo w g)(hn:g.jB=.pointer none):
  Calls Tryz.prog 58 #[.pointer (some ⟨g.b,0,none⟩)] w (fun e w'=>e=.returned (.tuple #[])∧dV lo w g (g.st.speak g.W) w' { g with L:=bU g.up g.L (fK 7 0 0 0 0) }):=by
 have d11:w.cell? ⟨g.b,11,none⟩=some (.pointer none):=(show w.cell? ⟨g.b,11,none⟩=some g.jB from h.blk.cell 11).trans (by rw[hn])
 have HS:=hid (SP.Na (W:=g.W) (SG.YW (SG.YV hn)))
 have H:=hid h
 clear h hn
 go_enter func58,ntmps58
 go_wp2_with fail
 refine(H.out.post (fK 7 0 0 0 0)).mono ?_;rintro e w1 ⟨rfl,h1,_⟩;have H1:=hid h1;clear h1
 go_wp2_with fail
 (try simp only[Exit.inBlock,Exit.then]);refine bodyPost_ret (results_none rfl _ _ _) rfl ?_
 exact⟨rfl,by rw[HS.out];exact H1.out⟩
theorem YX{lo:Nat}{w:World}{g:SG}{s:gy}(h:Srv lo w g)(hcur:g.cur=true)(hs:g.aT=some s)(hS:SSp g.st)(hW:g.W≤1000):
  Calls Tryz.prog 58 #[.pointer (some ⟨g.b,0,none⟩)] w (fun e w'=>e=.returned (.tuple #[])∧dV lo w g (g.st.speak g.W) w' { g with L:=s.answers.foldl (bU g.up) (bU g.up g.L s.o.heard) }):=by
 have uI:=hid (show g.jB=.pointer (some ⟨s.blk,0,none⟩) by unfold SG.jB;rw[hcur,hs];rfl)
 have d11:w.cell? ⟨g.b,11,none⟩=some (.pointer (some ⟨s.blk,0,none⟩)):=(show w.cell? ⟨g.b,11,none⟩=some g.jB from h.blk.cell 11).trans (by rw[uI.out])
 obtain⟨hfl,hal⟩:=hS.ln s.o (SG.oAt hs)
 have hnf:=hS.abX hs
 have hal:s.answers.length≤1000000:=hal
 obtain⟨aa,ac,hav⟩:=(h.yT hs).rn.slice
 have XP:=hid hav
 obtain⟨fa,fc,hfv⟩:=(h.yT hs).rf.slice
 have X9:=hid hfv
 have VP:=hid (h.jm hs)
 have zV:=hid (SP.Nb hcur hs hnf)
 have HNF:=hid hnf
 have Hs:=hid hs
 have H:=hid h
 clear h hs hcur hS hav hfv hnf hfl
 go_enter func58,ntmps58
 go_wp2_with fail
 go_region_with (first | (go_at_call 81;refine(Hy (w:=w.drew) (s:=s) VP.out).mono ?_;rintro e w1 ⟨rfl,hb1⟩) | (go_at_call 71;refine((H.out.drew.below hb1).post (fK 7 s.token s.number s.next 0)).mono ?_;rintro e w2 ⟨rfl,h2,_⟩;have H2:=hid h2;clear h2))
 have e11:w2.cell? ⟨g.b,11,none⟩=some (.pointer (some ⟨s.blk,0,none⟩)):=(show w2.cell? ⟨g.b,11,none⟩=some g.jB from H2.out.srv.blk.cell 11).trans (by rw[uI.out])
 have e6:w2.cell? ⟨s.blk,6,none⟩=some (.slice aa s.answers.length ac):=(show w2.cell? ⟨s.blk,6,none⟩=some s.av from(H2.out.srv.jm (s:=s) Hs.out).cell 6).trans (by rw[XP.out])
 go_wp2_with fail
 have hb0:Below w.heap.size w w1:=(Below.refl _ w).drew.trans hb1
 have H3:=hid (show dV lo w g ({ g with L:=CX g s 0 }:SG).st w2 { g with L:=CX g s 0 } from(H2.out.before hb0).same)
 clear e11 e6 hb1 hb0 H2
 go_loopg [3,33] s.answers.length (fun gk x i wr=>∃ k:Nat,k+gk=s.answers.length∧i=.int .i64 k∧Hid (dV lo w g ({ g with L:=CX g s k }:SG).st wr { g with L:=CX g s k }))
 case atStart=>exact⟨0,by omega,rfl,H3⟩
 case round=>
  obtain⟨k,hk,rfl,HC⟩:=hrel
  by_cases hlt:k<s.answers.length
  ·obtain⟨ga,c,hav,hgl,hcell⟩:=HC.out.srv.afl (s:=s) Hs.out hlt
   obtain⟨rfl,rfl⟩:aa=some ⟨ga,0,none⟩∧ac=c:=by simpa using XP.out.symm.trans hav
   have c0:wr.cell? ⟨ga,k*6,none⟩=some (.int .u8 s.answers[k].kind):=hcell 0 _ rfl
   have c1:wr.cell? ⟨ga,k*6+1,none⟩=some (.int .u64 s.answers[k].token):=hcell 1 _ rfl
   have c2:wr.cell? ⟨ga,k*6+2,none⟩=some (.int .u64 s.answers[k].session):=hcell 2 _ rfl
   have c3:wr.cell? ⟨ga,k*6+3,none⟩=some (.int .u64 s.answers[k].number):=hcell 3 _ rfl
   have c4:wr.cell? ⟨ga,k*6+4,none⟩=some (.int .u64 s.answers[k].position):=hcell 4 _ rfl
   have c5:wr.cell? ⟨ga,k*6+5,none⟩=some (.string s.answers[k].data):=hcell 5 _ rfl
   have fO:(k:Int)<(s.answers.length:Int):=by omega
   have HN:=hid (Rw g s hlt)
   generalize s.answers[k]=p at *
   have eF:Below wr.heap.size wr (wr.alloc (.cells #[.int .u8 p.kind,.int .u64 p.token,.int .u64 p.session,.int .u64 p.number,.int .u64 p.position,.string p.data] 124)):=(Below.refl _ _).alloc (Nat.le_refl _) _
   have hNA:aK (wr.alloc (.cells #[.int .u8 p.kind,.int .u64 p.token,.int .u64 p.session,.int .u64 p.number,.int .u64 p.position,.string p.data] 124)) wr.heap.size 124 [.int .u8 p.kind,.int .u64 p.token,.int .u64 p.session,.int .u64 p.number,.int .u64 p.position,.string p.data]:=heap_alloc_new wr _
   obtain⟨wa,hwa⟩:∃ wa,wr.alloc (.cells #[.int .u8 p.kind,.int .u64 p.token,.int .u64 p.session,.int .u64 p.number,.int .u64 p.position,.string p.data] 124)=wa:=⟨_,rfl⟩
   rw[hwa] at eF hNA
   have z0:wa.cell? ⟨wr.heap.size,0,none⟩=some (.int .u8 p.kind):=hNA.cell 0
   have z1:wa.cell? ⟨wr.heap.size,1,none⟩=some (.int .u64 p.token):=hNA.cell 1
   have z2:wa.cell? ⟨wr.heap.size,2,none⟩=some (.int .u64 p.session):=hNA.cell 2
   have z3:wa.cell? ⟨wr.heap.size,3,none⟩=some (.int .u64 p.number):=hNA.cell 3
   have z4:wa.cell? ⟨wr.heap.size,4,none⟩=some (.int .u64 p.position):=hNA.cell 4
   have z5:wa.cell? ⟨wr.heap.size,5,none⟩=some (.string p.data):=hNA.cell 5
   have VJ:=hid eF
   clear hav hcell eF hNA
   go_wp2_with fail
   go_region_with (go_at_call 71;refine((HC.out.srv.below VJ.out).drew.post p).mono ?_;rintro e w3 ⟨rfl,h3,_⟩)
   have H4:=hid (show dV lo w g ({ g with L:=bU g.up (CX g s k) p }:SG).st w3 { g with L:=bU g.up (CX g s k) p } from(HC.out.trans (h3.before VJ.out.drew)).same)
   clear h3
   go_wp2_with fail
   go_roundg (gk-1)
   case rel=>exact⟨k+1,by omega,by go_num,by rw[HN.out];exact H4⟩
   case measure=>omega
  ·have fO:¬ (k:Int)<(s.answers.length:Int):=by omega
   have HAl:=hid (VO g s (show s.answers.length≤k by omega))
   have H5:=hid (show dV lo w g ({ g with L:=s.answers.foldl (bU g.up) (bU g.up g.L s.o.heard) }:SG).st wr { g with L:=s.answers.foldl (bU g.up) (bU g.up g.L s.o.heard) } by
    rw[← HAl.out];exact HC.out)
   have e11:wr.cell? ⟨g.b,11,none⟩=some (.pointer (some ⟨s.blk,0,none⟩)):=(show wr.cell? ⟨g.b,11,none⟩=some g.jB from HC.out.srv.blk.cell 11).trans (by rw[uI.out])
   have e5:wr.cell? ⟨s.blk,5,none⟩=some (.slice fa 0 fc):=(show wr.cell? ⟨s.blk,5,none⟩=some s.fv from(HC.out.srv.jm (s:=s) Hs.out).cell 5).trans (by rw[X9.out,HNF.out];rfl)
   clear HC HAl hk
   go_wp2_with fail
   clear e11 e5
   go_loopg [5,51] 0 (fun gk x i wq=>i=.int .i64 0∧wq=wr)
   case atStart=>exact⟨rfl,rfl⟩
   case round=>
    obtain⟨rfl,rfl⟩:=hrel
    go_wp2_with fail
    go_end0
    exact⟨rfl,by rw[← zV.out];exact H5.out⟩
theorem VQ{lo:Nat}{w:World}{g:SG}(h:Srv lo w g)(hS:SSp g.st)(hW:g.W≤1000):
  Calls Tryz.prog 58 #[.pointer (some ⟨g.b,0,none⟩)] w (fun e w'=>e=.returned (.tuple #[])∧∃ g',dV lo w g (g.st.speak g.W) w' g'∧g'.aT.map (fun s=>s.blk)=g.aT.map (fun s=>s.blk)):=by
 cases hc:g.cur with
 | false=>
  refine(Hz h (by unfold SG.jB;rw[hc])).mono ?_
  rintro e w' ⟨rfl,h1⟩
  exact⟨rfl,_,h1,rfl⟩
 | true=>
  cases hs:g.aT with
  | none=>
   refine(Hz h (by unfold SG.jB;rw[hc,hs])).mono ?_
   rintro e w' ⟨rfl,h1⟩
   exact⟨rfl,_,h1,by rw[hs]⟩
  | some s=>
   refine(YX h hc hs hS hW).mono ?_
   rintro e w' ⟨rfl,h1⟩
   exact⟨rfl,_,h1,by show g.aT.map _=_;rw[hs]⟩
theorem zI(kd d:IntKind)(a:Int):∀ (es:List MapEntry) (ks:List Int) (i:Nat),es.map (fun e=>e.key)=ks.map (Value.int kd)→Instr.findNow (.int d) (.int kd a) es i=some ((ks.findIdx? (fun x=>a==x)).bind fun j=>(es[j]?).map fun e=>(i+j,e.val))
 | [],[],i,_=>by simp[Instr.findNow]
 | [],_::_,i,h=>by simp at h
 | _::_,[],i,h=>by simp at h
 | e::es,q::L,i,h=>by
  simp only[List.map_cons,List.cons.injEq] at h
  rw[Instr.findNow]
  simp only[h.1,Instr.sameNow,if_true]
  cases hb:(a==q) with
  | true=>simp[List.findIdx?_cons,hb]
  | false=>
   simp only[zI kd d a es L (i+1) h.2,List.findIdx?_cons,hb,Bool.false_eq_true,if_false]
   congr 1
   cases L.findIdx? (fun x=>a==x) with
   | none=>rfl
   | some j=>
    simp only[Option.bind_some,Option.map_some,List.getElem?_cons_succ]
    congr 1
    funext x
    congr 1
    omega
theorem lF{T:TypeId}{kd d:IntKind}(hT:Tryz.prog.underlying T=some (.int d))(w:World)(a:Int)(es:List MapEntry)(ks:List Int)(h:es.map (fun e=>e.key)=ks.map (Value.int kd)):(Instr.findKey T (.int kd a) es).run Tryz.prog w=.ok ((ks.findIdx? (fun x=>a==x)).bind fun j=>(es[j]?).map fun e=>(j,e.val)) w:=by
 unfold Instr.findKey
 simp only[Sem.run_bind,run_underlying hT,Result.andThen_ok,zI kd d a es ks 0 h]
 simp
theorem tV(w:World)(em:Bool)(z:Int):(Instr.checkKey em 10000 55 (.int .u64 z)).run Tryz.prog w=.ok () w:=MapKept.run_checkKey underlying55 (by simp[MapKept.IsKey]) em 9999
theorem tX(w:World)(em:Bool)(z:Int):(Instr.checkKey em 10000 3 (.int .i64 z)).run Tryz.prog w=.ok () w:=MapKept.run_checkKey underlying3 (by simp[MapKept.IsKey]) em 9999
def bF(w:World)(ms:Nat)(l:List (Nat × Nat)):Prop:=∃ es clock,w.heap[ms]? = some (.map es clock)∧es.toList.map (fun e=>(e.key,e.val))=l.map (fun x=>(.int .u64 (x.1:Nat),aJ x.2))∧∀ e∈es.toList,e.born<clock
theorem Srv.iW{lo:Nat}{w:World}{g:SG}(h:Srv lo w g):bF w g.ms (g.aT.toList.map (fun s=>(s.token,s.blk))):=by
 obtain⟨_,o,h1,⟨es,clock,rfl,h2,h3⟩,_⟩:=h.has.all (iH g.ms (g.aT.toList.map (fun s=>(s.token,s.blk)))) (by unfold SG.res SG.rest SG.lH;simp)
 exact⟨es,clock,h1,h2,h3⟩
theorem bF.lt{w:World}{ms:Nat}{l:List (Nat × Nat)}(h:bF w ms l):ms<w.heap.size:=by
 obtain⟨es,clock,hb,_⟩:=h
 exact(Array.getElem?_eq_some_iff.1 hb).1
theorem bF.dB{F:Nat→Prop}{w w':World}{ms:Nat}{l:List (Nat × Nat)}(h:bF w ms l)(hc:aG F w w')(hf:¬ F ms):bF w' ms l:=by
 have hlt:=h.lt
 obtain⟨es,clock,hb,hk⟩:=h
 exact⟨es,clock,(hc.block ms hlt hf).trans hb,hk⟩
theorem bF.drew{w:World}{ms:Nat}{l:List (Nat × Nat)}(h:bF w ms l):bF w.drew ms l:=h
theorem bF.nil{w:World}{ms:Nat}(h:bF w ms []):∃ clock,w.heap[ms]? = some (.map #[] clock):=by
 obtain⟨es,clock,hb,hk,_⟩:=h
 have:es=#[]:=by
  obtain⟨l⟩:=es
  cases l with
  | nil=>rfl
  | cons=>simp at hk
 exact⟨clock,by rw[hb,this]⟩
theorem bF.one{w:World}{ms tok b:Nat}(h:bF w ms [(tok,b)]):∃ clock born,w.heap[ms]? = some (.map #[⟨.int .u64 tok,aJ b,born⟩] clock)∧born<clock:=by
 obtain⟨es,clock,hb,hk,hn⟩:=h
 obtain⟨l⟩:=es
 match l,hk,hn,hb with
 | [e],hk,hn,hb=>
  obtain⟨k,v,n⟩:=e
  simp at hk
  obtain⟨rfl,rfl⟩:=hk
  exact⟨clock,n,hb,hn ⟨_,_,n⟩ (List.mem_singleton.2 rfl)⟩
 | [],hk,_,_=>simp at hk
 | _::_::_,hk,_,_=>simp at hk
theorem iC{w:World}{ms:Nat}(h:bF w ms [])(tok:Int):(Instr.lookup 100 (.map (some ms)) (.int .u64 tok) false).run Tryz.prog w=.ok (.pointer none) w:=by
 obtain⟨clock,hb⟩:=h.nil
 have hz:(zeroValue 101).run Tryz.prog w=.ok (.pointer none) w:=by simp[go_sem]
 simp[Instr.lookup,run_underlying underlying100,MapKept.run_getObj_map hb,tV,lF underlying55 w tok [] [] rfl,hz,Result.andThen]
theorem dA{w:World}{ms tok b:Nat}(h:bF w ms [(tok,b)]):(Instr.lookup 100 (.map (some ms)) (.int .u64 tok) false).run Tryz.prog w=.ok (aJ b) w:=by
 obtain⟨clock,born,hb,_⟩:=h.one
 simp[Instr.lookup,run_underlying underlying100,MapKept.run_getObj_map hb,tV,lF (kd:=.u64) underlying55 w tok [⟨.int .u64 tok,aJ b,born⟩] [(tok:Int)] rfl,Result.andThen]
theorem xO{w:World}{m:Nat}{o:Obj}:aG (fun k=>k=m) w ({ w with heap:=w.heap.setIfInBounds m o }:World):=by
 refine⟨rfl,rfl,rfl,by simp,fun k hk hf=>?_⟩
 have hne:m≠k:=fun e=>hf e.symm
 exact Array.getElem?_setIfInBounds_ne hne
theorem CY{w:World}{m:Nat}{o:Obj}(h:m<w.heap.size):({ w with heap:=w.heap.setIfInBounds m o }:World).heap[m]? = some o:=by simp[h]
theorem bF.afm{w:World}{ms tok b clock born:Nat}(hlt:ms<w.heap.size)(hn:born<clock):bF ({ w with heap:=w.heap.setIfInBounds ms (.map #[⟨.int .u64 tok,aJ b,born⟩] clock) }:World) ms [(tok,b)] :=
 ⟨#[⟨.int .u64 tok,aJ b,born⟩],clock,CY hlt,rfl,fun e he=>by
  have:e=⟨.int .u64 tok,aJ b,born⟩:=List.mem_singleton.1 he
  rw[this]
  exact hn⟩
theorem bF.ai1{w:World}{ms clock:Nat}(hlt:ms<w.heap.size):bF ({ w with heap:=w.heap.setIfInBounds ms (.map #[] clock) }:World) ms [] :=
 ⟨#[],clock,CY hlt,rfl,fun e he=>by cases he⟩
theorem Nc{w:World}{ms tok b:Nat}{l:List (Nat × Nat)}(h:bF w ms l)(hl:l=[]∨∃ b0,l=[(tok,b0)]):∃ w',(Instr.mapUpdate 100 (.map (some ms)) (.int .u64 tok) (aJ b)).run Tryz.prog w=.ok () w'∧bF w' ms [(tok,b)]∧aG (fun k=>k=ms) w w':=by
 have hlt:=h.lt
 rcases hl with rfl | ⟨b0,rfl⟩
 ·obtain⟨clock,hb⟩:=h.nil
  refine⟨{ w with heap:=w.heap.setIfInBounds ms (.map #[⟨.int .u64 tok,aJ b,clock⟩] (clock+1)) },?_,?_,xO⟩
  ·simp[Instr.mapUpdate,run_underlying underlying100,MapKept.run_getObj_map hb,tV,lF (kd:=.u64) underlying55 w tok [] [] rfl,MapKept.run_setObj_map _ hb,Result.andThen]
  ·exact bF.afm hlt (Nat.lt_succ_self _)
 ·obtain⟨clock,born,hb,hn⟩:=h.one
  refine⟨{ w with heap:=w.heap.setIfInBounds ms (.map #[⟨.int .u64 tok,aJ b,born⟩] clock) },?_,?_,xO⟩
  ·simp[Instr.mapUpdate,run_underlying underlying100,MapKept.run_getObj_map hb,tV,lF (kd:=.u64) underlying55 w tok [⟨.int .u64 tok,aJ b0,born⟩] [(tok:Int)] rfl,MapKept.run_setObj_map _ hb,Result.andThen,Instr.keyThatStays,Instr.sameBits]
  ·exact bF.afm hlt hn
theorem Rx{w:World}{ms:Nat}{l:List (Nat × Nat)}(h:bF w ms l):∃ w',(∀ ty,(Builtin.clear_ #[100] ty #[.map (some ms)]).run Tryz.prog w=.ok (.tuple #[]) w')∧bF w' ms []∧aG (fun k=>k=ms) w w':=by
 have hlt:=h.lt
 obtain⟨es,clock,hb,_⟩:=h
 refine⟨{ w with heap:=w.heap.setIfInBounds ms (.map #[] clock) },fun ty=>?_,?_,xO⟩
 ·simp[Builtin.clear_,run_underlying underlying100,MapKept.run_getObj_map hb,MapKept.run_setObj_map _ hb,Result.andThen]
 ·exact bF.ai1 hlt
theorem Ry{w:World}{it ms since c0 clock:Nat}(hi:w.heap[it]? = some (.mapIter (some ms) since #[] c0))(hm:w.heap[ms]? = some (.map #[] clock))(ty:TypeId):(Instr.next (.pointer (some ⟨it,0,none⟩)) false ty).run Tryz.prog w=.ok (.tuple #[.bool false]) w:=by
 simp[Instr.next,getObj,Sem.run_bind,Sem.run,hi,hm,Result.andThen,choose,Question.forced]
theorem VR{w:World}{it ms since c0 clock:Nat}{e:MapEntry}(hi:w.heap[it]? = some (.mapIter (some ms) since #[] c0))(hm:w.heap[ms]? = some (.map #[e] clock))(hn:e.born<since)(ty:TypeId):(Instr.next (.pointer (some ⟨it,0,none⟩)) false ty).run Tryz.prog w=.ok (.tuple #[.bool true,e.key,e.val]) ({ w with heap:=w.heap.setIfInBounds it (.mapIter (some ms) since #[e.born] clock) }:World):=by
 have hge:¬ since≤e.born:=by omega
 simp[Instr.next,getObj,setObj,Sem.run_bind,Sem.run,hi,hm,Result.andThen,hn,hge,choose,Question.forced]
theorem Rz{w:World}{ms tok b:Nat}(h:bF w ms [(tok,b)]):∃ since born w2,born<since∧(Instr.range 100 (.map (some ms))).run Tryz.prog w=.ok (.pointer (some ⟨w.heap.size,0,none⟩)) (w.alloc (.mapIter (some ms) since #[] since))∧(∀ ty,(Instr.next (.pointer (some ⟨w.heap.size,0,none⟩)) false ty).run Tryz.prog (w.alloc (.mapIter (some ms) since #[] since))=.ok (.tuple #[.bool true,.int .u64 tok,aJ b]) w2)∧Below w.heap.size w w2∧w2.heap[w.heap.size]? = some (.mapIter (some ms) since #[born] since)∧w2.heap[ms]? = some (.map #[⟨.int .u64 tok,aJ b,born⟩] since):=by
 have hlt:=h.lt
 obtain⟨clock,born,hb,hn⟩:=h.one
 have hb':(w.alloc (.mapIter (some ms) clock #[] clock)).heap[ms]? = some (.map #[⟨.int .u64 tok,aJ b,born⟩] clock):=by rw[heap_alloc_old w _ hlt,hb]
 refine⟨clock,born,{ w.alloc (.mapIter (some ms) clock #[] clock) with heap:=(w.alloc (.mapIter (some ms) clock #[] clock)).heap.setIfInBounds w.heap.size (.mapIter (some ms) clock #[born] clock) },hn,run_range_map (P:=Tryz.prog) w 100 _ _ ms _ clock underlying100 hb,fun ty=>?_,?_,?_,?_⟩
 ·exact VR (e:=⟨.int .u64 tok,aJ b,born⟩) (heap_alloc_new w _) hb' hn ty
 ·refine⟨rfl,rfl,rfl,by simp,fun k hk=>?_⟩
  show (Array.setIfInBounds _ _ _)[k]? = _
  rw[Array.getElem?_setIfInBounds_ne (by omega),heap_alloc_old w _ hk]
 ·exact CY (Array.getElem?_eq_some_iff.1 (heap_alloc_new w _)).1
 ·show (Array.setIfInBounds _ _ _)[ms]? = _
  rw[Array.getElem?_setIfInBounds_ne (by omega)]
  exact hb'
theorem Nh{w:World}{ms:Nat}(h:bF w ms []):∃ since,(Instr.range 100 (.map (some ms))).run Tryz.prog w=.ok (.pointer (some ⟨w.heap.size,0,none⟩)) (w.alloc (.mapIter (some ms) since #[] since))∧(∀ ty,(Instr.next (.pointer (some ⟨w.heap.size,0,none⟩)) false ty).run Tryz.prog (w.alloc (.mapIter (some ms) since #[] since))=.ok (.tuple #[.bool false]) (w.alloc (.mapIter (some ms) since #[] since))):=by
 have hlt:=h.lt
 obtain⟨clock,hb⟩:=h.nil
 have hb':(w.alloc (.mapIter (some ms) clock #[] clock)).heap[ms]? = some (.map #[] clock):=by rw[heap_alloc_old w _ hlt,hb]
 refine⟨clock,run_range_map (P:=Tryz.prog) w 100 _ _ ms _ clock underlying100 hb,fun ty=>?_⟩
 exact Ry (heap_alloc_new w _) hb' ty
theorem VT{w:World}{it ms since born:Nat}(hi:w.heap[it]? = some (.mapIter (some ms) since #[born] since))(hm:(∃ c,w.heap[ms]? = some (.map #[] c))∨∃ k v c,w.heap[ms]? = some (.map #[⟨k,v,born⟩] c))(hn:born<since)(ty:TypeId):(Instr.next (.pointer (some ⟨it,0,none⟩)) false ty).run Tryz.prog w=.ok (.tuple #[.bool false]) w:=by
 have hge:¬ since≤born:=by omega
 rcases hm with⟨c,hm⟩ | ⟨k,v,c,hm⟩
 ·simp[Instr.next,getObj,Sem.run_bind,Sem.run,hi,hm,Result.andThen,choose,Question.forced]
 ·simp[Instr.next,getObj,Sem.run_bind,Sem.run,hi,hm,Result.andThen,choose,Question.forced,hge]
theorem abY:∃ j,Tryz.prog.info? 132 = some j:=by
 have h:(Tryz.prog.info? 132).isSome=true:=by kernel_rfl
 exact Option.isSome_iff_exists.1 h
theorem xP(w:World)(a:Addr):(binOp .eql 101 (.pointer (some a)) (.pointer (some a))).run Tryz.prog w=.ok (.bool true) w:=by
 obtain⟨j,hj⟩:=abY
 exact run_eql_ptr_same w a underlying101 hj
theorem Ia(w:World)(a:Addr):(binOp .eql 101 (.pointer none) (.pointer (some a))).run Tryz.prog w=.ok (.bool false) w:=by
 have h1:∀ d:Nat,(Op.equalIn (d+1) 101 (.pointer none) (.pointer (some a))).run Tryz.prog w=.ok false w:=fun d=>by simp[Op.equalIn,run_underlying underlying101]
 have h2:(Op.equal 101 (.pointer none) (.pointer (some a))).run Tryz.prog w=.ok false w:=h1 9999
 simp[binOp,h2]
theorem Ib(w:World)(a:Addr):(binOp .neq 101 (.pointer (some a)) (.pointer (some a))).run Tryz.prog w=.ok (.bool false) w:=by
 have h:=xP w a
 simp only[binOp] at h ⊢
 cases h2:(Op.equal 101 (.pointer (some a)) (.pointer (some a))).run Tryz.prog w<;>simp_all
theorem Ic(w:World)(a:Addr):(binOp .neq 101 (.pointer none) (.pointer (some a))).run Tryz.prog w=.ok (.bool true) w:=by
 have h1:∀ d:Nat,(Op.equalIn (d+1) 101 (.pointer none) (.pointer (some a))).run Tryz.prog w=.ok false w:=fun d=>by simp[Op.equalIn,run_underlying underlying101]
 have h2:(Op.equal 101 (.pointer none) (.pointer (some a))).run Tryz.prog w=.ok false w:=h1 9999
 simp[binOp,h2]
def kW(w:World)(mo:Nat)(l:List (Nat × zK)):Prop:=∃ es clock,w.heap[mo]? = some (.map es clock)∧es.toList.map (fun e=>(e.key,e.val))=l.map (fun x=>(.int .i64 (x.1:Nat),.agg (xK x.2).toArray))
theorem Srv.tY{lo:Nat}{w:World}{g:SG}(h:Srv lo w g):kW w g.mo g.owed:=by
 obtain⟨_,o,h1,⟨es,clock,rfl,h2⟩,_⟩:=h.has.all (fH g.mo g.owed) (by unfold SG.res SG.rest SG.qM;simp)
 exact⟨es,clock,h1,h2⟩
theorem kW.lt{w:World}{mo:Nat}{l:List (Nat × zK)}(h:kW w mo l):mo<w.heap.size:=by
 obtain⟨es,clock,hb,_⟩:=h
 exact(Array.getElem?_eq_some_iff.1 hb).1
theorem RD{es:List MapEntry}{l:List (Nat × zK)}(h:es.map (fun e=>(e.key,e.val))=l.map (fun x=>(.int .i64 (x.1:Nat),.agg (xK x.2).toArray))):es.map (fun e=>e.key)=(l.map (fun x=>(x.1:Int))).map (Value.int .i64):=by
 have:=congrArg (List.map Prod.fst) h
 simpa[Function.comp_def] using this
theorem Kt{es:List MapEntry}{l:List (Nat × zK)}(h:es.map (fun e=>(e.key,e.val))=l.map (fun x=>(.int .i64 (x.1:Nat),.agg (xK x.2).toArray))){j:Nat}{x:Nat × zK}(hj:l[j]? = some x):∃ e,es[j]? = some e∧e.val=.agg (xK x.2).toArray:=by
 have:=congrArg (fun l=>l[j]?) h
 simp only[List.getElem?_map,hj,Option.map_some] at this
 cases he:es[j]? with
 | none=>rw[he] at this;cases this
 | some e=>
  rw[he] at this
  simp only[Option.map_some,Option.some.injEq,Prod.mk.injEq] at this
  exact⟨e,rfl,this.2⟩
theorem FC:∀ (l:List (Nat × zK)) (id:Nat),(l.map (fun x=>(x.1:Int))).findIdx? (fun x=>(id:Int)==x)=l.findIdx? (fun x=>decide (x.1=id))
 | [],_=>rfl
 | x::l,id=>by
  simp only[List.map_cons,List.findIdx?_cons,FC l id]
  by_cases h:x.1=id
  ·simp[h]
  ·have:¬ (id:Int)=x.1:=fun e=>h (by omega)
   simp[h,this]
theorem lZ(w:World){es:List MapEntry}{l:List (Nat × zK)}(hk:es.map (fun e=>(e.key,e.val))=l.map (fun x=>(.int .i64 (x.1:Nat),.agg (xK x.2).toArray)))(id:Nat):(Instr.findKey 3 (.int .i64 id) es).run Tryz.prog w=.ok ((l.findIdx? (fun x=>decide (x.1=id))).bind fun j=>(es[j]?).map fun e=>(j,e.val)) w:=by
 rw[lF underlying3 w id es _ (RD hk),FC]
theorem yU{w:World}{mo:Nat}{l:List (Nat × zK)}(h:kW w mo l){id:Nat}{x:Nat × zK}(hx:l.find? (fun x=>decide (x.1=id))=some x):(Instr.lookup 103 (.map (some mo)) (.int .i64 id) true).run Tryz.prog w=.ok (.tuple #[.agg (xK x.2).toArray,.bool true]) w:=by
 obtain⟨es,clock,hb,hk⟩:=h
 obtain⟨j,hj,hjx⟩:∃ j,l.findIdx? (fun x=>decide (x.1=id))=some j∧l[j]? = some x:=by
  rw[List.find?_eq_some_iff_getElem] at hx
  obtain⟨h1,j,hj,h2,h3⟩:=hx
  refine⟨j,?_,by rw[List.getElem?_eq_getElem hj,h2]⟩
  rw[List.findIdx?_eq_some_iff_getElem]
  exact⟨hj,by rw[h2];exact h1,fun k hk=>by have:=h3 k hk;simpa using this⟩
 obtain⟨e,he,hv⟩:=Kt hk hjx
 have hf:=lZ w hk id
 rw[hj,Option.bind_some,he,Option.map_some,hv] at hf
 simp[Instr.lookup,run_underlying underlying103,MapKept.run_getObj_map hb,tX,hf,Result.andThen]
theorem yV{w:World}{mo:Nat}{l:List (Nat × zK)}(h:kW w mo l){id:Nat}(hx:l.find? (fun x=>decide (x.1=id))=none):(Instr.lookup 103 (.map (some mo)) (.int .i64 id) true).run Tryz.prog w=.ok (.tuple #[.agg #[.int .u64 0,.int .u64 0,.int .u64 0,.string ⟨#[]⟩],.bool false]) w:=by
 obtain⟨es,clock,hb,hk⟩:=h
 have hz:(zeroValue 137).run Tryz.prog w=.ok (.agg #[.int .u64 0,.int .u64 0,.int .u64 0,.string ⟨#[]⟩]) w:=by simp[go_sem]
 have hj:l.findIdx? (fun x=>decide (x.1=id))=none:=by
  rw[List.findIdx?_eq_none_iff]
  rw[List.find?_eq_none] at hx
  intro x hx'
  have:=hx x hx'
  simpa using this
 have hf:=lZ w hk id
 rw[hj,Option.bind_none] at hf
 simp[Instr.lookup,run_underlying underlying103,MapKept.run_getObj_map hb,tX,hf,hz,Result.andThen]
theorem Ku{w:World}{mo:Nat}{l:List (Nat × zK)}(h:kW w mo l){id:Nat}(y:zK)(hx:∀ x∈l,x.1≠id):∃ w',(Instr.mapUpdate 103 (.map (some mo)) (.int .i64 id) (.agg (xK y).toArray)).run Tryz.prog w=.ok () w'∧kW w' mo (l++[(id,y)])∧aG (fun k=>k=mo) w w':=by
 have hlt:=h.lt
 obtain⟨es,clock,hb,hk⟩:=h
 have hj:l.findIdx? (fun x=>decide (x.1=id))=none:=by
  rw[List.findIdx?_eq_none_iff]
  intro x hx'
  simpa using hx x hx'
 have hf:=lZ w hk id
 rw[hj,Option.bind_none] at hf
 refine⟨{ w with heap:=w.heap.setIfInBounds mo (.map (es.push ⟨.int .i64 id,.agg (xK y).toArray,clock⟩) (clock+1)) },?_,?_,xO⟩
 ·simp[Instr.mapUpdate,run_underlying underlying103,MapKept.run_getObj_map hb,tX,hf,MapKept.run_setObj_map _ hb,Result.andThen]
 ·exact⟨_,_,CY hlt,by simp[hk]⟩
theorem CZ:∀ (l:List (Nat × zK)) (id j:Nat),(l.map (fun x=>x.1)).Nodup→l.findIdx? (fun x=>decide (x.1=id))=some j→l.eraseIdx j=l.filter (fun x=>!decide (x.1=id))
 | [],id,j,_,h=>by simp at h
 | x::l,id,j,hn,h=>by
  have hn':x.1∉l.map (fun x=>x.1)∧(l.map (fun x=>x.1)).Nodup:=List.nodup_cons.1 hn
  rw[List.findIdx?_cons] at h
  by_cases hx:x.1=id
  ·simp[hx] at h
   subst h
   rw[List.eraseIdx_cons_zero,List.filter_cons_of_neg (by simp[hx])]
   symm
   rw[List.filter_eq_self]
   intro y hy
   have:y.1≠x.1:=fun e=>hn'.1 (List.mem_map.2 ⟨y,hy,e⟩)
   simp
   omega
  ·simp[hx] at h
   obtain⟨i,hi,rfl⟩:=h
   rw[List.eraseIdx_cons_succ,List.filter_cons_of_pos (by simp[hx]),CZ l id i hn'.2 hi]
theorem vJ{α β:Type}(f:α → β):∀ (l:List α) (j:Nat),(l.map f).eraseIdx j=(l.eraseIdx j).map f
 | [],j=>by simp
 | x::l,0=>by simp
 | x::l,j+1=>by
  simp only[List.map_cons,List.eraseIdx_cons_succ,vJ f l j]
theorem Kv{w:World}{mo:Nat}{l:List (Nat × zK)}(h:kW w mo l)(hn:(l.map (fun x=>x.1)).Nodup){id:Nat}{x:Nat × zK}(hx:l.find? (fun x=>decide (x.1=id))=some x)(ty:TypeId):∃ w',(Builtin.delete_ #[103,3] ty #[.map (some mo),.int .i64 id]).run Tryz.prog w=.ok (.tuple #[]) w'∧kW w' mo (l.filter (fun x=>!decide (x.1=id)))∧aG (fun k=>k=mo) w w':=by
 have hlt:=h.lt
 obtain⟨es,clock,hb,hk⟩:=h
 obtain⟨j,hj,hjx⟩:∃ j,l.findIdx? (fun x=>decide (x.1=id))=some j∧l[j]? = some x:=by
  rw[List.find?_eq_some_iff_getElem] at hx
  obtain⟨h1,j,hj,h2,h3⟩:=hx
  refine⟨j,?_,by rw[List.getElem?_eq_getElem hj,h2]⟩
  rw[List.findIdx?_eq_some_iff_getElem]
  exact⟨hj,by rw[h2];exact h1,fun k hk=>by have:=h3 k hk;simpa using this⟩
 obtain⟨e,he,hv⟩:=Kt hk hjx
 have hf:=lZ w hk id
 rw[hj,Option.bind_some,he,Option.map_some,hv] at hf
 refine⟨{ w with heap:=w.heap.setIfInBounds mo (.map (es.eraseIdxIfInBounds j) clock) },?_,?_,xO⟩
 ·simp[Builtin.delete_,run_underlying underlying103,MapKept.run_getObj_map hb,tX,hf,MapKept.run_setObj_map _ hb,Result.andThen]
 ·refine⟨_,_,CY hlt,?_⟩
  have ht:(es.eraseIdxIfInBounds j).toList=es.toList.eraseIdx j:=by
   obtain⟨l⟩:=es
   simp
  rw[ht,← vJ,hk,vJ,CZ l id j hn hj]
theorem Srv.aaH{lo:Nat}{w w':World}{g:SG}{l':List (Nat × zK)}(h:Srv lo w g)(hm:kW w' g.mo l')(hc:aG (fun k=>k=g.mo) w w'):dV lo w g { g.st with owed:=l' } w' { g with owed:=l' }:=by
 have hlo:lo≤g.mo:=(h.has.lt ⟨fH g.mo g.owed,by unfold SG.res SG.rest SG.qM;simp,rfl⟩).1
 have hh:Has lo w' [fH g.mo l']:=⟨by simp,fun p hp=>by
  rw[List.mem_singleton.1 hp]
  obtain⟨es,clock,hb,hk⟩:=hm
  exact⟨hlo,_,hb,⟨es,clock,rfl,hk⟩,by simp[okTag,aaY]⟩⟩
 have hg:Grow w g.qM w' [fH g.mo l']:=⟨hc.mono (fun i _ hi=>by subst hi;exact Key.one.2 rfl),fun k hk=>Or.inl (Key.one.2 (show k=g.mo from Key.one.1 hk))⟩
 have p1:g.res.Perm (g.qM++(g.aU++(g.aQ++(g.rowT++(g.qL++(g.lH++(g.nJ++g.oW))))))):=aY (fun p=>by unfold SG.res SG.rest;simp only[aH];omega)
 have p2:([fH g.mo l']++(g.aU++(g.aQ++(g.rowT++(g.qL++(g.lH++(g.nJ++g.oW))))))).Perm ({ g with owed:=l' }:SG).res:=aY (fun p=>by
  show cnt p ([fH g.mo l']++(g.aU++(g.aQ++(g.rowT++(g.qL++(g.lH++(g.nJ++g.oW)))))))=cnt p (g.aU++(g.aQ++(g.rowT++(g.qL++(g.lH++(g.nJ++(g.oW++[fH g.mo l'])))))))
  simp only[aH];omega)
 exact⟨⟨((h.has.perm p1).swap hh hg).perm p2,h.rt,h.tp,h.ss,h.rw⟩,rfl,hg.swap.perm p1.symm p2,rfl,rfl,rfl,rfl,rfl⟩
theorem SG.zJ(g:SG):g.res.Perm (((g.aU++g.aQ)++(g.lH++g.nJ))++(g.rowT++(g.qL++(g.oW++g.qM)))):=aY (fun p=>by unfold SG.res SG.rest;simp only[aH];omega)
theorem Srv.afn{lo:Nat}{w w':World}{g g':SG}(h:Srv lo w g)(hh:Has lo w' ((g'.aU++g'.aQ)++(g'.lH++g'.nJ)))(hg:Grow w ((g.aU++g.aQ)++(g.lH++g.nJ)) w' ((g'.aU++g'.aQ)++(g'.lH++g'.nJ)))(hr:g'.rowT++(g'.qL++(g'.oW++g'.qM))=g.rowT++(g.qL++(g.oW++g.qM)))(hb:g'.b=g.b)(hi:g'.iv=g.iv)(hf:g'.W=g.W∧g'.D=g.D∧g'.R=g.R)
  (rt:eX 1 g'.tv g'.aX.length (g'.aX.map (fun t=>aJ t.blk))) (tp:∀ t∈g'.aX,t.Ok) (ss:∀ s∈g'.aT.toList,s.Ok) (rw':eX 6 g'.wv g'.waits.length (oV g'.waits)):dV lo w g g'.st w' g':=by
 have p2:=(SG.zJ g').symm
 rw[hr] at p2
 exact⟨⟨((h.has.perm (SG.zJ g)).swap hh hg).perm p2,rt,tp,ss,rw'⟩,rfl,hg.swap.perm (SG.zJ g).symm p2,hb,hi,hf⟩
theorem OU{lo:Nat}{w:World}{ms:Nat}{l:List (Nat × Nat)}(hl:lo≤ms)(h:bF w ms l):Has lo w [iH ms l]:=⟨by simp,fun p hp=>by
 rw[List.mem_singleton.1 hp]
 obtain⟨es,clock,hb,hk⟩:=h
 exact⟨hl,_,hb,⟨es,clock,rfl,hk⟩,by simp[okTag,aaY]⟩⟩
theorem Srv.afo{lo:Nat}{w:World}{g:SG}(h:Srv lo w g):lo≤g.ms:=(h.has.lt ⟨iH g.ms (g.aT.toList.map (fun s=>(s.token,s.blk))),by unfold SG.res SG.rest SG.lH;simp,rfl⟩).1
theorem Srv.VU{lo:Nat}{w:World}{g:SG}(h:Srv lo w g):¬ Key (g.aU++g.aQ) g.ms:=fun⟨p,hp,e⟩=>by
 have hd:=(aA.1 (aA.1 (h.has.perm (SG.zJ g))).1).2.2
 exact hd p hp (iH g.ms (g.aT.toList.map (fun s=>(s.token,s.blk)))) (List.mem_append_left _ (List.mem_singleton.2 rfl)) e
theorem Srv.RF{lo:Nat}{w:World}{g:SG}(h:Srv lo w g):g.ms≠g.b:=fun e=>h.VU (Key.app.2 (Or.inl (Key.one.2 e)))
theorem Srv.front{lo:Nat}{w:World}{g:SG}(h:Srv lo w g):Has lo w (g.aU++g.aQ):=(aA.1 (aA.1 (h.has.perm (SG.zJ g))).1).1
theorem Srv.q_b{lo:Nat}{w:World}{g:SG}(h:Srv lo w g):g.q≠g.b∧g.m≠g.b:=by
 have hd:=(aA.1 h.front).2.2
 exact⟨fun e=>hd _ (List.mem_singleton.2 rfl) (qJ g.q g.L) (List.mem_append_left _ (List.mem_singleton.2 rfl)) e.symm,fun e=>hd _ (List.mem_singleton.2 rfl) (kG g.m g.L) (List.mem_append_right _ (List.mem_singleton.2 rfl)) e.symm⟩
theorem Srv.RG{lo:Nat}{w w':World}{g g':SG}(h:Srv lo w g)(hlo:lo≤w.heap.size)(e1:g'.b=g.b)(e2:g'.ms=g.ms)(e3:g'.aT=none)(e4:g'.L=[])(hB:aK w' g.b 105 g'.cells)(hq:w.heap.size≤g'.q)(hm':w.heap.size≤g'.m)(h1:o8 w' g'.q [])(h2:Waits w' g'.m [])(hm:bF w' g.ms [])(hc:aG (fun k=>k=g.b∨k=g.ms) w w'):
  Has lo w' ((g'.aU++g'.aQ)++(g'.lH++g'.nJ))∧Grow w ((g.aU++g.aQ)++(g.lH++g.nJ)) w' ((g'.aU++g'.aQ)++(g'.lH++g'.nJ)):=by
 have hbl:=h.blk.lt
 have hml:=h.iW.lt
 have hmb:=h.RF
 have x1:g'.aU=[iO g.b 105 g'.cells]:=by unfold SG.aU;rw[e1]
 have x2:g'.aQ=[qJ g'.q []]++[kG g'.m []]:=by unfold SG.aQ;rw[e4]
 have x3:g'.lH=[iH g.ms []]:=by unfold SG.lH;rw[e2,e3];rfl
 have x4:g'.nJ=[]:=by unfold SG.nJ;rw[e3];rfl
 rw[x1,x2,x3,x4,List.append_nil]
 constructor
 ·exact aA.2 ⟨aA.2 ⟨dH h.Oa hB (by decide),pO (by omega) (by omega) h1 h2,fun a ha c hc'=>by
   rw[List.mem_singleton.1 ha]
   rcases List.mem_append.1 hc' with e | e
   ·rw[List.mem_singleton.1 e]
    show g.b≠g'.q
    omega
   ·rw[List.mem_singleton.1 e]
    show g.b≠g'.m
    omega⟩,OU h.afo hm,fun a ha b hb e=>by
   rw[List.mem_singleton.1 hb] at e
   have e:a.1=g.ms:=e
   rcases List.mem_append.1 ha with ha | ha
   ·rw[List.mem_singleton.1 ha] at e
    exact hmb e.symm
   ·rcases List.mem_append.1 ha with ha | ha
    ·rw[List.mem_singleton.1 ha] at e
     have:g'.q=g.ms:=e
     omega
    ·rw[List.mem_singleton.1 ha] at e
     have:g'.m=g.ms:=e
     omega⟩
 ·exact⟨hc.mono (fun i _ hi=>by
   rcases hi with rfl | rfl
   ·exact Key.app.2 (Or.inl (Key.app.2 (Or.inl (Key.one.2 rfl))))
   ·exact Key.app.2 (Or.inr (Key.app.2 (Or.inl (Key.one.2 rfl))))),fun k hk=>by
   rcases Key.app.1 hk with e | e
   ·rcases Key.app.1 e with e | e
    ·exact Or.inl (Key.app.2 (Or.inl (Key.app.2 (Or.inl (Key.one.2 (show k=g.b from Key.one.1 e))))))
    ·rcases Key.app.1 e with e | e
     ·exact Or.inr (by rw[Key.one.1 e];exact hq)
     ·exact Or.inr (by rw[Key.one.1 e];exact hm')
   ·exact Or.inl (Key.app.2 (Or.inr (Key.app.2 (Or.inl (Key.one.2 (show k=g.ms from Key.one.1 e))))))⟩
theorem Srv.VW{lo:Nat}{w w':World}{g:SG}{q' m':Nat}(h:Srv lo w g)(hlo:lo≤w.heap.size)(hB:aK w' g.b 105 ({ g with aT:=none,cur:=false,L:=[],q:=q',m:=m',wv:=.slice none 0 0,waits:=[] }:SG).cells)(hq:w.heap.size≤q')(hm':w.heap.size≤m')(h1:o8 w' q' [])(h2:Waits w' m' [])(hm:bF w' g.ms [])(hc:aG (fun k=>k=g.b∨k=g.ms) w w'):dV lo w g g.st.restart w' { g with aT:=none,cur:=false,L:=[],q:=q',m:=m',wv:=.slice none 0 0,waits:=[] }:=by
 obtain⟨x1,x2⟩:=h.RG (g':={ g with aT:=none,cur:=false,L:=[],q:=q',m:=m',wv:=.slice none 0 0,waits:=[] }) hlo rfl rfl rfl rfl hB hq hm' h1 h2 hm hc
 generalize hg':({ g with aT:=none,cur:=false,L:=[],q:=q',m:=m',wv:=.slice none 0 0,waits:=[] }:SG)=g' at x1 x2
 have er:g'.rowT++(g'.qL++(g'.oW++g'.qM))=g.rowT++(g.qL++g.qM):=by rw[← hg'];rfl
 have p2:=(SG.zJ g').symm
 rw[er] at p2
 generalize hX:(g'.aU++g'.aQ)++(g'.lH++g'.nJ)=X' at x1 x2 p2
 have p3:(X'++(g.rowT++(g.qL++(g.oW++g.qM)))).Perm ((X'++(g.rowT++(g.qL++g.qM)))++g.oW):=aY (fun p=>by simp only[aH];omega)
 have hh:=(((h.has.perm (SG.zJ g)).swap x1 x2).left p3).perm p2
 have hg:Grow w g.res w' g'.res:=by
  have y:=(x2.swap (R:=g.rowT++(g.qL++(g.oW++g.qM)))).perm (SG.zJ g).symm p3
  exact⟨y.c,fun k hk=>y.k k (Key.app.2 (Or.inl ((Key.perm p2).2 hk)))⟩
 subst hg'
 exact⟨⟨hh,h.rt,h.tp,(fun s hs=>by cases hs),Or.inl ⟨rfl,rfl,rfl⟩⟩,rfl,hg,rfl,rfl,rfl,rfl,rfl⟩
theorem Srv.newS{lo:Nat}{w w':World}{g:SG}{b' tok YZ num:Nat}(h:Srv lo w g)(hlo:lo≤w.heap.size)(hnb:w.heap.size≤b')(hB:aK w' g.b 105 ({ g with aT:=some ⟨b',tok,YZ,num,0,0,.slice none 0 0,[],.slice none 0 0,[]⟩,cur:=true,begun:=num }:SG).cells)(hS:aK w' b' 132 (fJ ⟨b',tok,YZ,num,0,0,.slice none 0 0,[],.slice none 0 0,[]⟩))(hm:bF w' g.ms [(tok,b')])(hc:aG (fun k=>k=g.b∨k=g.ms) w w'):
  dV lo w g { g.st with aT:=some ⟨tok,YZ,num,0,0,[],[]⟩,cur:=true,begun:=num } w' { g with aT:=some ⟨b',tok,YZ,num,0,0,.slice none 0 0,[],.slice none 0 0,[]⟩,cur:=true,begun:=num }:=by
 have hbl:=h.blk.lt
 have hml:=h.iW.lt
 have hmb:=h.RF
 have hql:=h.has.lt (k:=g.q) ⟨qJ g.q g.L,by unfold SG.res SG.aQ;simp,rfl⟩
 have hwl:=h.has.lt (k:=g.m) ⟨kG g.m g.L,by unfold SG.res SG.aQ;simp,rfl⟩
 have hQ:=(aA.1 h.front).2.1.keep hc (fun k hk e=>by
  rcases e with rfl | rfl
  ·rcases Key.app.1 hk with e | e
   ·exact h.q_b.1 (Key.one.1 e).symm
   ·exact h.q_b.2 (Key.one.1 e).symm
  ·exact h.VU (Key.app.2 (Or.inr hk)))
 have er:({ g with aT:=some ⟨b',tok,YZ,num,0,0,.slice none 0 0,[],.slice none 0 0,[]⟩,cur:=true,begun:=num }:SG).nJ=[iO b' 132 (fJ ⟨b',tok,YZ,num,0,0,.slice none 0 0,[],.slice none 0 0,[]⟩)]:=by
  unfold SG.nJ gy.res gy.dX gy.sD gy.oU dh
  simp
 exact h.afn (g':={ g with aT:=some ⟨b',tok,YZ,num,0,0,.slice none 0 0,[],.slice none 0 0,[]⟩,cur:=true,begun:=num }) (w':=w') (by
  rw[er]
  exact aA.2 ⟨aA.2 ⟨dH h.Oa hB (by decide),hQ,fun a ha c hc'=>by
   rw[List.mem_singleton.1 ha]
   exact(aA.1 h.front).2.2 _ (List.mem_singleton.2 rfl) c hc'⟩,aA.2 ⟨OU h.afo hm,dH (by omega) hS (by decide),fun a ha c hc'=>by
   rw[List.mem_singleton.1 ha,List.mem_singleton.1 hc']
   show g.ms≠b'
   omega⟩,fun a ha c hc' e=>by
   rcases List.mem_append.1 hc' with hc' | hc'
   ·rw[List.mem_singleton.1 hc'] at e
    have e:a.1=g.ms:=e
    refine h.VU ?_
    rw[← e]
    rcases List.mem_append.1 ha with ha | ha
    ·exact Key.app.2 (Or.inl (by rw[List.mem_singleton.1 ha];exact Key.one.2 rfl))
    ·exact Key.app.2 (Or.inr ⟨a,ha,rfl⟩)
   ·rw[List.mem_singleton.1 hc'] at e
    have e:a.1=b':=e
    rcases List.mem_append.1 ha with ha | ha
    ·rw[List.mem_singleton.1 ha] at e
     have:g.b=b':=e
     omega
    ·rcases List.mem_append.1 ha with ha | ha
     ·rw[List.mem_singleton.1 ha] at e
      have:g.q=b':=e
      omega
     ·rw[List.mem_singleton.1 ha] at e
      have:g.m=b':=e
      omega⟩) ⟨hc.mono (fun i _ hi=>by
   rcases hi with rfl | rfl
   ·exact Key.app.2 (Or.inl (Key.app.2 (Or.inl (Key.one.2 rfl))))
   ·exact Key.app.2 (Or.inr (Key.app.2 (Or.inl (Key.one.2 rfl))))),fun k hk=>by
   rw[er] at hk
   rcases Key.app.1 hk with e | e
   ·rcases Key.app.1 e with e | e
    ·exact Or.inl (Key.app.2 (Or.inl (Key.app.2 (Or.inl (Key.one.2 (show k=g.b from Key.one.1 e))))))
    ·exact Or.inl (Key.app.2 (Or.inl (Key.app.2 (Or.inr e))))
   ·rcases Key.app.1 e with e | e
    ·exact Or.inl (Key.app.2 (Or.inr (Key.app.2 (Or.inl (Key.one.2 (show k=g.ms from Key.one.1 e))))))
    ·exact Or.inr (by rw[Key.one.1 e];exact hnb)⟩ rfl rfl rfl ⟨rfl,rfl,rfl⟩ h.rt h.tp (fun s hs=>by
   have:s=⟨b',tok,YZ,num,0,0,.slice none 0 0,[],.slice none 0 0,[]⟩:=by simpa using hs
   rw[this]
   exact⟨Or.inl ⟨rfl,rfl,rfl⟩,Or.inl ⟨rfl,rfl,rfl⟩⟩) h.rw
theorem Srv.C9{lo:Nat}{w w':World}{g:SG}{s s':gy}(h:Srv lo w g)(hs:g.aT=some s)(hc:aG (fun k=>k=s.blk) w w')(hB:aK w' s.blk 132 (fJ s'))(hb:s'.blk=s.blk)(ht:s'.token=s.token)(hr:s'.fv=s.fv∧s'.feeds=s.feeds∧s'.av=s.av∧s'.answers=s.answers):dV lo w g { g.st with aT:=some s'.o } w' { g with aT:=some s' }:=by
 have hS:=h.oH hs
 have hlo:lo≤s.blk:=(hS.lt (Key.app.2 (Or.inl (Key.one.2 rfl)))).1
 have hh:Has lo w' s'.dX:=by unfold gy.dX;rw[hb];exact dH hlo hB (by decide)
 have hg:Grow w s.dX w' s'.dX:=⟨hc.mono (fun i _ hi=>by subst hi;exact Key.one.2 rfl),fun k hk=>Or.inl (Key.one.2 ((Key.one.1 hk).trans hb))⟩
 obtain⟨h1,h2,h3,h4⟩:=hr
 have e:s'.res g.oG=s'.dX++(s.sD++(s.feeds.flatMap (xJ.res s.blk g.oG)++s.oU)):=by
  unfold gy.res gy.sD gy.oU
  rw[h1,h2,h3,h4,hb]
 have hok:=h.yT hs
 exact h.lK hs (by rw[e];exact hS.swap hh hg) (by rw[e];exact hg.swap) hb ht ⟨by rw[h1,h2];exact hok.rf,by rw[h3,h4];exact hok.rn⟩
theorem VX(w:World)(b:Nat)(i0 i1 i2 i3:Value)(last:Int)(had up:Bool)(q m:Nat)(tv cv wv:Value)(ms mo:Nat)(begun given:Int)
  (h:aK w b 105 (uw i0 i1 i2 i3 last had up q m [tv,.map (some ms),cv,.int .u64 begun,wv,.int .i64 given,.map (some mo)])) :
  Calls Tryz.prog 43 #[.pointer (some ⟨b,0,none⟩)] w (fun e w'=>e=.returned (.tuple #[])∧∃ q' m',w.heap.size≤q'∧w.heap.size≤m'∧aK w' b 105 (uw i0 i1 i2 i3 last had up q' m' [tv,.map (some ms),.pointer none,.int .u64 begun,wv,.int .i64 given,.map (some mo)])∧o8 w' q' []∧Waits w' m' []∧aG (fun k=>k=b) w w'):=by
 have d11:w.cell? ⟨b,11,none⟩=some cv:=h.cell 11
 have g11:=h.frozen 11
 have hB:aK (w.setCell ⟨b,11,none⟩ (.pointer none)) b 105 (uw i0 i1 i2 i3 last had up q m [tv,.map (some ms),.pointer none,.int .u64 begun,wv,.int .i64 given,.map (some mo)]):=h.set 11 _
 have hc:aG (fun k=>k=b) w (w.setCell ⟨b,11,none⟩ (.pointer none)):=(aG.refl _ _).setCell _ _ (fun _=>rfl)
 have hz:=hc.size
 have HB:=hid hB
 clear h hB
 go_enter func43,ntmps43
 go_wp2_with fail
 refine(empty_any _ b _ i0 i1 i2 i3 last had up _ _ _ HB.out).mono ?_;rintro e w1 ⟨rfl,q',m',h1,h2,h3,h4,h5,h6⟩
 have H4:=hid h4
 have H3:=hid h3
 clear h3 h4
 go_wp2_with fail
 go_end0
 exact⟨rfl,q',m',by omega,by omega,H3.out,H4.out,h5,hc.same h6⟩
theorem abZ{lo:Nat}{w:World}{g:SG}(h:Srv lo w g)(hlo:lo≤w.heap.size)(conn:Int)(hc:g.had=false∨g.last<conn):
  Calls Tryz.prog 34 #[.pointer (some ⟨g.b,0,none⟩),.int .i64 conn] w (fun e w'=>e=.returned (.int .i64 0)∧∃ g',dV lo w g (g.st.raise conn) w' g'):=by
 have H:=hid h
 have HC:=hid hc
 clear h hc
 go_enter func34,ntmps34
 go_wp2_with fail
 refine(ED w g.b _ g.iv _ _ _ g.last g.had g.up g.q g.m _ H.out.blk conn HC.out).mono ?_;rintro e w1 ⟨rfl,q',m',h1,h2,h3,h4,h5,h6⟩
 have hT:=H.out.Ob (g':={ g with last:=conn,had:=true,up:=true,q:=q',m:=m',L:=[] }) hlo h6 h3 h1 h2 h4 h5 rfl rfl rfl ⟨rfl,rfl,rfl⟩ H.out.rt H.out.tp H.out.ss H.out.rw
 have d11:w1.cell? ⟨g.b,11,none⟩=some g.jB:=h3.cell 11
 have g11:=h3.frozen 11
 have hB:aK (w1.setCell ⟨g.b,11,none⟩ (.pointer none)) g.b 105 ({ g with last:=conn,had:=true,up:=true,q:=q',m:=m',L:=[],cur:=false }:SG).cells:=h3.set 11 _
 have hc1:aG (fun k=>k=g.b) w1 (w1.setCell ⟨g.b,11,none⟩ (.pointer none)):=(aG.refl _ _).setCell _ _ (fun _=>rfl)
 have HT:=hid (hT.trans (hT.srv.jS (g':={ g with last:=conn,had:=true,up:=true,q:=q',m:=m',L:=[],cur:=false }) hc1 hB rfl rfl rfl rfl ⟨rfl,rfl,rfl⟩ H.out.rt H.out.tp H.out.ss H.out.rw))
 clear h1 h2 h3 h4 h5 h6 hT hB hc1
 go_wp2_with fail
 go_ret
 exact⟨rfl,_,HT.out⟩
theorem VY{lo:Nat}{w:World}{g:SG}(h:Srv lo w g)(hlo:lo≤w.heap.size):
  Calls Tryz.prog 26 #[.pointer (some ⟨g.b,0,none⟩)] w (fun e w'=>e=.returned (.tuple #[])∧∃ g',dV lo w g g.st.restart w' g'):=by
 obtain⟨w1,hcl,hm1,hc1⟩:=Rx h.iW
 have d10:w.cell? ⟨g.b,10,none⟩=some (.map (some g.ms)):=h.blk.cell 10
 have hmb:=h.RF
 have hB1:=h.blk.dB hc1 (fun e=>hmb (Eq.symm e))
 have d13:w1.cell? ⟨g.b,13,none⟩=some g.wv:=hB1.cell 13
 have g13:=hB1.frozen 13
 have hc2:aG (fun k=>k=g.b) w1 (w1.setCell ⟨g.b,13,none⟩ (.slice none 0 0)):=(aG.refl _ _).setCell _ _ (fun _=>rfl)
 have hB2:aK (w1.setCell ⟨g.b,13,none⟩ (.slice none 0 0)) g.b 105 (uw g.iv (.int .i64 g.W) (.int .i64 g.D) (.int .i64 g.R) g.last g.had g.up g.q g.m [g.tv,.map (some g.ms),g.jB,.int .u64 g.begun,.slice none 0 0,.int .i64 g.given,.map (some g.mo)]):=hB1.set 13 _
 have hm2:=hm1.dB hc2 hmb
 obtain⟨w2,hw2⟩:∃ w2,w1.setCell ⟨g.b,13,none⟩ (.slice none 0 0)=w2:=⟨_,rfl⟩
 rw[hw2] at hc2 hB2 hm2
 have Hc2:=hid hc2
 have Hc1:=hid hc1
 have HB2:=hid hB2
 have Hm2:=hid hm2
 have H:=hid h
 clear h hm1 hc1 hB1 hc2 hB2 hm2
 go_enter func26,ntmps26
 go_wp2_with fail
 refine(VX _ g.b g.iv _ _ _ g.last g.had g.up g.q g.m _ _ _ g.ms g.mo _ _ HB2.out).mono ?_;rintro e w3 ⟨rfl,q',m',h1,h2,h3,h4,h5,h6⟩
 have H3:=hid h3
 have H4:=hid h4
 have H5:=hid h5
 have H6:=hid h6
 clear h3 h4 h5 h6
 go_wp2_with fail
 go_end0
 refine⟨rfl,{ g with aT:=none,cur:=false,L:=[],q:=q',m:=m',wv:=.slice none 0 0,waits:=[] },?_⟩
 have z1:=Hc1.out.size
 have z2:=Hc2.out.size
 exact H.out.VW hlo H3.out (by omega) (by omega) H4.out H5.out (Hm2.out.dB H6.out hmb) (((Hc1.out.mono (fun _ _ e=>Or.inr e)).same (Hc2.out.mono (fun _ _ e=>Or.inl e))).same (H6.out.mono (fun _ _ e=>Or.inl e)))
theorem RH{w:World}{it ms since born tok b:Nat}(hi:w.heap[it]? = some (.mapIter (some ms) since #[born] since))(hm:w.heap[ms]? = some (.map #[⟨.int .u64 tok,aJ b,born⟩] since)):(Instr.entry (.pointer (some ⟨it,0,none⟩))).run Tryz.prog w=.ok (.tuple #[.int .u64 tok,.pointer (some ⟨b,0,none⟩)]) w:=by
 simp[Instr.entry,getObj,Sem.run_bind,Sem.run,hi,hm,Result.andThen,aJ]
theorem ab1{lo:Nat}{w:World}{g:SG}(h:Srv lo w g)(hs:g.aT=none):
  Calls Tryz.prog 38 #[.pointer (some ⟨g.b,0,none⟩)] w (fun e w'=>e=.returned (.tuple #[])∧∃ g',dV lo w g (g.st.tick g.W g.D) w' g'):=by
 have hm:bF w g.ms []:=by have:=h.iW;rw[hs] at this;exact this
 obtain⟨since,hr,hx⟩:=Nh hm
 have d10:w.cell? ⟨g.b,10,none⟩=some (.map (some g.ms)):=h.blk.cell 10
 have hb1:Below w.heap.size w (w.alloc (.mapIter (some g.ms) since #[] since)):=(Below.refl _ _).alloc (Nat.le_refl _) _
 have H1:=hid (h.below hb1)
 have HN:=hid (show g.jB=.pointer none by unfold SG.jB;rw[hs];split<;>first | rfl | (rename_i e;cases e))
 have HE:=hid (show g.st.tick g.W g.D=g.st.speak g.W by unfold SP.tick;rw[show g.st.aT=none by unfold SG.st;rw[hs];rfl])
 have Hb1:=hid hb1
 clear h hm hs hb1
 go_enter func38,ntmps38
 go_wp2_with fail
 go_loopg [2,3] 1 (fun gk x y wr=>wr=w.alloc (.mapIter (some g.ms) since #[] since))
 case atStart=>rfl
 case round=>
  subst hrel
  go_wp2_with fail
  refine(Hz H1.out HN.out).mono ?_;rintro e w2 ⟨rfl,h7⟩
  have H7:=hid h7
  clear h7
  go_wp2_with fail
  go_end0
  exact⟨rfl,_,by rw[HE.out];exact H7.out.before Hb1.out⟩
theorem ab2{lo:Nat}{w:World}{g:SG}{s:gy}(h:Srv lo w g)(hs:g.aT=some s)(hS:YU g.st)(hW:g.W≤1000)(hd:s.silence+1<g.D):
  Calls Tryz.prog 38 #[.pointer (some ⟨g.b,0,none⟩)] w (fun e w'=>e=.returned (.tuple #[])∧∃ g',dV lo w g (g.st.tick g.W g.D) w' g'):=by
 have hm:bF w g.ms [(s.token,s.blk)]:=by have:=h.iW;rw[hs] at this;exact this
 have hms:=hm.lt
 obtain⟨since,born,w2,hbs,hr,hx0,hb2,hi2,hm2⟩:=Rz hm
 have d10:w.cell? ⟨g.b,10,none⟩=some (.map (some g.ms)):=h.blk.cell 10
 have h2:=h.below hb2
 have hS2:=h2.jm hs
 have c3:w2.cell? ⟨s.blk,3,none⟩=some (.int .i64 s.silence):=hS2.cell 3
 have f3:=hS2.frozen 3
 have hB3:aK (w2.setCell ⟨s.blk,3,none⟩ (.int .i64 ((s.silence:Int)+1))) s.blk 132 (fJ { s with silence:=s.silence+1 }):=hS2.set 3 _
 have hc3:aG (fun k=>k=s.blk) w2 (w2.setCell ⟨s.blk,3,none⟩ (.int .i64 ((s.silence:Int)+1))):=(aG.refl (fun k=>k=s.blk) w2).setCell ⟨s.blk,3,none⟩ _ (fun _=>rfl)
 obtain⟨w3,hw3⟩:∃ w3,w2.setCell ⟨s.blk,3,none⟩ (.int .i64 ((s.silence:Int)+1))=w3:=⟨_,rfl⟩
 rw[hw3] at hB3 hc3
 have hsb:s.blk<w.heap.size:=(h.jm hs).lt
 have hmsb:g.ms≠s.blk:=fun e=>by
  have h1:w2.heap[s.blk]? = _:=hS2
  rw[← e,hm2] at h1
  cases h1
 have hi3:w3.drew.heap[w.heap.size]? = some (.mapIter (some g.ms) since #[born] since):=(hc3.block w.heap.size (by have:=(Array.getElem?_eq_some_iff.1 hi2).1;exact this) (by omega)).trans hi2
 have IV:w3.drew.heap[g.ms]? = some (.map #[⟨.int .u64 s.token,aJ s.blk,born⟩] since):=(hc3.block g.ms (Nat.lt_of_lt_of_le hms hb2.size) hmsb).trans hm2
 have k3:w3.cell? ⟨s.blk,3,none⟩=some (.int .i64 ((s.silence:Int)+1)):=hB3.cell 3
 have kF:=(dV.refl h hb2).trans (h2.C9 (s':={ s with silence:=s.silence+1 }) hs hc3 hB3 rfl rfl ⟨rfl,rfl,rfl,rfl⟩)
 have k2:w3.cell? ⟨g.b,2,none⟩=some (.int .i64 g.D):=kF.srv.blk.cell 2
 have hT:=kF.below (Below.refl _ w3).drew
 clear kF
 have HT:=hid hT
 have hsl:=(hS.sl s.o (SG.oAt hs)).1
 have hsl:s.silence≤1000000000000:=hsl
 have hen:=RH hi2 hm2
 have hx:∀ ty,(Instr.next (.pointer (some ⟨w.heap.size,0,none⟩)) false ty).run Tryz.prog (w.alloc (.mapIter (some g.ms) since #[] since))=.ok (.tuple #[.bool true,.int .u64 s.token,.pointer (some ⟨s.blk,0,none⟩)]) w2:=hx0
 clear hx0
 have hxe:=fun ty=>VT (ty:=ty) hi3 (Or.inr ⟨_,_,_,IV⟩) hbs
 have hlt:((s.silence:Int)+1<(g.D:Int)):=by omega
 have HP:=hid (hS.toSSp.mono (p':=({ g with aT:=some { s with silence:=s.silence+1 } }:SG).st) rfl (fun o' ho'=>⟨s.o,SG.oAt hs,by cases ho';exact⟨rfl,rfl⟩⟩))
 have HE:=hid (show g.st.tick g.W g.D=({ g with aT:=some { s with silence:=s.silence+1 } }:SG).st.speak g.W by
  unfold SP.tick
  rw[SG.oAt hs]
  show (if s.silence+1<g.D then _ else _:SP).speak g.W=_
  rw[if_pos hd]
  rfl)
 clear h hm hs hS h2 hS2 hc3 hB3 hT hi2 hm2 hi3 IV hb2
 go_enter func38,ntmps38
 go_wp2_with fail
 go_loopg [2,3] 2 (fun gk x y wr=>(gk=2∧wr=w.alloc (.mapIter (some g.ms) since #[] since))∨(gk=1∧wr=w3.drew))
 case atStart=>exact Or.inl ⟨rfl,rfl⟩
 case round=>
  rcases hrel with⟨rfl,rfl⟩ | ⟨rfl,rfl⟩
  ·go_wp2_with fail
   go_region
   all_goals
    go_wp2_with fail
    go_roundg 1
    case rel=>exact Or.inr ⟨rfl,rfl⟩
    case measure=>omega
  ·go_wp2_with fail
   refine(VQ HT.out.srv HP.out hW).mono ?_;rintro e w4 ⟨rfl,g4,h4,_⟩
   have H4:=hid h4
   clear h4
   go_wp2_with fail
   go_end0
   exact⟨rfl,g4,by rw[HE.out];exact HT.out.trans H4.out⟩
theorem RI{lo:Nat}{w:World}{g:SG}(h:Srv lo w g)(p:aP)(hs:g.aT=none):
  Calls Tryz.prog 167 #[.pointer (some ⟨g.b,0,none⟩),.agg #[.int .u8 p.kind,.int .u64 p.token,.int .u64 p.session,.int .u64 p.number,.int .u64 p.position,.string p.data]] w (fun e w'=>e=.returned (.pointer none)∧dV lo w g (g.st.post (fK 13 p.token p.session 0 0)) w' { g with L:=bU g.up g.L (fK 13 p.token p.session 0 0) }):=by
 have hbw0:Below w.heap.size w (w.alloc (.cells #[.int .u8 p.kind,.int .u64 p.token,.int .u64 p.session,.int .u64 p.number,.int .u64 p.position,.string p.data] 124)):=(Below.refl _ _).alloc (Nat.le_refl _) _
 have au:aK (w.alloc (.cells #[.int .u8 p.kind,.int .u64 p.token,.int .u64 p.session,.int .u64 p.number,.int .u64 p.position,.string p.data] 124)) w.heap.size 124 [.int .u8 p.kind,.int .u64 p.token,.int .u64 p.session,.int .u64 p.number,.int .u64 p.position,.string p.data]:=heap_alloc_new w _
 obtain⟨w0,dw⟩:∃ w0,w.alloc (.cells #[.int .u8 p.kind,.int .u64 p.token,.int .u64 p.session,.int .u64 p.number,.int .u64 p.position,.string p.data] 124)=w0:=⟨_,rfl⟩
 rw[dw] at hbw0 au
 have e0:w0.cell? ⟨w.heap.size,0,none⟩=some (.int .u8 p.kind):=au.cell 0
 have e1:w0.cell? ⟨w.heap.size,1,none⟩=some (.int .u64 p.token):=au.cell 1
 have e2:w0.cell? ⟨w.heap.size,2,none⟩=some (.int .u64 p.session):=au.cell 2
 have e3:w0.cell? ⟨w.heap.size,3,none⟩=some (.int .u64 p.number):=au.cell 3
 have e4:w0.cell? ⟨w.heap.size,4,none⟩=some (.int .u64 p.position):=au.cell 4
 have e5:w0.cell? ⟨w.heap.size,5,none⟩=some (.string p.data):=au.cell 5
 have h0:=h.below hbw0
 have hm:bF w0 g.ms []:=by have:=h0.iW;rw[hs] at this;exact this
 have d10:w0.cell? ⟨g.b,10,none⟩=some (.map (some g.ms)):=h0.blk.cell 10
 have hlk:=iC hm p.token
 have hlk2:=iC hm.drew p.token
 have H0:=hid h0
 have Hb0:=hid hbw0
 have HB0:=hid au
 clear h h0 hm hs hbw0 au
 go_enter func167,ntmps167
 go_wp2_with fail
 go_region
 all_goals
  go_wp2_with fail
  go_quiet (fail)
  obtain⟨wz,hwz⟩:∃ wz,w0.drew.drewN nq=wz:=⟨_,rfl⟩
  have hbz:=below_drewN (Below.refl w0.heap.size w0).drew nq
  rw[hwz] at hbz ⊢
  have HZ:=hid (H0.out.below hbz)
  have Nj:=hid (HB0.out.below hbz)
  have Nk:=hid (Hb0.out.trans (hbz.mono Hb0.out.size))
  have y1:wz.cell? ⟨w.heap.size,1,none⟩=some (.int .u64 p.token):=Nj.out.cell 1
  have y2:wz.cell? ⟨w.heap.size,2,none⟩=some (.int .u64 p.session):=Nj.out.cell 2
  have RJ:=hid hbz
  clear hwz hbz
  go_wp2_with fail
  go_region_with (go_at_call 71;refine(HZ.out.drew.post (fK 13 p.token p.session 0 0)).mono ?_;rintro e w1 ⟨rfl,h1,_⟩;have H1:=hid h1;clear h1)
  all_goals
   go_wp2_with fail
   go_ret
   exact⟨rfl,H1.out.before Nk.out.drew⟩
theorem Nl{lo:Nat}{w:World}{g:SG}{s:gy}(h:Srv lo w g)(p:aP)(hs:g.aT=some s)(ht:s.token=p.token)(hn:s.number≠p.session):
  Calls Tryz.prog 167 #[.pointer (some ⟨g.b,0,none⟩),.agg #[.int .u8 p.kind,.int .u64 p.token,.int .u64 p.session,.int .u64 p.number,.int .u64 p.position,.string p.data]] w (fun e w'=>e=.returned (.pointer none)∧dV lo w g (g.st.post (fK 13 p.token p.session 0 0)) w' { g with L:=bU g.up g.L (fK 13 p.token p.session 0 0) }):=by
 have hbw0:Below w.heap.size w (w.alloc (.cells #[.int .u8 p.kind,.int .u64 p.token,.int .u64 p.session,.int .u64 p.number,.int .u64 p.position,.string p.data] 124)):=(Below.refl _ _).alloc (Nat.le_refl _) _
 have au:aK (w.alloc (.cells #[.int .u8 p.kind,.int .u64 p.token,.int .u64 p.session,.int .u64 p.number,.int .u64 p.position,.string p.data] 124)) w.heap.size 124 [.int .u8 p.kind,.int .u64 p.token,.int .u64 p.session,.int .u64 p.number,.int .u64 p.position,.string p.data]:=heap_alloc_new w _
 obtain⟨w0,dw⟩:∃ w0,w.alloc (.cells #[.int .u8 p.kind,.int .u64 p.token,.int .u64 p.session,.int .u64 p.number,.int .u64 p.position,.string p.data] 124)=w0:=⟨_,rfl⟩
 rw[dw] at hbw0 au
 have e0:w0.cell? ⟨w.heap.size,0,none⟩=some (.int .u8 p.kind):=au.cell 0
 have e1:w0.cell? ⟨w.heap.size,1,none⟩=some (.int .u64 p.token):=au.cell 1
 have e2:w0.cell? ⟨w.heap.size,2,none⟩=some (.int .u64 p.session):=au.cell 2
 have e3:w0.cell? ⟨w.heap.size,3,none⟩=some (.int .u64 p.number):=au.cell 3
 have e4:w0.cell? ⟨w.heap.size,4,none⟩=some (.int .u64 p.position):=au.cell 4
 have e5:w0.cell? ⟨w.heap.size,5,none⟩=some (.string p.data):=au.cell 5
 have h0:=h.below hbw0
 have hm:bF w0 g.ms [(p.token,s.blk)]:=by have:=h0.iW;rw[hs] at this;rw[← ht];exact this
 have d10:w0.cell? ⟨g.b,10,none⟩=some (.map (some g.ms)):=h0.blk.cell 10
 have hlk:(Instr.lookup 100 (.map (some g.ms)) (.int .u64 p.token) false).run Tryz.prog w0=.ok (.pointer (some ⟨s.blk,0,none⟩)) w0:=dA hm
 have hlk2:(Instr.lookup 100 (.map (some g.ms)) (.int .u64 p.token) false).run Tryz.prog w0.drew=.ok (.pointer (some ⟨s.blk,0,none⟩)) w0.drew:=dA hm.drew
 have c2:w0.cell? ⟨s.blk,2,none⟩=some (.int .u64 s.number):=(h0.jm hs).cell 2
 have H0:=hid h0
 have Hb0:=hid hbw0
 have HB0:=hid au
 have Hs:=hid hs
 have hb:((s.number:Int) != (p.session:Int))=true:=by simp;omega
 clear h h0 hm hs ht hn hbw0 au
 go_enter func167,ntmps167
 go_wp2_with fail
 go_region
 all_goals
  go_wp2_with fail
  go_quiet (fail)
  obtain⟨wz,hwz⟩:∃ wz,w0.drew.drewN nq=wz:=⟨_,rfl⟩
  have hbz:=below_drewN (Below.refl w0.heap.size w0).drew nq
  rw[hwz] at hbz ⊢
  have HZ:=hid (H0.out.below hbz)
  have Nj:=hid (HB0.out.below hbz)
  have Nk:=hid (Hb0.out.trans (hbz.mono Hb0.out.size))
  have y1:wz.cell? ⟨w.heap.size,1,none⟩=some (.int .u64 p.token):=Nj.out.cell 1
  have y2:wz.cell? ⟨w.heap.size,2,none⟩=some (.int .u64 p.session):=Nj.out.cell 2
  have RJ:=hid hbz
  clear hwz hbz
  go_wp2_with fail
  go_region_with (go_at_call 71;refine(HZ.out.drew.post (fK 13 p.token p.session 0 0)).mono ?_;rintro e w1 ⟨rfl,h1,_⟩;have H1:=hid h1;clear h1)
  all_goals
   go_wp2_with fail
   go_ret
   exact⟨rfl,H1.out.before Nk.out.drew⟩
theorem SP.Ie{W:Nat}{s:SP}{p:aP}(h:∀ o,s.aT=some o→o.number≠p.session):s.aW W p=(s.post (fK 13 p.token p.session 0 0),false):=by
 unfold SP.aW
 cases hs:s.aT with
 | none=>rfl
 | some o=>simp only[if_neg (h o hs)]
theorem SP.uQ{W:Nat}{s:SP}{p:aP}{o:IU}(hs:s.aT=some o)(h:o.number=p.session):s.aW W p=(if s.cur then s else { s with cur:=true }.speak W,true):=by
 unfold SP.aW
 rw[hs]
 simp only[if_pos h]
theorem V3{lo:Nat}{w:World}{g:SG}{s:gy}(h:Srv lo w g)(p:aP)(hs:g.aT=some s)(ht:s.token=p.token)(hn:s.number=p.session)(hcur:g.cur=true):
  Calls Tryz.prog 167 #[.pointer (some ⟨g.b,0,none⟩),.agg #[.int .u8 p.kind,.int .u64 p.token,.int .u64 p.session,.int .u64 p.number,.int .u64 p.position,.string p.data]] w (fun e w'=>e=.returned (.pointer (some ⟨s.blk,0,none⟩))∧∃ g',dV lo w g (g.st.aW g.W p).1 w' g'∧g'.aT.map (fun s=>s.blk)=some s.blk):=by
 have hbw0:Below w.heap.size w (w.alloc (.cells #[.int .u8 p.kind,.int .u64 p.token,.int .u64 p.session,.int .u64 p.number,.int .u64 p.position,.string p.data] 124)):=(Below.refl _ _).alloc (Nat.le_refl _) _
 have au:aK (w.alloc (.cells #[.int .u8 p.kind,.int .u64 p.token,.int .u64 p.session,.int .u64 p.number,.int .u64 p.position,.string p.data] 124)) w.heap.size 124 [.int .u8 p.kind,.int .u64 p.token,.int .u64 p.session,.int .u64 p.number,.int .u64 p.position,.string p.data]:=heap_alloc_new w _
 obtain⟨w0,dw⟩:∃ w0,w.alloc (.cells #[.int .u8 p.kind,.int .u64 p.token,.int .u64 p.session,.int .u64 p.number,.int .u64 p.position,.string p.data] 124)=w0:=⟨_,rfl⟩
 rw[dw] at hbw0 au
 have e0:w0.cell? ⟨w.heap.size,0,none⟩=some (.int .u8 p.kind):=au.cell 0
 have e1:w0.cell? ⟨w.heap.size,1,none⟩=some (.int .u64 p.token):=au.cell 1
 have e2:w0.cell? ⟨w.heap.size,2,none⟩=some (.int .u64 p.session):=au.cell 2
 have e3:w0.cell? ⟨w.heap.size,3,none⟩=some (.int .u64 p.number):=au.cell 3
 have e4:w0.cell? ⟨w.heap.size,4,none⟩=some (.int .u64 p.position):=au.cell 4
 have e5:w0.cell? ⟨w.heap.size,5,none⟩=some (.string p.data):=au.cell 5
 have h0:=h.below hbw0
 have hm:bF w0 g.ms [(p.token,s.blk)]:=by have:=h0.iW;rw[hs] at this;rw[← ht];exact this
 have d10:w0.cell? ⟨g.b,10,none⟩=some (.map (some g.ms)):=h0.blk.cell 10
 have hlk:(Instr.lookup 100 (.map (some g.ms)) (.int .u64 p.token) false).run Tryz.prog w0=.ok (.pointer (some ⟨s.blk,0,none⟩)) w0:=dA hm
 have hlk2:(Instr.lookup 100 (.map (some g.ms)) (.int .u64 p.token) false).run Tryz.prog w0.drew=.ok (.pointer (some ⟨s.blk,0,none⟩)) w0.drew:=dA hm.drew
 have c2:w0.cell? ⟨s.blk,2,none⟩=some (.int .u64 s.number):=(h0.jm hs).cell 2
 have H0:=hid h0
 have Hb0:=hid hbw0
 have HB0:=hid au
 have Hs:=hid hs
 have hb:((s.number:Int) != (p.session:Int))=false:=by simp;omega
 have HE:=hid (show (g.st.aW g.W p).1=g.st by rw[SP.uQ (SG.oAt hs) hn];show (if g.cur=true then _ else _)=_;rw[if_pos hcur])
 have HC:=hid (show g.jB=.pointer (some ⟨s.blk,0,none⟩) by unfold SG.jB;rw[hcur,hs];rfl)
 have hq:∀ w',(binOp .neq 101 (.pointer (some ⟨s.blk,0,none⟩)) (.pointer (some ⟨s.blk,0,none⟩))).run Tryz.prog w'=.ok (.bool false) w':=fun w'=>Ib w' _
 clear h h0 hm hs ht hn hbw0 au
 go_enter func167,ntmps167
 go_wp2_with fail
 go_region
 all_goals
  go_wp2_with fail
  go_quiet (fail)
  obtain⟨wz,hwz⟩:∃ wz,w0.drew.drewN nq=wz:=⟨_,rfl⟩
  have hbz:=below_drewN (Below.refl w0.heap.size w0).drew nq
  rw[hwz] at hbz ⊢
  have HZ:=hid (H0.out.below hbz)
  have Nj:=hid (HB0.out.below hbz)
  have Nk:=hid (Hb0.out.trans (hbz.mono Hb0.out.size))
  have y1:wz.cell? ⟨w.heap.size,1,none⟩=some (.int .u64 p.token):=Nj.out.cell 1
  have y2:wz.cell? ⟨w.heap.size,2,none⟩=some (.int .u64 p.session):=Nj.out.cell 2
  have RJ:=hid hbz
  clear hwz hbz
  have y11:wz.cell? ⟨g.b,11,none⟩=some (.pointer (some ⟨s.blk,0,none⟩)):=(show wz.cell? ⟨g.b,11,none⟩=some g.jB from HZ.out.blk.cell 11).trans (by rw[HC.out])
  go_wp2_with fail
  go_ret
  exact⟨rfl,g,by rw[HE.out];exact(dV.refl H0.out RJ.out).before Hb0.out,by rw[Hs.out];rfl⟩
theorem V4{lo:Nat}{w:World}{g:SG}{s:gy}(h:Srv lo w g)(p:aP)(hS:SSp g.st)(hW:g.W≤1000)(hs:g.aT=some s)(ht:s.token=p.token)(hn:s.number=p.session)(hcur:g.cur=false):
  Calls Tryz.prog 167 #[.pointer (some ⟨g.b,0,none⟩),.agg #[.int .u8 p.kind,.int .u64 p.token,.int .u64 p.session,.int .u64 p.number,.int .u64 p.position,.string p.data]] w (fun e w'=>e=.returned (.pointer (some ⟨s.blk,0,none⟩))∧∃ g',dV lo w g (g.st.aW g.W p).1 w' g'∧g'.aT.map (fun s=>s.blk)=some s.blk):=by
 have hbw0:Below w.heap.size w (w.alloc (.cells #[.int .u8 p.kind,.int .u64 p.token,.int .u64 p.session,.int .u64 p.number,.int .u64 p.position,.string p.data] 124)):=(Below.refl _ _).alloc (Nat.le_refl _) _
 have au:aK (w.alloc (.cells #[.int .u8 p.kind,.int .u64 p.token,.int .u64 p.session,.int .u64 p.number,.int .u64 p.position,.string p.data] 124)) w.heap.size 124 [.int .u8 p.kind,.int .u64 p.token,.int .u64 p.session,.int .u64 p.number,.int .u64 p.position,.string p.data]:=heap_alloc_new w _
 obtain⟨w0,dw⟩:∃ w0,w.alloc (.cells #[.int .u8 p.kind,.int .u64 p.token,.int .u64 p.session,.int .u64 p.number,.int .u64 p.position,.string p.data] 124)=w0:=⟨_,rfl⟩
 rw[dw] at hbw0 au
 have e0:w0.cell? ⟨w.heap.size,0,none⟩=some (.int .u8 p.kind):=au.cell 0
 have e1:w0.cell? ⟨w.heap.size,1,none⟩=some (.int .u64 p.token):=au.cell 1
 have e2:w0.cell? ⟨w.heap.size,2,none⟩=some (.int .u64 p.session):=au.cell 2
 have e3:w0.cell? ⟨w.heap.size,3,none⟩=some (.int .u64 p.number):=au.cell 3
 have e4:w0.cell? ⟨w.heap.size,4,none⟩=some (.int .u64 p.position):=au.cell 4
 have e5:w0.cell? ⟨w.heap.size,5,none⟩=some (.string p.data):=au.cell 5
 have h0:=h.below hbw0
 have hm:bF w0 g.ms [(p.token,s.blk)]:=by have:=h0.iW;rw[hs] at this;rw[← ht];exact this
 have d10:w0.cell? ⟨g.b,10,none⟩=some (.map (some g.ms)):=h0.blk.cell 10
 have hlk:(Instr.lookup 100 (.map (some g.ms)) (.int .u64 p.token) false).run Tryz.prog w0=.ok (.pointer (some ⟨s.blk,0,none⟩)) w0:=dA hm
 have hlk2:(Instr.lookup 100 (.map (some g.ms)) (.int .u64 p.token) false).run Tryz.prog w0.drew=.ok (.pointer (some ⟨s.blk,0,none⟩)) w0.drew:=dA hm.drew
 have c2:w0.cell? ⟨s.blk,2,none⟩=some (.int .u64 s.number):=(h0.jm hs).cell 2
 have H0:=hid h0
 have Hb0:=hid hbw0
 have HB0:=hid au
 have Hs:=hid hs
 have hb:((s.number:Int) != (p.session:Int))=false:=by simp;omega
 have HE:=hid (show (g.st.aW g.W p).1=({ g with cur:=true }:SG).st.speak g.W by rw[SP.uQ (SG.oAt hs) hn];show (if g.cur=true then _ else _)=_;rw[if_neg (by rw[hcur];simp)];rfl)
 have HC:=hid (show g.jB=.pointer none by unfold SG.jB;rw[hcur])
 have HC2:=hid (show ({ g with cur:=true }:SG).jB=.pointer (some ⟨s.blk,0,none⟩) by unfold SG.jB;rw[show ({ g with cur:=true }:SG).aT=some s from hs];rfl)
 have HP:=hid (show SSp ({ g with cur:=true }:SG).st from hS.mono rfl (fun o' ho'=>⟨o',ho',rfl,rfl⟩))
 have hq:∀ w',(binOp .neq 101 (.pointer none) (.pointer (some ⟨s.blk,0,none⟩))).run Tryz.prog w'=.ok (.bool true) w':=fun w'=>Ic w' _
 clear h h0 hm hs ht hn hbw0 au
 go_enter func167,ntmps167
 go_wp2_with fail
 go_region
 all_goals
  go_wp2_with fail
  go_quiet (fail)
  obtain⟨wz,hwz⟩:∃ wz,w0.drew.drewN nq=wz:=⟨_,rfl⟩
  have hbz:=below_drewN (Below.refl w0.heap.size w0).drew nq
  rw[hwz] at hbz ⊢
  have HZ:=hid (H0.out.below hbz)
  have Nj:=hid (HB0.out.below hbz)
  have Nk:=hid (Hb0.out.trans (hbz.mono Hb0.out.size))
  have y1:wz.cell? ⟨w.heap.size,1,none⟩=some (.int .u64 p.token):=Nj.out.cell 1
  have y2:wz.cell? ⟨w.heap.size,2,none⟩=some (.int .u64 p.session):=Nj.out.cell 2
  have RJ:=hid hbz
  clear hwz hbz
  have y11:wz.cell? ⟨g.b,11,none⟩=some (.pointer none):=(show wz.cell? ⟨g.b,11,none⟩=some g.jB from HZ.out.blk.cell 11).trans (by rw[HC.out])
  have v11:=HZ.out.blk.frozen 11
  have hc1:aG (fun k=>k=g.b) wz (wz.setCell ⟨g.b,11,none⟩ (.pointer (some ⟨s.blk,0,none⟩))):=(aG.refl _ _).setCell _ _ (fun _=>rfl)
  have hB1:aK (wz.setCell ⟨g.b,11,none⟩ (.pointer (some ⟨s.blk,0,none⟩))) g.b 105 ({ g with cur:=true }:SG).cells:=by
   have:=HZ.out.blk.set 11 (.pointer (some ⟨s.blk,0,none⟩))
   show aK _ _ _ (uw g.iv _ _ _ g.last g.had g.up g.q g.m [g.tv,.map (some g.ms),({ g with cur:=true }:SG).jB,.int .u64 g.begun,g.wv,.int .i64 g.given,.map (some g.mo)])
   rw[HC2.out]
   exact this
  have HT:=hid ((dV.refl H0.out RJ.out).trans (HZ.out.jS (g':={ g with cur:=true }) hc1 hB1 rfl rfl rfl rfl ⟨rfl,rfl,rfl⟩ HZ.out.rt HZ.out.tp HZ.out.ss HZ.out.rw))
  clear hc1 hB1
  go_wp2_with fail
  refine(VQ HT.out.srv HP.out hW).mono ?_;rintro e w5 ⟨rfl,g5,h5,hk5⟩
  have H5:=hid h5
  have HK5:=hid hk5
  clear h5 hk5
  go_wp2_with fail
  go_ret
  exact⟨rfl,g5,by rw[HE.out];exact(HT.out.before Hb0.out).trans H5.out,by rw[HK5.out];show g.aT.map _=_;rw[Hs.out];rfl⟩
theorem Df{lo:Nat}{w:World}{g:SG}{s:gy}(h:Srv lo w g)(p:aP)(hS:SSp g.st)(hW:g.W≤1000)(hs:g.aT=some s)(ht:s.token=p.token)(hn:s.number=p.session):
  Calls Tryz.prog 167 #[.pointer (some ⟨g.b,0,none⟩),.agg #[.int .u8 p.kind,.int .u64 p.token,.int .u64 p.session,.int .u64 p.number,.int .u64 p.position,.string p.data]] w (fun e w'=>e=.returned (.pointer (some ⟨s.blk,0,none⟩))∧∃ g',dV lo w g (g.st.aW g.W p).1 w' g'∧g'.aT.map (fun s=>s.blk)=some s.blk):=by
 cases hc:g.cur with
 | true=>exact V3 h p hs ht hn hc
 | false=>exact V4 h p hS hW hs ht hn hc
theorem Y0{lo:Nat}{w:World}{g:SG}(h:Srv lo w g)(p:aP)(hn:∀ s,g.aT=some s→s.token=p.token∧s.number≠p.session):
  Calls Tryz.prog 167 #[.pointer (some ⟨g.b,0,none⟩),.agg #[.int .u8 p.kind,.int .u64 p.token,.int .u64 p.session,.int .u64 p.number,.int .u64 p.position,.string p.data]] w (fun e w'=>e=.returned (.pointer none)∧dV lo w g (g.st.post (fK 13 p.token p.session 0 0)) w' { g with L:=bU g.up g.L (fK 13 p.token p.session 0 0) }):=by
 rcases Option.eq_none_or_eq_some g.aT with hs | ⟨s,hs⟩
 ·exact RI h p hs
 ·exact Nl h p hs (hn s hs).1 (hn s hs).2
theorem SG.OV{g:SG}{b:Nat}(h:g.aT.map (fun s=>s.blk)=some b):∃ s,g.aT=some s∧s.blk=b:=by
 cases hs:g.aT with
 | none=>rw[hs] at h;cases h
 | some s=>rw[hs] at h;exact⟨s,rfl,by simpa using h⟩
def SP.oI(s:SP)(p:aP):Bool:=match s.aT with
 | some o=>decide (o.number=p.session)
 | none=>false
theorem SP.jM(W:Nat)(s:SP)(p:aP):(s.aW W p).2=s.oI p:=by
 unfold SP.aW SP.oI
 cases s.aT with
 | none=>rfl
 | some o=>
  by_cases h:o.number=p.session
  ·simp[h]
  ·simp[h]
theorem SP.Ap{W:Nat}{s:SP}{p:aP}(h:s.oI p=false):(s.aW W p).1=s.post (fK 13 p.token p.session 0 0):=by
 rw[SP.Ie]
 intro o ho e
 unfold SP.oI at h
 rw[ho] at h
 simp[e] at h
theorem SG.Ap{g:SG}{p:aP}(ht:∀ s,g.aT=some s→s.token=p.token)(h:g.st.oI p=false):∀ s,g.aT=some s→s.token=p.token∧s.number≠p.session:=fun s hs=>⟨ht s hs,fun e=>by
 unfold SP.oI at h
 rw[SG.oAt hs] at h
 have:s.o.number=p.session:=e
 simp[this] at h⟩
theorem SG.Dh{g:SG}{p:aP}(h:g.st.oI p=true):∃ s,g.aT=some s∧s.number=p.session:=by
 unfold SP.oI at h
 cases hs:g.aT with
 | none=>rw[show g.st.aT=none by unfold SG.st;rw[hs];rfl] at h;cases h
 | some s=>
  rw[SG.oAt hs] at h
  exact⟨s,rfl,of_decide_eq_true h⟩
theorem Y1{lo:Nat}{w:World}{g:SG}(h:Srv lo w g)(p:aP)(ht:∀ s,g.aT=some s→s.token=p.token)(ho:g.st.oI p=false):
  Calls Tryz.prog 121 #[.pointer (some ⟨g.b,0,none⟩),.agg #[.int .u8 p.kind,.int .u64 p.token,.int .u64 p.session,.int .u64 p.number,.int .u64 p.position,.string p.data]] w (fun e w'=>e=.returned (.tuple #[])∧∃ g',dV lo w g (g.st.here g.W p) w' g'):=by
 have hbw0:Below w.heap.size w (w.alloc (.cells #[.int .u8 p.kind,.int .u64 p.token,.int .u64 p.session,.int .u64 p.number,.int .u64 p.position,.string p.data] 124)):=(Below.refl _ _).alloc (Nat.le_refl _) _
 have au:aK (w.alloc (.cells #[.int .u8 p.kind,.int .u64 p.token,.int .u64 p.session,.int .u64 p.number,.int .u64 p.position,.string p.data] 124)) w.heap.size 124 [.int .u8 p.kind,.int .u64 p.token,.int .u64 p.session,.int .u64 p.number,.int .u64 p.position,.string p.data]:=heap_alloc_new w _
 obtain⟨w0,dw⟩:∃ w0,w.alloc (.cells #[.int .u8 p.kind,.int .u64 p.token,.int .u64 p.session,.int .u64 p.number,.int .u64 p.position,.string p.data] 124)=w0:=⟨_,rfl⟩
 rw[dw] at hbw0 au
 have e0:w0.cell? ⟨w.heap.size,0,none⟩=some (.int .u8 p.kind):=au.cell 0
 have e1:w0.cell? ⟨w.heap.size,1,none⟩=some (.int .u64 p.token):=au.cell 1
 have e2:w0.cell? ⟨w.heap.size,2,none⟩=some (.int .u64 p.session):=au.cell 2
 have e3:w0.cell? ⟨w.heap.size,3,none⟩=some (.int .u64 p.number):=au.cell 3
 have e4:w0.cell? ⟨w.heap.size,4,none⟩=some (.int .u64 p.position):=au.cell 4
 have e5:w0.cell? ⟨w.heap.size,5,none⟩=some (.string p.data):=au.cell 5
 have HN:=hid (SG.Ap ht ho)
 have H0:=hid (h.below hbw0)
 have Hb0:=hid hbw0
 have HE:=hid (show g.st.here g.W p=g.st.post (fK 13 p.token p.session 0 0) by unfold SP.here;simp only[SP.jM,ho,Bool.false_eq_true,if_false,SP.Ap ho])
 clear h ht ho hbw0 au
 go_enter func121,ntmps121
 go_wp2_with fail
 refine(Y0 H0.out p HN.out).mono ?_;rintro e w1 ⟨rfl,h1⟩;have H1:=hid (h1.before Hb0.out);clear h1
 go_wp2_with fail
 go_end0
 exact⟨rfl,_,by rw[HE.out];exact H1.out⟩
theorem V5{lo:Nat}{w:World}{g:SG}(h:Srv lo w g)(p:aP)(hS:SSp g.st)(hW:g.W≤1000)(ht:∀ s,g.aT=some s→s.token=p.token)(ho:g.st.oI p=true):
  Calls Tryz.prog 121 #[.pointer (some ⟨g.b,0,none⟩),.agg #[.int .u8 p.kind,.int .u64 p.token,.int .u64 p.session,.int .u64 p.number,.int .u64 p.position,.string p.data]] w (fun e w'=>e=.returned (.tuple #[])∧∃ g',dV lo w g (g.st.here g.W p) w' g'):=by
 have hbw0:Below w.heap.size w (w.alloc (.cells #[.int .u8 p.kind,.int .u64 p.token,.int .u64 p.session,.int .u64 p.number,.int .u64 p.position,.string p.data] 124)):=(Below.refl _ _).alloc (Nat.le_refl _) _
 have au:aK (w.alloc (.cells #[.int .u8 p.kind,.int .u64 p.token,.int .u64 p.session,.int .u64 p.number,.int .u64 p.position,.string p.data] 124)) w.heap.size 124 [.int .u8 p.kind,.int .u64 p.token,.int .u64 p.session,.int .u64 p.number,.int .u64 p.position,.string p.data]:=heap_alloc_new w _
 obtain⟨w0,dw⟩:∃ w0,w.alloc (.cells #[.int .u8 p.kind,.int .u64 p.token,.int .u64 p.session,.int .u64 p.number,.int .u64 p.position,.string p.data] 124)=w0:=⟨_,rfl⟩
 rw[dw] at hbw0 au
 have e0:w0.cell? ⟨w.heap.size,0,none⟩=some (.int .u8 p.kind):=au.cell 0
 have e1:w0.cell? ⟨w.heap.size,1,none⟩=some (.int .u64 p.token):=au.cell 1
 have e2:w0.cell? ⟨w.heap.size,2,none⟩=some (.int .u64 p.session):=au.cell 2
 have e3:w0.cell? ⟨w.heap.size,3,none⟩=some (.int .u64 p.number):=au.cell 3
 have e4:w0.cell? ⟨w.heap.size,4,none⟩=some (.int .u64 p.position):=au.cell 4
 have e5:w0.cell? ⟨w.heap.size,5,none⟩=some (.string p.data):=au.cell 5
 obtain⟨s,hs,hn⟩:=SG.Dh ho
 have ht:=ht s hs
 have H0:=hid (h.below hbw0)
 have Hb0:=hid hbw0
 have Hs:=hid hs
 have Ht:=hid ht
 have Hn:=hid hn
 have HS:=hid hS
 have HO:=hid ho
 clear h hS ht hs hn ho hbw0 au
 go_enter func121,ntmps121
 go_wp2_with fail
 refine(Df (s:=s) H0.out p HS.out hW Hs.out Ht.out Hn.out).mono ?_;rintro e w1 ⟨rfl,g1,h1,hk1⟩;have H1:=hid (h1.before Hb0.out);have HK1:=hid hk1;clear h1 hk1
 obtain⟨s1,hs1,hb1⟩:=SG.OV HK1.out
 have Np:=hid hs1
 have hgb:g1.b=g.b:=H1.out.b
 have VP:=hid (H1.out.srv.jm hs1)
 rw[← hb1]
 have BP:=hid (show (g.st.aW g.W p).1.aT=some s1.o from(congrArg SP.aT H1.out.st).symm.trans (SG.oAt hs1))
 clear hs1 hb1
 have HE:=hid (show g.st.here g.W p=g1.st.post s1.o.heard by
  unfold SP.here
  simp only[SP.jM,HO.out,if_true,BP.out]
  rw[H1.out.st])
 rw[← hgb]
 clear hgb
 go_wp2_with fail
 go_region_with (first | (go_at_call 81;refine(Hy (w:=w1.drew) (s:=s1) VP.out).mono ?_;rintro e w2 ⟨rfl,hb2⟩) | (go_at_call 71;refine((H1.out.srv.drew.below hb2).post (fK 7 s1.token s1.number s1.next 0)).mono ?_;rintro e w3 ⟨rfl,h3,_⟩;have H3:=hid h3;clear h3))
 all_goals
  go_wp2_with fail
  go_end0
  exact⟨rfl,_,by rw[HE.out];exact H1.out.trans (H3.out.before ((Below.refl _ w1).drew.trans hb2))⟩
end Go.Proofs.YtolfcabodiphmaaGreatDoor
