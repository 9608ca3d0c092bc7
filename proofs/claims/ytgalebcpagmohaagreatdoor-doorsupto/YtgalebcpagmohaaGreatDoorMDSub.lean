/- The doors of a server, as package courier has them. -/
import Derived.Test.YtgalebcpagmohaaGreatDoorMDC
import Derived.Test.YtgalebcpagmohaaGreatDoorMDT
import Derived.Test.YtgalebcpagmohaaGreatDoorMDF
import Derived.Test.YtgalebcpagmohaaGreatDoorMDN
set_option linter.unusedSimpArgs false
set_option linter.unusedVariables false
set_option maxHeartbeats 8000000
set_option maxRecDepth 100000
namespace Go.Proofs.YtgalebcpagmohaaGreatDoor
open Go.Proofs.Tryz
open Go.RowKit Go.Conc
theorem GZ.same (w:World) (g:lH):GZ w g g:=⟨Or.inl rfl,Or.inl rfl,rfl,rfl,rfl,rfl,rfl⟩
theorem Sv.low {w:World} {lo:Nat} {W D:Int} {R:Nat} {g:lH} (h:Sv w lo W D R g) (hlo:∀ t∈g.Ts,lo≤t.blk) {k:Nat} (hk:qB g k):lo≤k:=by
 rcases hk with((rfl | rfl) | rfl) | hk | ⟨t,ht,rfl | hk⟩
 ·exact h.lb
 ·exact h.lq
 ·exact h.lm
 ·exact(World.ownsRow.lt h.t.row k hk).1
 ·exact hlo t ht
 ·exact((h.t.kept t ht).1.lt k hk).1
def nI (w:World) (lo:Nat) (W D:Int) (R:Nat) (g:lH) (A:lH→Prop) (w':World):Prop:=∃ g',Sv w' lo W D R g'∧aN (qB g) w w'∧GZ w g g'∧A g'
theorem nI.still {w w':World} {lo:Nat} {W D:Int} {R:Nat} {g:lH} {A:lH→Prop} (h:Sv w lo W D R g) (hb:Below w.heap.size w w') (hA:A g):nI w lo W D R g A w':=⟨g,h.below hb,aN.of_below hb,GZ.same w g,hA⟩
theorem Jo (g:lH):qB g g.b:=Or.inl (Or.inl (Or.inl rfl))
theorem QA (g:lH):qB g g.q:=Or.inl (Or.inl (Or.inr rfl))
theorem QB (g:lH):qB g g.m:=Or.inl (Or.inr rfl)
theorem agu {w:World} {lo x:Nat} {W D:Int} {R:Nat} {g:lH} (h:Sv w lo W D R g) (hx:w.cell? ⟨x,0,none⟩=some (.pointer (some ⟨g.b,0,none⟩))) (conn:Int) :
  Calls Tryz.prog 27 #[.pointer (some ⟨x,0,none⟩),.int .i64 conn] w (fun e w'=>∃ z:Int,e=.returned (.int .i64 z)∧nI w lo W D R g (fun g'=>(g.had=true∧conn≤g.last∧z=10∧g'=g)∨(¬ (g.had=true∧conn≤g.last)∧z=0∧∃ q m L,g' = { g with last:=conn,had:=true,up:=true,L:=L,q:=q,m:=m })) w'):=by
 refine agl w x g.b hx conn _ ?_
 by_cases hc:g.had=true∧conn≤g.last
 ·have he:=h.e
  rw[hc.1] at he
  refine(ZR w g.b _ _ _ _ g.last g.up _ g.L g.q g.m he conn hc.2).mono ?_
  rintro e w' ⟨rfl,rfl⟩
  exact⟨10,rfl,nI.still h (Below.refl _ _) (Or.inl ⟨hc.1,hc.2,rfl,rfl⟩)⟩
 ·refine(X0 w g.b _ _ _ _ g.last g.had g.up g.aI g.ms g.mo g.L g.q g.m h.e conn (by
   cases hh:g.had with
   | false=>exact Or.inl rfl
   | true=>exact Or.inr (by rw[hh] at hc;simp at hc;omega))).mono ?_
  rintro e w' ⟨rfl,q',m',h1,h2,h3,h4⟩
  exact⟨0,rfl,_,h.turn h4 (fun k hk=>Or.inl hk) h3 (Or.inl rfl) (fun _=>rfl) (Or.inr h1) (Or.inr h2),h4.mono (fun k _ hk=>by rw[hk];exact Jo g),⟨Or.inr h1,Or.inr h2,rfl,rfl,rfl,rfl,rfl⟩,Or.inr ⟨hc,rfl,q',m',_,rfl⟩⟩
theorem aa0 {w:World} {lo x:Nat} {W D:Int} {R:Nat} {g:lH} (h:Sv w lo W D R g) (hx:w.cell? ⟨x,0,none⟩=some (.pointer (some ⟨g.b,0,none⟩))) (conn:Int) :
  Calls Tryz.prog 29 #[.pointer (some ⟨x,0,none⟩),.int .i64 conn] w (fun e w'=>∃ z:Int,e=.returned (.int .i64 z)∧nI w lo W D R g (fun g'=>((g.up&&decide (conn=g.last))=false∧z=10∧g'=g)∨((g.up&&decide (conn=g.last))=true∧z=0∧∃ q m L,g' = { g with up:=false,L:=L,q:=q,m:=m })) w'):=by
 refine aaP w x g.b hx conn _ ?_
 cases hc:(g.up&&decide (conn=g.last)) with
 | false=>
  refine(PX w g.b _ _ _ _ _ g.last g.had g.up g.q g.m _ h.e.blk conn hc).mono ?_
  rintro e w' ⟨rfl,rfl⟩
  exact⟨10,rfl,nI.still h (Below.refl _ _) (Or.inl ⟨rfl,rfl,rfl⟩)⟩
 | true=>
  refine(JU w g.b _ _ _ _ _ g.last g.had g.up g.q g.m _ h.e.blk conn hc).mono ?_
  rintro e w' ⟨rfl,q',m',h1,h2,h3,h4,h5,h6⟩
  exact⟨0,rfl,_,h.turn h6 (fun k hk=>Or.inl hk) ⟨h3,h4,h5⟩ (Or.inl rfl) (fun _=>rfl) (Or.inr h1) (Or.inr h2),h6.mono (fun k _ hk=>by rw[hk];exact Jo g),⟨Or.inr h1,Or.inr h2,rfl,rfl,rfl,rfl,rfl⟩,Or.inr ⟨rfl,rfl,q',m',_,rfl⟩⟩
theorem aa1 {w:World} {lo x:Nat} {W D:Int} {R:Nat} {g:lH} (h:Sv w lo W D R g) (hx:w.cell? ⟨x,0,none⟩=some (.pointer (some ⟨g.b,0,none⟩))) :
  Calls Tryz.prog 14 #[.pointer (some ⟨x,0,none⟩)] w (fun e w'=>e=.returned (.tuple #[])∧nI w lo W D R g (fun g'=>∃ L,g' = { g with L:=L }) w'):=by
 refine aaQ w x g.b hx _ ?_
 have hl:=h.len
 refine(QY w g.b _ _ _ _ g.last g.had g.up g.aI g.ms g.mo g.L g.q g.m h.e h.vs (by omega)).mono ?_
 rintro e w' ⟨rfl,h1,h2⟩
 exact⟨rfl,_,h.turn h2 (fun k hk=>Or.inr hk) h1 (GX h.l) (EC h.lu) (Or.inl rfl) (Or.inl rfl),h2.mono (fun k _ hk=>by
  rcases hk with rfl | rfl
  ·exact QA g
  ·exact QB g),⟨Or.inl rfl,Or.inl rfl,rfl,rfl,rfl,rfl,rfl⟩,_,rfl⟩
theorem TK {w:World} {lo x:Nat} {W D:Int} {R:Nat} {g:lH} (h:Sv w lo W D R g) (hx:w.cell? ⟨x,0,none⟩=some (.pointer (some ⟨g.b,0,none⟩))) (conn:Int) (a:Option Addr) (c:Nat) (F:List UInt8) (hr:Rd w (.slice a F.length c) F) (hl:F.length≤2000000) (hcap:F.length≤c) (hn:iO bK F=none) :
  Calls Tryz.prog 32 #[.pointer (some ⟨x,0,none⟩),.int .i64 conn,.slice a F.length c] w (fun e w'=>∃ z:Int,e=.returned (.int .i64 z)∧z=(bif g.up&&decide (conn=g.last) then 0 else 10)∧Below w.heap.size w w'):=by
 refine Tq w x g.b hx conn a F.length c (fun z w'=>z=(bif g.up&&decide (conn=g.last) then 0 else 10)∧Below w.heap.size w w') ?_
 refine(JW w g.b _ _ _ _ g.last g.had g.up _ g.L g.q g.m h.e conn a c F hr hl hcap hn).mono ?_
 rintro e w' ⟨rfl,hb⟩
 exact⟨_,rfl,rfl,hb⟩
theorem adv {w:World} {lo x:Nat} {W D:Int} {R:Nat} {g:lH} (h:Sv w lo W D R g) (hx:w.cell? ⟨x,0,none⟩=some (.pointer (some ⟨g.b,0,none⟩))) :
  Calls Tryz.prog 39 #[.pointer (some ⟨x,0,none⟩)] w (fun e w'=>∃ (a:Option Addr) (n c:Nat),e=.returned (.slice a n c)∧(∃ vs,Ia w' w.heap.size (.slice a n c) vs (g.L.map (fun p=>aS bK (iL p))))∧nI w lo W D R g (fun g'=>g' = { g with L:=[] }) w'):=by
 refine adl w x g.b hx (fun v w'=>(∃ vs,Ia w' w.heap.size v vs (g.L.map (fun p=>aS bK (iL p))))∧nI w lo W D R g (fun g'=>g' = { g with L:=[] }) w') ?_
 refine(Qr w g.b _ _ _ _ _ g.last g.had g.up _ g.L g.q g.m h.e (fun p hp=>?_) (by have:=h.len;omega)).mono ?_
 ·rcases h.l with e | e
  ·rw[e] at hp;simp at hp
  ·rw[e] at hp;simp at hp;rw[hp];exact Qu
 ·rintro e w' ⟨v,vs,rfl,h1,h2,h3⟩
  obtain⟨a,c,rfl⟩:=ak h2.own
  exact⟨a,_,c,rfl,⟨vs,h2⟩,_,h.turn h3 (fun k hk=>Or.inr hk) h1 (Or.inl rfl) (fun _=>rfl) (Or.inl rfl) (Or.inl rfl),h3.mono (fun k _ hk=>by
   rcases hk with rfl | rfl
   ·exact QA g
   ·exact QB g),⟨Or.inl rfl,Or.inl rfl,rfl,rfl,rfl,rfl,rfl⟩,rfl⟩
theorem TL {w:World} {lo x:Nat} {W D:Int} {R:Nat} {g:lH} (h:Sv w lo W D R g) (hx:w.cell? ⟨x,0,none⟩=some (.pointer (some ⟨g.b,0,none⟩))) :
  Calls Tryz.prog 48 #[.pointer (some ⟨x,0,none⟩)] w (fun e w'=>e=.returned (.tuple #[])∧nI w lo W D R g (fun g'=>∃ q m L,g' = { g with L:=L,q:=q,m:=m }) w'):=by
 refine Tv w x g.b hx _ ?_
 refine(JX w g.b _ _ _ _ g.last g.had g.up g.aI g.ms g.mo g.L g.q g.m h.e h.vs).mono ?_
 rintro e w' ⟨rfl,q',m',h1,h2,h3,h4⟩
 exact⟨rfl,_,h.turn h4 (fun k hk=>Or.inl hk) h3 (Or.inl rfl) (fun _=>rfl) (Or.inr h1) (Or.inr h2),h4.mono (fun k _ hk=>by rw[hk];exact Jo g),⟨Or.inr h1,Or.inr h2,rfl,rfl,rfl,rfl,rfl⟩,q',m',_,rfl⟩
theorem aa2 {w:World} {lo x:Nat} {W D:Int} {R:Nat} {g:lH} (h:Sv w lo W D R g) (hx:w.cell? ⟨x,0,none⟩=some (.pointer (some ⟨g.b,0,none⟩))) (hxl:x<w.heap.size) :
  Calls Tryz.prog 46 #[.pointer (some ⟨x,0,none⟩)] w (fun e w'=>e=.returned (.tuple #[.agg #[.int .i64 0,.string ⟨#[]⟩,.string ⟨#[]⟩],.bool false])∧Below w.heap.size w w') :=
 aaT w x g.b hx hxl (fun w0 hb0=>X3 w0 g.b _ _ _ _ g.last g.had g.up g.aI g.ms g.mo g.L g.q g.m (h.below hb0).e)
theorem YZ {w:World} {lo x:Nat} {W D:Int} {R:Nat} {g:lH} (h:Sv w lo W D R g) (hx:w.cell? ⟨x,0,none⟩=some (.pointer (some ⟨g.b,0,none⟩))) (id:Int) (t:ByteArray) :
  Calls Tryz.prog 47 #[.pointer (some ⟨x,0,none⟩),.int .i64 id,.string t] w (fun e w'=>∃ z:Int,e=.returned (.int .i64 z)∧z=16∧Below w.heap.size w w'):=by
 refine YM w x g.b hx id t (fun z w'=>z=16∧Below w.heap.size w w') ?_
 refine(UC w g.b _ _ _ _ g.last g.had g.up g.aI g.ms g.mo g.L g.q g.m h.e h.vo id t).mono ?_
 rintro e w' ⟨rfl,hb⟩
 exact⟨16,rfl,rfl,hb⟩
theorem Sv.top {F:Nat→Prop} {w w':World} {lo:Nat} {W D:Int} {R:Nat} {g:lH} (h:Sv w lo W D R g) (hc:aN F w w') {k:Nat} {t t':dU} (hk:g.Ts[k]? = some t) (hF:∀ i,F i→i=t.blk∨t.kept.ownBlock=some i) (he:aW w' g.b 75 g.iv (.int .i64 W) (.int .i64 D) (.int .i64 R) g.last g.had g.up (nT g.aI g.ms g.mo) g.L g.q g.m) (ht:iD w' lo g.aI (g.Ts.set k t')) (N:Nat) (hN:g.N≤N) (hr:t'.kv.length≤R∧t'.count≤N) :
  Sv w' lo W D R { g with Ts:=g.Ts.set k t',N:=N }:=by
 have CJ:=List.mem_of_getElem? hk
 have ho:Only w F [138 + 2,97 + 2]:=fun i hi u hu=>by
  rcases hF i hi with rfl | e
  ·rw[hu.uniq (h.t.each t CJ).tag];decide
  ·rw[hu.uniq (gJ (h.t.kept t CJ).1 e)];decide
 have uy:∀ {m:Nat},Void w m→¬ F m:=fun {m} hv hf=>by
  have:=ho m hf _ hv.tag
  revert this;decide
 exact {
  e:=he,t:=ht,vs:=h.vs.fZ hc (uy h.vs),vo:=h.vo.fZ hc (uy h.vo)
  i:=h.i.only hc ho (by decide) (by decide) (by decide)
  xo:=h.xo
  nt:=by show (g.Ts.set k t').length≤400;rw[List.length_set];exact h.nt
  kr:=fun x hx=>by
   rcases xX hx with rfl | ⟨j,_,hj⟩
   ·exact hr
   ·have:=h.kr x (List.mem_of_getElem? hj);exact⟨this.1,Nat.le_trans this.2 hN⟩
  l:=h.l,lu:=h.lu,lb:=h.lb,lq:=h.lq,lm:=h.lm,lms:=h.lms,lmo:=h.lmo,n1:=h.n1,n2:=h.n2 }
theorem MV {g:lH} {t:dU} (ht:t∈g.Ts) {i:Nat} (h:i=t.blk∨t.kept.ownBlock=some i):qB g i:=Or.inr (Or.inr ⟨t,ht,h.elim (fun e=>Or.inl e.symm) Or.inr⟩)
theorem WV {w:World} {lo x:Nat} {W D:Int} {R:Nat} {g:lH} (h:Sv w lo W D R g) (hx:w.cell? ⟨x,0,none⟩=some (.pointer (some ⟨g.b,0,none⟩))) (name:ByteArray) :
  Calls Tryz.prog 45 #[.pointer (some ⟨x,0,none⟩),.string name] w (fun e w'=>∃ z:Int,e=.returned (.int .i64 z)∧∃ o,Named g.Ts name o∧nI w lo W D R g (fun g'=>match o with
   | none=>z=11∧g'=g
   | some (k,t)=>(t.fin=true∧z=12∧g'=g)∨(t.fin=false∧z=0∧g' = { g with Ts:=g.Ts.set k { t with fin:=true } })) w'):=by
 refine WL w x g.b hx name _ ?_
 refine(J4 w g.b _ _ _ _ g.last g.had g.up g.aI g.ms g.mo g.L g.q g.m lo g.Ts h.e h.t h.nt name).mono ?_
 rintro e w' ⟨o,hN,hm⟩
 cases hN using Named.ind with
 | no hno=>
  obtain⟨rfl,hb⟩:=hm
  exact⟨11,rfl,none,Named.no hno,nI.still h hb ⟨rfl,rfl⟩⟩
 | yes k t hk hn=>
  cases hf:t.fin with
  | true=>
   simp only[hf,if_true] at hm
   obtain⟨rfl,hb⟩:=hm
   exact⟨12,rfl,some (k,t),Named.yes k t hk hn,nI.still h hb (Or.inl ⟨hf,rfl,rfl⟩)⟩
  | false=>
   simp only[hf,Bool.false_eq_true,if_false] at hm
   obtain⟨rfl,he,ht,hc⟩:=hm
   have CJ:=List.mem_of_getElem? hk
   have hkr:=h.kr t CJ
   exact⟨0,rfl,some (k,t),Named.yes k t hk hn,_,h.top hc hk (fun i hi=>Or.inl hi) he ht g.N (Nat.le_refl _) hkr,hc.mono (fun i _ hi=>MV CJ (Or.inl hi)),⟨Or.inl rfl,Or.inl rfl,rfl,rfl,rfl,rfl,rfl⟩,Or.inr ⟨hf,rfl,rfl⟩⟩
theorem TM {R:Nat} {kv:List Value} {d:Value} (h:kv.length≤R) (h1:1≤R):(xZ R kv d).length≤R:=by
 unfold xZ
 split
 ·rw[List.length_append,List.length_singleton];omega
 ·rw[List.length_drop,List.length_append,List.length_singleton];omega
theorem TN {w:World} {lo x:Nat} {W D:Int} {R:Nat} {g:lH} (h:Sv w lo W D R g) (hx:w.cell? ⟨x,0,none⟩=some (.pointer (some ⟨g.b,0,none⟩))) (hE:Env w) (hO:∀ cb,lo≤cb→Own cb) (hR:1≤R∧R≤16) (hN:g.N<1000000000000) (name v:ByteArray) (hv:v.size≤maxLen) :
  Calls Tryz.prog 42 #[.pointer (some ⟨x,0,none⟩),.string name,.string v] w (fun e w'=>∃ z:Int,e=.returned (.int .i64 z)∧∃ o,Named g.Ts name o∧nI w lo W D R g (fun g'=>match o with
   | none=>z=11∧g'=g
   | some (k,t)=>(t.fin=true∧z=12∧g'=g)∨(t.fin=false∧∃ d,AZ g.X t.base v z d∧((z≠0∧g'=g)∨(z=0∧∃ c kept kv,g' = { g with Ts:=g.Ts.set k { t with count:=c,kept:=kept,kv:=kv },N:=g.N+1 })))) w'):=by
 refine Tt w x g.b hx name v _ ?_
 obtain⟨a,c,hiv⟩:∃ a c,g.iv=.slice a g.X.length c:=ak h.i.own
 have hlo:lo≤w.heap.size:=by have:=h.lb;have:=h.e.blk.lt;omega
 have he:=h.e
 have hi:=h.i
 rw[hiv] at he hi
 refine(Jg w g.b a g.X.length c _ _ R g.last g.had g.up g.aI g.ms g.mo g.L g.q g.m lo lo g.Ts g.X he h.t h.nt hi h.xo hE (fun cb hcb=>hO cb (Nat.le_trans hlo hcb)) hR (fun t ht=>⟨(h.kr t ht).1,by have:=(h.kr t ht).2;omega⟩) hlo name v hv).mono ?_
 rintro e w' ⟨o,hNm,hm⟩
 cases hNm using Named.ind with
 | no hno=>
  obtain⟨rfl,hb⟩:=hm
  exact⟨11,rfl,none,Named.no hno,nI.still h hb ⟨rfl,rfl⟩⟩
 | yes k t hk hn=>
  cases hf:t.fin with
  | true=>
   simp only[hf,if_true] at hm
   obtain⟨rfl,hb⟩:=hm
   exact⟨12,rfl,some (k,t),Named.yes k t hk hn,nI.still h hb (Or.inl ⟨hf,rfl,rfl⟩)⟩
  | false=>
   simp only[hf,Bool.false_eq_true,if_false] at hm
   obtain⟨E,d,hA,rfl,h1,h2⟩:=hm
   by_cases hE0:E=0
   ·obtain⟨kept',dv,he',ht',hc'⟩:=h2 hE0
    have CJ:=List.mem_of_getElem? hk
    have hkr:=h.kr t CJ
    rw[← hiv] at he'
    exact⟨E,rfl,some (k,t),Named.yes k t hk hn,_,h.top hc' hk (fun i hi=>hi) he' ht' (g.N+1) (by omega) ⟨TM hkr.1 hR.1,by show t.count+1≤g.N+1;omega⟩,hc'.mono (fun i _ hi=>MV CJ hi),⟨Or.inl rfl,Or.inl rfl,rfl,rfl,rfl,rfl,rfl⟩,Or.inr ⟨hf,d,hA,Or.inr ⟨hE0,t.count+1,kept',xZ R t.kv dv,by rw[hf]⟩⟩⟩
   ·exact⟨E,rfl,some (k,t),Named.yes k t hk hn,nI.still h (h1 hE0) (Or.inr ⟨hf,d,hA,Or.inl ⟨hE0,rfl⟩⟩)⟩
theorem qJ.push {w w':World} {lo:Nat} {v v':Value} {Bs:List Nat} {B:Nat} (h:qJ w lo v Bs) (hsame:∀ k xs,aU w k 203 xs→aU w' k 203 xs) (hB:∃ xs,aU w' B 203 xs∧xs[0]? = some (.int .i64 (Bs.length:Nat))∧xs[13]? = some (.slice none 0 0)∧xs[14]? = some (.int .i64 0)) (hrow:rJ w' lo 166 v' (Bs++[B])):qJ w' lo v' (Bs++[B]):=by
 refine⟨hrow,fun i hi=>?_⟩
 rcases Nat.lt_or_ge i Bs.length with hl | hl
 ·obtain⟨xs,h1,h2⟩:=h.each i hl
  rw[List.getElem_append_left hl]
  exact⟨xs,hsame _ _ h1,h2⟩
 ·have e:i=Bs.length:=by rw[List.length_append,List.length_singleton] at hi;omega
  subst e
  obtain⟨xs,h1,h2⟩:=hB
  exact⟨xs,by rw[List.getElem_append_right (Nat.le_refl _)];simpa using h1,h2⟩
def adw (g:jY) (W:Int) (t u:ByteArray) (n z:Int) (g':jY):Prop :=
 (eY g.X 2 t.toList (-1)∧n=0∧z=11∧g'=g) ∨
 (∃ (i:Nat),eY g.X 2 t.toList i ∧
  ((¬ qU t.toList u.toList∧n=0∧z=13∧g'=g) ∨
   (qU t.toList u.toList∧(8≤g.Bs.length∨W≤g.an)∧n=0∧z=14∧g'=g) ∨
   (qU t.toList u.toList∧¬ (8≤g.Bs.length∨W≤g.an)∧n=(g.Bs.length:Nat)∧z=0∧∃ asked ax streams B,g' = { g with asked:=asked,an:=g.an+1,ax:=ax,streams:=streams,Bs:=g.Bs++[B] })))
theorem Tryz.infoStrP:(Tryz.prog.info? 166).map (fun i=>(i.zero,i.size,i.bytes))=some (some (.pointer none),1,8):=by kernel_rfl
theorem He {X:List bY} {k:Nat} {name:List UInt8} {i:Nat} (h:eY X k name (i:Int)):∃ x,X[i]? = some x∧iw k name x.it=true:=by
 generalize hz:(i:Int)=z at h
 cases h using eY.ind with
 | no _=>omega
 | yes j x hx hm _=>
  have:i=j:=by omega
  subst this
  exact⟨x,hx,hm⟩
theorem EL (w:World) (lo:Nat) (W D R:Int) (g:jY) (h:Cl w lo W D R g) (hE:Env w) (t u:ByteArray) (hu:u.size≤100000000) :
  Calls Tryz.prog 82 #[.pointer (some ⟨g.b,0,none⟩),.string t,.string u] w (fun e w'=>∃ n z:Int,e=.returned (.tuple #[.int .i64 n,.int .i64 z])∧mG w lo W D R g (adw g W t u n z) w'):=by
 have d0:w.cell? ⟨g.b,0,none⟩=some g.iv:=h.e.blk.cell 0
 have HH:=hid h
 have HE:=hid hE
 obtain⟨ia,ic,hiv⟩:∃ a c,g.iv=.slice a g.X.length c:=ak h.i.own
 rw[hiv] at d0
 clear h hE
 go_enter func82,ntmps82
 go_wp2_with fail
 refine(G7 w lo (.slice ia g.X.length ic) g.X 2 t (by rw[← hiv];exact HH.out.i) HH.out.xo.nms HH.out.xo.len).mono ?_;rintro e w1 ⟨z,hF,hb1,⟨rfl,rfl⟩ | ⟨i,x,n,rfl,hx,hba,han,rfl⟩⟩
 ·have HF:=hid hF
  have HB:=hid (show Below w.heap.size w (w1.alloc (.cells #[.int .i64 0,.string ⟨#[]⟩,.int .i64 0,.slice none 0 0,.slice none 0 0,.string ⟨#[]⟩,.int .i64 0,.string ⟨#[]⟩,.int .i64 0] 135)) from hb1.alloc hb1.size _)
  clear hF
  go_wp2_with fail
  go_ret2
  exact⟨0,11,rfl,mG.still HH.out HB.out (Or.inl ⟨HF.out,rfl,rfl,rfl⟩)⟩
 ·have HF:=hid hF
  have hmt:x.it.name.text.toList=t.toList:=by
   obtain⟨x',hx',hm⟩:=He hF
   rw[hx] at hx';cases hx'
   unfold iw at hm
   simp only[Bool.and_eq_true,beq_iff_eq] at hm
   exact hm.2
  have HMT:=hid hmt
  have hns:x.it.name.text.size≤1000:=by have:=HH.out.xs x (List.mem_of_getElem? hx);omega
  have hbI:Below w1.heap.size w1 (w1.alloc (.cells #[.int .i64 x.it.kind,.string x.it.name.text,.int .i64 x.it.name.at_,.slice n.fa x.it.fields.length n.fc,.slice n.na x.it.names.length n.nc,.string n.bb,.int .i64 n.ba,.string n.ab,.int .i64 n.aa] 135)):=(Below.refl _ _).alloc (Nat.le_refl _) _
  have hBI:aU (w1.alloc (.cells #[.int .i64 x.it.kind,.string x.it.name.text,.int .i64 x.it.name.at_,.slice n.fa x.it.fields.length n.fc,.slice n.na x.it.names.length n.nc,.string n.bb,.int .i64 n.ba,.string n.ab,.int .i64 n.aa] 135)) w1.heap.size 135 [.int .i64 x.it.kind,.string x.it.name.text,.int .i64 x.it.name.at_,.slice n.fa x.it.fields.length n.fc,.slice n.na x.it.names.length n.nc,.string n.bb,.int .i64 n.ba,.string n.ab,.int .i64 n.aa]:=heap_alloc_new w1 _
  have hz1:=hb1.size
  have HBI:=hid hBI
  have QC:=hid (hb1.trans (hbI.mono hz1))
  have hzI:w1.heap.size<(w1.alloc (.cells #[.int .i64 x.it.kind,.string x.it.name.text,.int .i64 x.it.name.at_,.slice n.fa x.it.fields.length n.fc,.slice n.na x.it.names.length n.nc,.string n.bb,.int .i64 n.ba,.string n.ab,.int .i64 n.aa] 135)).heap.size:=by simp
  unfold y9
  clear hF hx hba han hbI hBI hmt
  go_wp2_with fail
  generalize w1.alloc (.cells #[.int .i64 x.it.kind,.string x.it.name.text,.int .i64 x.it.name.at_,.slice n.fa x.it.fields.length n.fc,.slice n.na x.it.names.length n.nc,.string n.bb,.int .i64 n.ba,.string n.ab,.int .i64 n.aa] 135)=wI at *
  generalize hib:w1.heap.size=ib at *
  obtain⟨k0,k2,fa,fl,fc,na,nl,nc,bb,k6,ab,k8,hHB⟩:∃ (k0 k2:Int) (fa:Option Addr) (fl fc:Nat) (na:Option Addr) (nl nc:Nat) (bb:ByteArray) (k6:Int) (ab:ByteArray) (k8:Int),aU wI ib 135 [.int .i64 k0,.string x.it.name.text,.int .i64 k2,.slice fa fl fc,.slice na nl nc,.string bb,.int .i64 k6,.string ab,.int .i64 k8]:=⟨_,_,_,_,_,_,_,_,_,_,_,_,HBI.out⟩
  have HBY:=hid hHB
  have HEI:=hid (HE.out.below QC.out)
  clear hHB HBI
  refine(EI x.it.name.text u wI HEI.out hns hu).mono ?_;rintro e w2 ⟨p,ok,rfl,hok,hp,hb2⟩
  rw[HMT.out] at hok
  have BX:=hid hok
  clear hok
  cases ok with
  | false=>
   go_wp2_with fail
   go_ret2
   refine⟨0,13,rfl,mG.still HH.out (QC.out.trans (hb2.mono QC.out.size)) (Or.inr ⟨i,HF.out,Or.inl ⟨fun hc=>?_,rfl,rfl,rfl⟩⟩)⟩
   have:=BX.out.2 hc
   cases this
  | true=>
   have HC:=hid (BX.out.1 rfl)
   have hbw2:=QC.out.trans (hb2.mono QC.out.size)
   have H2:=hid (HH.out.below hbw2)
   obtain⟨aa,ac,hav⟩:=ak HH.out.a
   obtain⟨sa,sc,hsv⟩:=HH.out.s.row.slice
   have HAV:=hid hav
   have HSV:=hid hsv
   have he2:=H2.out.e
   rw[hav,hsv] at he2
   have HE2:=hid he2
   clear he2 hav hsv
   go_wp2_with fail
   refine(CO w2 g.b g.iv _ _ W g.last g.had g.up g.token g.silence aa g.an ac g.an sa g.Bs.length sc g.Bs.length g.calls g.Cs.length g.L g.q g.m HE2.out).mono ?_;rintro e w3 ⟨rfl,hb3⟩
   have hbw3:=hbw2.trans (hb3.mono hbw2.size)
   cases hfull:(decide (8≤g.Bs.length)||decide (W≤g.an)) with
   | true=>
    have WW:=hid (show 8≤g.Bs.length∨W≤g.an by simpa using hfull)
    go_wp2_with fail
    go_ret2
    exact⟨0,14,rfl,mG.still HH.out hbw3 (Or.inr ⟨i,HF.out,Or.inr (Or.inl ⟨HC.out,WW.out,rfl,rfl,rfl⟩)⟩)⟩
   | false=>
    have WW:=hid (show ¬ (8≤g.Bs.length∨W≤g.an) by
     intro hc
     have:(decide (8≤g.Bs.length)||decide (W≤g.an))=true:=by simpa using hc
     rw[hfull] at this;cases this)
    have H3:=hid (HH.out.below hbw3)
    have hB3:=HBY.out.below (show Below wI.heap.size wI w3 from hb2.trans (hb3.mono hb2.size))
    have c1:w3.cell? ⟨ib,1,none⟩=some (.string x.it.name.text):=hB3.cell 1
    have HB3:=hid hB3
    have hlt3:=hB3.lt
    have hbn:=HH.out.nb
    have hcn:=HH.out.nc
    have agw:g.an≤16:=by have:=HH.out.tot;omega
    have aa4:=hid HH.out.tot
    have agx:=hbw3.size
    have agy:=HH.out.lb
    have hbl:=HH.out.e.blk.lt
    clear hB3
    go_wp2_with fail
    refine(Ad w3 g.b g.iv _ _ _ g.last g.had g.up g.token g.silence g.asked g.an g.an g.streams g.Bs.length g.calls g.Cs.length g.L g.q g.m lo g.ax H3.out.e H3.out.a (by omega) (by omega) (by omega) 2 0 0 0 p x.it.name.text).mono ?_
    rintro e w4 ⟨rfl,a',c',xs',he4,EU,hn4,hc4⟩
    have JQ:=hc4.size
    have agz:w.heap.size≤ib:=hz1
    have hB4:aU w4 ib 135 [.int .i64 k0,.string x.it.name.text,.int .i64 k2,.slice fa fl fc,.slice na nl nc,.string bb,.int .i64 k6,.string ab,.int .i64 k8]:=HB3.out.fZ hc4 (fun e=>by
     rcases e with e | e
     ·omega
     ·have:=(HH.out.a.lt ib e).2;omega)
    have r0:w4.cell? ⟨ib,0,none⟩=some (.int .i64 k0):=hB4.cell 0
    have r1:w4.cell? ⟨ib,1,none⟩=some (.string x.it.name.text):=hB4.cell 1
    have r2:w4.cell? ⟨ib,2,none⟩=some (.int .i64 k2):=hB4.cell 2
    have r3:w4.cell? ⟨ib,3,none⟩=some (.slice fa fl fc):=hB4.cell 3
    have r4:w4.cell? ⟨ib,4,none⟩=some (.slice na nl nc):=hB4.cell 4
    have r5:w4.cell? ⟨ib,5,none⟩=some (.string bb):=hB4.cell 5
    have r6:w4.cell? ⟨ib,6,none⟩=some (.int .i64 k6):=hB4.cell 6
    have r7:w4.cell? ⟨ib,7,none⟩=some (.string ab):=hB4.cell 7
    have r8:w4.cell? ⟨ib,8,none⟩=some (.int .i64 k8):=hB4.cell 8
    have d16:w4.cell? ⟨g.b,16,none⟩=some (.int .i64 (g.Bs.length:Nat)):=he4.blk.cell 16
    have hb5:Below w4.heap.size w4 (w4.alloc (.cells #[.int .i64 (g.Bs.length:Nat),.int .u64 (g.an:Nat),.int .i64 k0,.string x.it.name.text,.int .i64 k2,.slice fa fl fc,.slice na nl nc,.string bb,.int .i64 k6,.string ab,.int .i64 k8,.int .u64 (p:Nat),.int .u64 (p:Nat),.slice none 0 0,.int .i64 0] 203)).drew:=((Below.refl _ _).alloc (Nat.le_refl _) _).drew
    have hb6:Below w4.heap.size w4 ((w4.alloc (.cells #[.int .i64 (g.Bs.length:Nat),.int .u64 (g.an:Nat),.int .i64 k0,.string x.it.name.text,.int .i64 k2,.slice fa fl fc,.slice na nl nc,.string bb,.int .i64 k6,.string ab,.int .i64 k8,.int .u64 (p:Nat),.int .u64 (p:Nat),.slice none 0 0,.int .i64 0] 203)).alloc (.cells #[.pointer (some ⟨w4.heap.size,0,none⟩)] 166)).drew:=(pX w4 _ _).drew
    have hS6:aU ((w4.alloc (.cells #[.int .i64 (g.Bs.length:Nat),.int .u64 (g.an:Nat),.int .i64 k0,.string x.it.name.text,.int .i64 k2,.slice fa fl fc,.slice na nl nc,.string bb,.int .i64 k6,.string ab,.int .i64 k8,.int .u64 (p:Nat),.int .u64 (p:Nat),.slice none 0 0,.int .i64 0] 203)).alloc (.cells #[.pointer (some ⟨w4.heap.size,0,none⟩)] 166)).drew w4.heap.size 203 [.int .i64 (g.Bs.length:Nat),.int .u64 (g.an:Nat),.int .i64 k0,.string x.it.name.text,.int .i64 k2,.slice fa fl fc,.slice na nl nc,.string bb,.int .i64 k6,.string ab,.int .i64 k8,.int .u64 (p:Nat),.int .u64 (p:Nat),.slice none 0 0,.int .i64 0]:=(zh w4 _ _).trans (heap_alloc_new w4 _)
    have hN6:aU ((w4.alloc (.cells #[.int .i64 (g.Bs.length:Nat),.int .u64 (g.an:Nat),.int .i64 k0,.string x.it.name.text,.int .i64 k2,.slice fa fl fc,.slice na nl nc,.string bb,.int .i64 k6,.string ab,.int .i64 k8,.int .u64 (p:Nat),.int .u64 (p:Nat),.slice none 0 0,.int .i64 0] 203)).alloc (.cells #[.pointer (some ⟨w4.heap.size,0,none⟩)] 166)).drew (w4.heap.size+1) 166 [.pointer (some ⟨w4.heap.size,0,none⟩)]:=zi w4 _ _
    have hz6:((w4.alloc (.cells #[.int .i64 (g.Bs.length:Nat),.int .u64 (g.an:Nat),.int .i64 k0,.string x.it.name.text,.int .i64 k2,.slice fa fl fc,.slice na nl nc,.string bb,.int .i64 k6,.string ab,.int .i64 k8,.int .u64 (p:Nat),.int .u64 (p:Nat),.slice none 0 0,.int .i64 0] 203)).alloc (.cells #[.pointer (some ⟨w4.heap.size,0,none⟩)] 166)).drew.heap.size=w4.heap.size+2:=by show ((w4.alloc _).alloc _).heap.size=_;simp
    have d15:(w4.alloc (.cells #[.int .i64 (g.Bs.length:Nat),.int .u64 (g.an:Nat),.int .i64 k0,.string x.it.name.text,.int .i64 k2,.slice fa fl fc,.slice na nl nc,.string bb,.int .i64 k6,.string ab,.int .i64 k8,.int .u64 (p:Nat),.int .u64 (p:Nat),.slice none 0 0,.int .i64 0] 203)).drew.cell? ⟨g.b,15,none⟩=some (.slice sa g.Bs.length sc):=by rw[← HSV.out];exact(he4.blk.below hb5).cell 15
    have WX:Only w3 (fun k=>k=g.b∨g.asked.ownBlock=some k) [80 + 2,162 + 2]:=(Only.nG H3.out.e.blk.tag (by decide)).or (Only.own H3.out.a (by decide))
    have hs4:qJ w4 lo g.streams g.Bs:=H3.out.s.only hc4 WX (by decide) (by decide)
    have hs6:=hs4.below hb6
    have he6:=he4.below hb6
    have Qa:=au EU (fun k hk=>hb6.block k (EU.lt k hk).2)
    have hr6:World.ownsRow ((w4.alloc (.cells #[.int .i64 (g.Bs.length:Nat),.int .u64 (g.an:Nat),.int .i64 k0,.string x.it.name.text,.int .i64 k2,.slice fa fl fc,.slice na nl nc,.string bb,.int .i64 k6,.string ab,.int .i64 k8,.int .u64 (p:Nat),.int .u64 (p:Nat),.slice none 0 0,.int .i64 0] 203)).alloc (.cells #[.pointer (some ⟨w4.heap.size,0,none⟩)] 166)).drew lo 166 1 (.slice sa g.Bs.length sc) g.Bs.length (g.Bs.map jr):=by rw[← HSV.out];exact hs6.row
    obtain⟨N,Fp⟩:∃ N,Hid (g.Bs.length+1=N):=⟨_,hid rfl⟩
    obtain⟨Y,HY⟩:∃ Y,Hid (g.Bs.map jr++[.pointer (some ⟨w4.heap.size,0,none⟩)]=Y):=⟨_,hid rfl⟩
    have HR6:=hid hr6
    have Yq:=hid hN6
    have HS6:=hid hS6
    have Y0:=hid he6
    have HE4:=hid he4
    have HO4:=hid EU
    have HO6:=hid Qa
    have Nk:=hid hs4
    have HZ6:=hid hz6
    have XG:=hid hn4
    have uo:=hid hc4
    have Hb6:=hid hb6
    clear hB4 he4 EU hn4 hc4 hs4 hs6 he6 Qa hr6 hN6 hS6 hz6 hb5 hb6 WX hib
    go_wp2_with fail
    go_region
    all_goals
     go_wp2_with (at_builtin;refine fB ((w4.alloc (.cells #[.int .i64 (g.Bs.length:Nat),.int .u64 (g.an:Nat),.int .i64 k0,.string x.it.name.text,.int .i64 k2,.slice fa fl fc,.slice na nl nc,.string bb,.int .i64 k6,.string ab,.int .i64 k8,.int .u64 (p:Nat),.int .u64 (p:Nat),.slice none 0 0,.int .i64 0] 203)).alloc (.cells #[.pointer (some ⟨w4.heap.size,0,none⟩)] 166)).drew rfl (.tmp 58) (.tmp 60) 77 166 (.pointer none) 1 8 rfl underlying77 Tryz.infoStrP rfl (by decide) (.slice sa g.Bs.length sc) g.Bs.length (g.Bs.map jr) lo rfl HR6.out ⟨w4.heap.size+1,0,none⟩ 1 1 [.pointer (some ⟨w4.heap.size,0,none⟩)] rfl rfl (fun j v hv=>by
      rw[jO _ _ rfl]
      have:=Yq.out.cell (0+j)
      rw[this]
      simpa using hv) (fun v hv=>by simp at hv;subst hv;rfl) N Fp.out Y HY.out (by unfold maxLen;omega) (by omega) (by have:=HZ6.out;omega) ?_)
     intro a7 c7 w7 EM YL
     have QD:aN (fun k=>g.streams.ownBlock=some k) ((w4.alloc (.cells #[.int .i64 (g.Bs.length:Nat),.int .u64 (g.an:Nat),.int .i64 k0,.string x.it.name.text,.int .i64 k2,.slice fa fl fc,.slice na nl nc,.string bb,.int .i64 k6,.string ab,.int .i64 k8,.int .u64 (p:Nat),.int .u64 (p:Nat),.slice none 0 0,.int .i64 0] 203)).alloc (.cells #[.pointer (some ⟨w4.heap.size,0,none⟩)] 166)).drew w7:=aN.grew YL (fun k hk=>by rw[HSV.out];exact hk)
     have zS:Only ((w4.alloc (.cells #[.int .i64 (g.Bs.length:Nat),.int .u64 (g.an:Nat),.int .i64 k0,.string x.it.name.text,.int .i64 k2,.slice fa fl fc,.slice na nl nc,.string bb,.int .i64 k6,.string ab,.int .i64 k8,.int .u64 (p:Nat),.int .u64 (p:Nat),.slice none 0 0,.int .i64 0] 203)).alloc (.cells #[.pointer (some ⟨w4.heap.size,0,none⟩)] 166)).drew (fun k=>g.streams.ownBlock=some k) [166 + 2]:=by rw[HSV.out];exact Only.own HR6.out (by decide)
     have JC:=Y0.out.oD
     have hwl:=Y0.out.pO
     have BA:aW w7 g.b 80 g.iv (.int .i64 W) (.int .i64 D) (.int .i64 R) g.last g.had g.up (jV g.token g.silence (.slice a' (g.an+1) c') (g.an+1) g.streams g.Bs.length g.calls g.Cs.length) g.L g.q g.m :=
      Y0.out.fZ QD (fun e=>by have:=zS _ e _ Y0.out.blk.tag;revert this;decide) (fun e=>by have:=zS _ e _ JC.tag;revert this;decide) (fun e=>by have:=zS _ e _ hwl.tag;revert this;decide)
     have hS7:=HS6.out.only QD zS (by decide)
     have XM:=jJ HO6.out QD zS (by decide)
     have e15:w7.cell? ⟨g.b,15,none⟩=some g.streams:=BA.blk.cell 15
     have g15:=BA.blk.frozen 15
     have hB8:aU (w7.setCell ⟨g.b,15,none⟩ (.slice a7 N c7)) g.b 80 (rG g.iv (.int .i64 W) (.int .i64 D) (.int .i64 R) g.last g.had g.up g.q g.m (jV g.token g.silence (.slice a' (g.an+1) c') (g.an+1) (.slice a7 N c7) g.Bs.length g.calls g.Cs.length)):=BA.blk.set 15 _
     have hc8:aN (fun k=>k=g.b) w7 (w7.setCell ⟨g.b,15,none⟩ (.slice a7 N c7)):=(aN.refl _ _).setCell _ _ (fun _=>rfl)
     have EN:aW (w7.setCell ⟨g.b,15,none⟩ (.slice a7 N c7)) g.b 80 g.iv (.int .i64 W) (.int .i64 D) (.int .i64 R) g.last g.had g.up (jV g.token g.silence (.slice a' (g.an+1) c') (g.an+1) (.slice a7 N c7) g.Bs.length g.calls g.Cs.length) g.L g.q g.m:=⟨hB8,BA.oD.fZ hc8 (fun e=>BA.blk.lK BA.oD e.symm),BA.pO.fZ hc8 (fun e=>BA.blk.gV BA.pO e.symm)⟩
     have hSb:g.b≠w4.heap.size:=by omega
     have hS8:=hS7.fZ hc8 (fun e=>hSb e.symm)
     obtain⟨w8,hw8⟩:∃ w8,w7.setCell ⟨g.b,15,none⟩ (.slice a7 N c7)=w8:=⟨_,rfl⟩
     rw[hw8] at hB8 hc8 EN hS8
     have f16:w8.cell? ⟨g.b,16,none⟩=some (.int .i64 (g.Bs.length:Nat)):=EN.blk.cell 16
     have g16:=EN.blk.frozen 16
     have hB9:aU (w8.setCell ⟨g.b,16,none⟩ (.int .i64 ((g.Bs.length:Int)+1))) g.b 80 (rG g.iv (.int .i64 W) (.int .i64 D) (.int .i64 R) g.last g.had g.up g.q g.m (jV g.token g.silence (.slice a' (g.an+1) c') (g.an+1) (.slice a7 N c7) (g.Bs.length+1) g.calls g.Cs.length)):=EN.blk.set 16 _
     have Jp:aN (fun k=>k=g.b) w8 (w8.setCell ⟨g.b,16,none⟩ (.int .i64 ((g.Bs.length:Int)+1))):=(aN.refl _ _).setCell _ _ (fun _=>rfl)
     have he9:aW (w8.setCell ⟨g.b,16,none⟩ (.int .i64 ((g.Bs.length:Int)+1))) g.b 80 g.iv (.int .i64 W) (.int .i64 D) (.int .i64 R) g.last g.had g.up (jV g.token g.silence (.slice a' (g.an+1) c') (g.an+1) (.slice a7 N c7) (g.Bs.length+1) g.calls g.Cs.length) g.L g.q g.m:=⟨hB9,EN.oD.fZ Jp (fun e=>EN.blk.lK EN.oD e.symm),EN.pO.fZ Jp (fun e=>EN.blk.gV EN.pO e.symm)⟩
     have Y1:=hS8.fZ Jp (fun e=>hSb e.symm)
     obtain⟨w9,hw9⟩:∃ w9,w8.setCell ⟨g.b,16,none⟩ (.int .i64 ((g.Bs.length:Int)+1))=w9:=⟨_,rfl⟩
     rw[hw9] at hB9 Jp he9 Y1
     have u0:w9.cell? ⟨w4.heap.size,0,none⟩=some (.int .i64 (g.Bs.length:Nat)):=Y1.cell 0
     have Jq:aN (fun k=>k=g.b) w7 w9:=hc8.same Jp
     have Pz:aN (fun k=>k=g.b∨g.streams.ownBlock=some k) w4 w9:=((aN.of_below Hb6.out).same (QD.mono (fun k _ e=>Or.inr e))).same (Jq.mono (fun k _ e=>Or.inl e))
     have hcA:aN (fun k=>(k=g.b∨g.asked.ownBlock=some k)∨g.streams.ownBlock=some k) w w9:=((aN.of_below hbw3).same (uo.out.mono (fun k _ e=>Or.inl e))).same (Pz.mono (fun k _ e=>e.elim (fun e=>Or.inl (Or.inl e)) Or.inr))
     have hoA:Only w (fun k=>(k=g.b∨g.asked.ownBlock=some k)∨g.streams.ownBlock=some k) [80 + 2,162 + 2,166 + 2]:=((Only.nG HH.out.e.blk.tag (by decide)).or (Only.own HH.out.a (by decide))).or (Only.own HH.out.s.row (by decide))
     have abb:(Value.slice a7 N c7).ownBlock≠some g.b:=BA.blk.mQ EM (by decide)
     have abd:(Value.slice a' (g.an+1) c').ownBlock≠some g.b:=BA.blk.mQ XM (by decide)
     have MW:rJ w9 lo 166 (.slice a7 N c7) (g.Bs++[w4.heap.size]):=by
      have:=Jq.own EM (fun k hk e=>abb (e ▸ hk))
      rw[← HY.out,← Fp.out] at this
      rw[← Fp.out]
      show World.ownsRow _ _ _ _ _ _ _
      simpa[jr] using this
     have WY:qJ w9 lo (.slice a7 N c7) (g.Bs++[w4.heap.size]):=by
      have hoB:Only w4 (fun k=>k=g.b∨g.streams.ownBlock=some k) [80 + 2,166 + 2]:=(Only.nG HE4.out.blk.tag (by decide)).or (Only.own Nk.out.row (by decide))
      exact Nk.out.push (fun k xs hk=>hk.only Pz hoB (by decide)) ⟨_,Y1,rfl,rfl,rfl⟩ MW
     have HCl:Hid (Cl w9 lo W D R { g with asked:=.slice a' (g.an+1) c',an:=g.an+1,ax:=xs',streams:=.slice a7 N c7,Bs:=g.Bs++[w4.heap.size] }) :=
      hid {
       e:=(by
        show aW w9 g.b 80 g.iv (.int .i64 W) (.int .i64 D) (.int .i64 R) g.last g.had g.up (jV g.token g.silence (.slice a' (g.an+1) c') (g.an+1) (.slice a7 N c7) (g.Bs++[w4.heap.size]).length g.calls g.Cs.length) g.L g.q g.m
        rw[List.length_append,List.length_singleton]
        exact he9)
       a:=Jq.own XM (fun k hk e=>abd (e ▸ hk))
       s:=WY
       c:=HH.out.c.only hcA hoA (by decide) (by decide)
       i:=HH.out.i.only hcA hoA (by decide) (by decide) (by decide)
       xo:=HH.out.xo,xs:=HH.out.xs
       tot:=(by show g.an+1=(g.Bs++[w4.heap.size]).length+g.Cs.length;rw[List.length_append,List.length_singleton];have:=aa4.out;omega)
       nb:=(by show (g.Bs++[w4.heap.size]).length≤8;rw[List.length_append,List.length_singleton];have:=WW.out;omega)
       nc:=HH.out.nc,l:=HH.out.l,lu:=HH.out.lu,tk:=HH.out.tk,lb:=HH.out.lb,lq:=HH.out.lq,lm:=HH.out.lm }
     have YC:=hid hcA
     clear hcA hoA WY MW Pz Jq BA EN he9 hB8 hB9 hS7 hS8 Y1 XM EM YL QD hc8 Jp zS JC hwl
     go_wp2_with fail
     go_ret2
     refine⟨_,0,rfl,_,HCl.out,YC.out.mono (fun k _ e=>?_),⟨Or.inl rfl,Or.inl rfl,rfl,rfl,rfl,rfl⟩,Or.inr ⟨i,HF.out,Or.inr (Or.inr ⟨HC.out,WW.out,rfl,rfl,_,_,_,_,rfl⟩)⟩⟩
     rcases e with(e | e) | e
     ·rw[e];exact y8 g
     ·exact Or.inl (Or.inl (Or.inr e))
     ·exact Or.inl (Or.inr e)
end Go.Proofs.YtgalebcpagmohaaGreatDoor
