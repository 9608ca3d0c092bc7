/- A schema that may be: its fields' numbers and names differ, its names are of letters and digits (no walk). -/
import Derived.Test.YtolfcabodiphmaaGreatDoorV12
import Derived.Test.YtolfcabodiphmaaGreatDoorV16
import Derived.Test.YtolfcabodiphmaaGreatDoorV04
import Derived.Test.YtolfcabodiphmaaGreatDoorV00
set_option linter.unusedSimpArgs false
set_option linter.unusedVariables false
set_option maxHeartbeats 2000000
set_option maxRecDepth 100000
namespace Go.Proofs.YtolfcabodiphmaaGreatDoor
open Go.Proofs.Tryz
def Plain(X:List aO):Prop:=∀ x∈X,x.it.fields.Pairwise (fun f g=>f.number<g.number)∧x.it.fields.Pairwise (fun f g=>f.name.toList≠g.name.toList)
theorem yL{X:List aO}{b:List UInt8}{t:TD}(h:tyP X b=some t):∃ x∈X,t=(if x.it.kind==0 then Sum.inr (x.it.fields.map Ah) else Sum.inl (x.it.names.map (fun t=>t.text.toList))):=by
 unfold tyP at h
 cases hx:X[(bZ X b).toNat]? with
 | none=>rw[hx] at h;cases h
 | some x=>
  rw[hx] at h
  simp only at h
  split at h
  ·cases h
  ·refine⟨x,List.mem_of_getElem? hx,?_⟩
   split at h<;>(simp only[Option.some.injEq] at h;rw[← h];simp_all)
theorem OL{s:ByteArray}{X:List aO}(hs:s.size≤400)(h:(aV s).1=some (X.map (fun x=>x.it)))(hno:Plain X):QZ (tyP X):=by
 have src:∀ x∈X,QO s x.it:=fun x hx=>BX h _ (List.mem_map.2 ⟨x,hx,rfl⟩)
 have nm:∀ t,G5 s t→t.text.toList≠[]∧∀ c∈t.text.toList,gu c=true:=fun t ht=>⟨fun e=>by
  have h1:=(ht.size hs).1
  rw[VH.1 e] at h1
  omega,ht.1.letters (iw ht.2)⟩
 refine⟨fun b ns hb n hn=>?_,fun b fs hb f hf=>?_,fun b fs hb=>?_⟩
 ·obtain⟨x,hx,e⟩:=yL hb
  split at e
  ·cases e
  ·simp only[Sum.inl.injEq] at e
   subst e
   obtain⟨u,hu,rfl⟩:=List.mem_map.1 hn
   exact nm u ((src x hx).n u hu)
 ·obtain⟨x,hx,e⟩:=yL hb
  split at e
  ·simp only[Sum.inr.injEq] at e
   subst e
   obtain⟨u,hu,rfl⟩:=List.mem_map.1 hf
   obtain⟨t,ht,e2⟩:=((src x hx).f u hu).name
   show u.name.toList≠[]∧∀ c∈u.name.toList,gu c=true
   rw[e2]
   exact nm t ht
  ·cases e
 ·obtain⟨x,hx,e⟩:=yL hb
  split at e
  ·simp only[Sum.inr.injEq] at e
   subst e
   rw[List.pairwise_map]
   exact(hno x hx).2
  ·cases e
open Go.RowKit
def VI(X:List aO)(base:ByteArray)(d:List UInt8)(E:Int)(s:List UInt8):Prop :=
 (E=4∧s=[]∧hasB X base=false)∨(hasB X base=true ∧
  ((E=6∧s=[]∧(64<d.length∨∀ t,(decP X 6).1 base.toList d=some t→400<t.length))∨(E=0∧d.length≤64∧(decP X 6).1 base.toList d=some s∧s.length≤400)))
def J9(A:Int→List UInt8→Prop)(w:World)(e:Ending)(w':World):Prop:=∃ (t:ByteArray) (E:Int),e=.returned (.tuple #[.string t,.int .i64 E])∧Below w.heap.size w w'∧A E t.toList
theorem MR{X:List aO}{n:Nat}:∀ fs d s,kN X n fs d=some s→∃ r,s=123::r:=by
 intro fs d s h
 cases n with
 | zero=>cases h
 | succ n=>
  have h':Yp (decP X n).1 (decP X n).2 fs d=some s:=h
  unfold Yp at h'
  obtain⟨ps,_,h2⟩:=Option.bind_eq_some_iff.1 h'
  obtain⟨o,_,rfl⟩:=Option.map_eq_some_iff.1 h2
  exact⟨o,rfl⟩
theorem emptyS:(ByteArray.mk #[]).toList=[]:=by rw[ByteArray.toList_eq]
theorem Ko(w:World)(lo:Nat)(la:Option Addr)(ll lc:Nat)(X:List aO)(base:ByteArray)(dv:Value)(d:List UInt8)(hI:dK w lo (.slice la ll lc) X)(hX:OD X)(hP:Plain X)(hT:QZ (tyP X))(hE:Env w)(hd:pF w dv d)(hdl:d.length≤maxLen):
  Calls Tryz.prog 166 #[.slice la ll lc,.string base,dv] w (J9 (VI X base d) w):=by
 unfold J9
 unfold maxLen at hdl
 obtain⟨da,dc,hdv⟩:∃ a c,dv=.slice a d.length c:=hd.1.slice
 subst hdv
 have HI:=hid hI
 have HX:=hid hX
 have HE:=hid hE
 have HD:=hid hd
 have HP:=hid hP
 have HT:=hid hT
 clear hI hX hE hd hP hT
 go_enter func166,ntmps166
 go_wp2_with fail
 refine(rH w lo _ X base HI.out HX.out.nms HX.out.len).mono ?_;rintro e w1 ⟨rfl,hb1⟩
 have hz1:=hb1.size
 cases hh:hasB X base with
 | false=>
  have HH:=hid hh
  clear hh
  go_wp2_with fail
  go_ret2
  exact⟨_,4,rfl,hb1,Or.inl ⟨rfl,emptyS,HH.out⟩⟩
 | true=>
  have HH:=hid hh
  clear hh
  by_cases h4:d.length≤64
  ·have h4I:¬ (64:Int)<(d.length:Int):=by omega
   have h4D:decide ((64:Int)<(d.length:Int))=false:=by simp;omega
   have hbW:Below w1.heap.size w1 (w1.alloc (.cells #[.slice la ll lc,.pointer none,.slice none 0 0] 296)):=(Below.refl _ _).alloc (Nat.le_refl _) _
   have HDW:=hid (show yH (w1.alloc (.cells #[.slice la ll lc,.pointer none,.slice none 0 0] 296)) w1.heap.size w1.heap.size (.slice la ll lc) (.slice none 0 0) [] from⟨⟨none,Or.inl rfl,heap_alloc_new w1 _⟩,World.ownsRow_nil _ _ _ _⟩)
   have HI1:=hid (HI.out.below hb1)
   have EI:=hid (HE.out.below hb1)
   have HD1:=hid (HD.out.later hb1)
   have hzW:=hbW.size
   go_wp2_with fail
   generalize (w1.alloc (.cells #[.slice la ll lc,.pointer none,.slice none 0 0] 296))=wW at *
   refine((OI HX.out (fun x hx=>(HP.out x hx).1.imp (fun h=>by omega)) 6 (Nat.le_refl _)).1 w1 wW w1.heap.size lo la ll lc _ _ [] d base HI1.out HD1.out EI.out hbW (Nat.le_refl _) HDW.out h4 ⟨by simp;omega⟩).mono ?_
   rintro e w2 ⟨ok,v2,S,rfl,hdc,hdf,hSl,hsp⟩
   rw[List.nil_append] at hdc
   have Gv:Below w1.heap.size w1 w2:=hbW.trans (hdf.below (Nat.le_refl _) hzW)
   have hb2:=hb1.trans (Gv.mono hz1)
   have HDC:=hid hdc
   have uG:=hid hsp
   clear hdc hsp hdf
   cases ok with
   | false=>
    go_wp2_with fail
    go_ret2
    exact⟨_,6,rfl,hb2,Or.inr ⟨HH.out,Or.inl ⟨rfl,emptyS,Or.inr (fun t ht=>by rw[show (decP X 6).1 base.toList d=none from uG.out] at ht;cases ht)⟩⟩⟩
   | true=>
    have HS:=hid (show (decP X 6).1 base.toList d=some S from uG.out)
    have HN:=hid (show S≠[] from by
     have h1:=HS.out
     rw[JU] at h1
     have h2:=MJ HT.out (fun fs d s h=>MR fs d s h) h1
     intro e
     rw[e] at h2
     obtain⟨c,r,e2,_⟩:=h2
     cases e2)
    go_wp2_with fail
    refine(VE w2 _ _ _ _ S HDC.out).mono ?_;rintro e w3 ⟨rfl,rfl⟩
    by_cases aiE:S.length≤400
    ·have aiF:¬ (400:Int)<(S.length:Int):=by omega
     have anS:decide ((400:Int)<(S.length:Int))=false:=by simp;omega
     go_wp2_with fail
     refine(J6 w3 _ _ _ _ S HDC.out HN.out).mono ?_;rintro e w4 ⟨rfl,aiG⟩
     have hb4:=hb2.trans (aiG.mono hz1)
     obtain⟨t,uN⟩:∃ t,Hid (ByteArray.mk S.toArray=t):=⟨_,hid rfl⟩
     rw[uN.out]
     go_wp2_with fail
     go_ret2
     have htl:t.toList=S:=by rw[← uN.out,ByteArray.toList_eq]
     exact⟨t,0,rfl,hb4,Or.inr ⟨HH.out,Or.inr ⟨rfl,h4,by rw[htl];exact HS.out,by rw[htl];exact aiE⟩⟩⟩
    ·have aiF:(400:Int)<(S.length:Int):=by omega
     go_wp2_with fail
     go_ret2
     exact⟨_,6,rfl,hb2,Or.inr ⟨HH.out,Or.inl ⟨rfl,emptyS,Or.inr (fun t ht=>by rw[HS.out] at ht;cases ht;omega)⟩⟩⟩
  ·have h4I:(64:Int)<(d.length:Int):=by omega
   go_wp2_with fail
   go_ret2
   exact⟨_,6,rfl,hb1,Or.inr ⟨HH.out,Or.inl ⟨rfl,emptyS,Or.inl (by omega)⟩⟩⟩
open Go.Conc
structure Stat(lo:Nat)(w:World)(iv:Value)(X:List aO):Prop where
 i:∃ pl,dK w pl iv X
 xo:OD X
 pl:Plain X
 ty:QZ (tyP X)
 env:Env w
 own:∀ k,lo≤k→Own k
theorem yM{lo:Nat}{w w':World}{G:List fM}{e:TypeId}{size n pl:Nat}{v:Value}{xs:List Value}(ho:w.ownsRow pl e size v n xs)(hH:Has lo w G)(hc:aG (Key G) w w')(he:e+2∈[116 + 2,242 + 2,112 + 2]):w'.ownsRow pl e size v n xs :=
 hc.own ho (fun g hg hk=>by
  obtain⟨cur,hcur⟩:=mM ho hg
  obtain⟨p,hp,rfl⟩:=hk
  obtain⟨_,o,h1,_,h2⟩:=hH.all p hp
  rw[hcur] at h1
  cases h1
  exact h2 he)
theorem dK.keepR{lo pl:Nat}{w w':World}{G:List fM}{lv:Value}{X:List aO}(h:dK w pl lv X)(hH:Has lo w G)(hc:aG (Key G) w w'):dK w' pl lv X :=
 ⟨yM h.own hH hc (by decide),fun x hx=>⟨yM (h.nest x hx).f hH hc (by decide),yM (h.nest x hx).n hH hc (by decide)⟩⟩
theorem Env.keepR{w w':World}{F:Nat→Prop}(h:Env w)(hc:aG F w w')(hF:∀ k,F k→Own k):Env w':=by
 have hv:=h.v
 obtain⟨te,pe,h1⟩:=hv.sx
 obtain⟨tf,pf,h2⟩:=hv.rg
 have l1:=hv.X6
 have l2:=hv.X7
 refine⟨⟨⟨te,pe,(hc.cell l1 (fun e=>(hF _ e).1 rfl)).trans h1⟩,⟨tf,pf,(hc.cell l2 (fun e=>(hF _ e).2.1 rfl)).trans h2⟩,Nat.lt_of_lt_of_le l1 hc.size,Nat.lt_of_lt_of_le l2 hc.size⟩,?_,Nat.lt_of_lt_of_le h.lt hc.size⟩
 have:=h.t
 unfold Lib.TabIs World.var? at this ⊢
 rw[gTab] at this ⊢
 simp only[Option.bind_some] at this ⊢
 rw[hc.block _ h.lt (fun e=>(hF _ e).2.2 rfl)]
 exact this
theorem Stat.keep{lo:Nat}{w w':World}{G:List fM}{iv:Value}{X:List aO}(h:Stat lo w iv X)(hH:Has lo w G)(hc:aG (Key G) w w'):Stat lo w' iv X:=by
 obtain⟨pl,hp⟩:=h.i
 exact⟨⟨pl,hp.keepR hH hc⟩,h.xo,h.pl,h.ty,h.env.keepR hc (fun k hk=>h.own k (hH.lt hk).1),h.own⟩
theorem Stat.below{lo:Nat}{w w':World}{iv:Value}{X:List aO}(h:Stat lo w iv X)(hb:Below w.heap.size w w'):Stat lo w' iv X :=
 h.keep (lo:=lo) (Has.nil lo w) (aG.of_below hb)
theorem gG.stat{lo:Nat}{w w':World}{g g':CG}{p:CP}{iv:Value}{X:List aO}(h:gG lo w g p w' g')(hc:Cli lo w g)(hs:Stat lo w iv X):Stat lo w' iv X:=hs.keep hc.has h.grow.c
def dU(X:List aO):Dec:=fun base d=>if hasB X base=true∧d.length≤64 then match (decP X 6).1 base.toList d with
  | some s=>if s.length≤400 then some ⟨s.toArray⟩ else none
  | none=>none
 else none
theorem MS{X:List aO}{base:ByteArray}{d:List UInt8}{E:Int}{s:List UInt8}(h:VI X base d E s)(hE:E≠0):dU X base d=none:=by
 unfold dU
 rcases h with⟨_,_,h⟩ | ⟨h,⟨_,_,h2⟩ | ⟨h2,_⟩⟩
 ·rw[if_neg (by simp[h])]
 ·split
  ·rename_i hh
   rcases h2 with h2 | h2
   ·omega
   ·split
    ·rename_i t ht
     rw[if_neg (by have:=h2 t ht;omega)]
    ·rfl
  ·rfl
 ·exact absurd h2 hE
theorem MV{X:List aO}{base:ByteArray}{d:List UInt8}{t:ByteArray}(h:VI X base d 0 t.toList):dU X base d=some t:=by
 unfold dU
 rcases h with⟨h,_⟩ | ⟨h,⟨h2,_⟩ | ⟨_,h3,h4,h5⟩⟩
 ·cases h
 ·cases h2
 ·rw[if_pos ⟨h,h3⟩,h4]
  show (if t.toList.length≤400 then some (⟨t.toList.toArray⟩:ByteArray) else none)=some t
  rw[if_pos h5,ByteArray.toList_eq]
theorem OM(s:ByteArray)(w:World):(convert 9 64 (.string s)).run Tryz.prog w=.ok (.slice (some ⟨w.heap.size,0,none⟩) s.size (grownCap w s.size 0 5)) (Lib.bytesWorld w 5 s) :=
 Lib.run_convert_string_bytes w 9 64 5 s underlying9 underlying64 underlying5
theorem Rl(w:World)(s:ByteArray):pF (Lib.bytesWorld w 5 s) (.slice (some ⟨w.heap.size,0,none⟩) s.size (grownCap w s.size 0 5)) s.toList:=by
 have hsl:s.toList.length=s.size:=by rw[ByteArray.toList_eq];rfl
 refine⟨Or.inr ⟨⟨w.heap.size,0,none⟩,_,by rw[hsl],fun j u hu=>?_⟩,⟨_,_,by rw[hsl],by rw[hsl];exact grownCap_ge _ _ _ _⟩⟩
 have hj:j<s.size:=by
  rcases Nat.lt_or_ge j s.size with h | h
  ·exact h
  ·rw[List.getElem?_eq_none (by simp;omega)] at hu;cases hu
 rw[fE _ _ rfl,Nat.zero_add,Lib.bytesWorld_cell w _ s j hj]
 rw[List.getElem?_map,ByteArray.toList_eq,List.getElem?_eq_getElem (by rw[← ByteArray.toList_eq];omega)] at hu
 simp only[Option.map_some,Option.some.injEq] at hu
 rw[← hu]
 simp only[aZ,List.getD_eq_getElem?_getD]
 rw[List.getElem?_eq_getElem (by rw[← ByteArray.toList_eq];omega)]
 rfl
theorem rZ(w:World)(s:ByteArray):Below w.heap.size w (Lib.bytesWorld w 5 s):=⟨rfl,rfl,rfl,by rw[Lib.bytesWorld_size];omega,fun k hk=>Lib.bytesWorld_at_old w _ s k hk⟩
theorem CQ{lo:Nat}{w W:World}{la:Option Addr}{ll lc:Nat}{X:List aO}(hs:Stat lo w (.slice la ll lc) X)(hb:Below w.heap.size w W)(base data:ByteArray)(hd:data.size≤1000):
  Calls Tryz.prog 166 #[.slice la ll lc,.string base,.slice (some ⟨W.heap.size,0,none⟩) data.size (grownCap W data.size 0 5)] (Lib.bytesWorld W 5 data) (fun e w'=>∃ (t:ByteArray) (E:Int),e=.returned (.tuple #[.string t,.int .i64 E])∧Below w.heap.size w w'∧((E≠0∧dU X base data.toList=none)∨(E=0∧dU X base data.toList=some t))):=by
 have hb2:=hb.trans ((rZ W data).mono hb.size)
 have hs2:=hs.below hb2
 obtain⟨pl,hp⟩:=hs2.i
 refine(Ko _ pl la ll lc X base _ data.toList hp hs2.xo hs2.pl hs2.ty hs2.env (Rl W data) (by rw[ByteArray.toList_eq];show data.size≤_;unfold maxLen;omega)).mono ?_
 rintro e w' ⟨t,E,rfl,hb3,hA⟩
 refine⟨t,E,rfl,hb2.trans (hb3.mono hb2.size),?_⟩
 by_cases hE:E=0
 ·subst hE;exact Or.inr ⟨rfl,MV hA⟩
 ·exact Or.inl ⟨hE,MS hA hE⟩
theorem kZ.row{lo:Nat}{w:World}{m:kZ}(h:Has lo w m.res)(hv:eX 1 m.vv m.s.values.length (lg m.s.values)):w.ownsRow lo 9 1 m.vv m.s.values.length (lg m.s.values):=h.own hv (fun p hp=>List.mem_append_right _ hp)
theorem vG{α:Type}(f:α → α):∀ (l1:List α) (a:α) (l2:List α),(l1++a::l2).modify l1.length f=l1++f a::l2
 | [],a,l2=>by simp
 | b::r,a,l2=>by simpa using vG f r a l2
theorem CS{α:Type}{l:List α}{i:Nat}{a:α}(h:l[i]? = some a):l=l.take i++a::l.drop (i+1)∧(l.take i).length=i:=by
 obtain⟨hi,rfl⟩:=List.getElem?_eq_some_iff.1 h
 exact⟨by rw[← List.drop_eq_getElem_cons hi,List.take_append_drop],by simp;omega⟩
theorem vS.streams{c:CP}(h:vS c)(i:Nat)(f:F8→F8):vS { c with streams:=c.streams.modify i f }:=⟨h.a,by show (c.streams.modify i f).length≤1000;rw[List.length_modify];exact h.s,h.ca,h.at_,h.si,h.n⟩
theorem gG.side{lo:Nat}{w w' w'':World}{g g':CG}{p:CP}(h:gG lo w g p w' g'){F:Nat→Prop}(hc:aG F w' w'')(hF:∀ k,F k→w.heap.size≤k∧¬ Key g'.res k):gG lo w g p w'' g' :=
 ⟨⟨h.cli.has.keep hc (fun k hk hf=>(hF k hf).2 hk),h.cli.ra,h.cli.rs,h.cli.rc,h.cli.rv⟩,h.st,⟨h.grow.c.trans hc (fun i hi hf=>absurd hi (by have:=(hF i hf).1;omega)),h.grow.k⟩,h.b,h.iv,h.cfg⟩
theorem Cli.aaE{lo:Nat}{w:World}{g:CG}(h:Cli lo w g):¬ g.cv.ownBlock=some g.b:=h.blk.dF h.sV (by decide)
theorem ae7(g:CG)(v:Value)(l:List jE):g.cells.set 17 v=({ g with cv:=v,calls:=l }:CG).cells:=rfl
theorem Cli.abQ{lo:Nat}{w w6:World}{g:CG}{k:Nat}{mm:jE}{v:Value}(h:Cli lo w g)(hm:g.calls[k]? = some mm)(hrow:w6.ownsRow lo 125 1 v ((g.calls.map (fun m=>m.blk)).eraseIdx k).length (((g.calls.map (fun m=>m.blk)).eraseIdx k).map aJ))(hob:v.ownBlock=g.cv.ownBlock)(hc:aG (fun k=>g.cv.ownBlock=some k) w w6):
  aK w6 g.b 96 g.cells∧∃ g',gG lo w g { g.st with calls:=g.st.calls.eraseIdx k } (w6.setCell ⟨g.b,17,none⟩ v) g':=by
 have hnb:=h.aaE
 have hB6:=h.blk.dB hc hnb
 refine⟨hB6,{ g with cv:=v,calls:=g.calls.take k++g.calls.drop (k+1) },?_⟩
 have Tz:aG (fun k=>k=g.b) w6 (w6.setCell ⟨g.b,17,none⟩ v):=(aG.refl _ _).setCell _ _ (fun _=>rfl)
 obtain⟨e1,e2⟩:=CS hm
 have hrow2:w6.ownsRow lo 125 1 v (g.calls.take k++g.calls.drop (k+1)).length ((g.calls.take k++g.calls.drop (k+1)).map (fun m=>aJ m.blk)):=by
  have e3:(g.calls.map (fun m=>m.blk)).eraseIdx k=(g.calls.take k++g.calls.drop (k+1)).map (fun m=>m.blk):=by rw[EJ,List.eraseIdx_eq_take_drop_succ]
  rw[e3,List.length_map,List.map_map] at hrow
  exact hrow
 have DT:=hB6.set 17 v
 rw[ae7 g v (g.calls.take k++g.calls.drop (k+1))] at DT
 have hT:=h.adX e1 v ((hc.mono (fun k _ hk=>Or.inr hk)).same (Tz.mono (fun k _ hk=>Or.inl hk))) DT (Tz.own hrow2 (fun k hk e=>hnb (by rw[← hob,hk,e]))) hob
 have aiH:(({ g with cv:=v,calls:=g.calls.take k++g.calls.drop (k+1) }:CG).st) = { g.st with calls:=g.st.calls.eraseIdx k }:=by
  unfold CG.st
  simp only[List.eraseIdx_eq_take_drop_succ,List.map_append,List.map_take,List.map_drop]
 rw[aiH] at hT
 exact hT
theorem OO(w:World)(b:Nat)(x y z:Value):aG (fun k=>k=b) w (((w.setCell ⟨b,0,none⟩ x).setCell ⟨b,1,none⟩ y).setCell ⟨b,2,none⟩ z) :=
 (((aG.refl (fun k=>k=b) w).setCell ⟨b,0,none⟩ x (fun _=>rfl)).setCell ⟨b,1,none⟩ y (fun _=>rfl)).setCell ⟨b,2,none⟩ z (fun _=>rfl)
theorem Ai{w:World}{b:Nat}{T:TypeId}{u0 u1 u2:Value}(h:aK w b T [u0,u1,u2])(x y z:Value):aK (((w.setCell ⟨b,0,none⟩ x).setCell ⟨b,1,none⟩ y).setCell ⟨b,2,none⟩ z) b T [x,y,z]:=((h.set 0 x).set 1 y).set 2 z
theorem Fj{w w0:World}{b:Nat}(h:Below w.heap.size w w0)(hb:w.heap.size≤b)(x y z:Value):Below w.heap.size w (((w0.setCell ⟨b,0,none⟩ x).setCell ⟨b,1,none⟩ y).setCell ⟨b,2,none⟩ z) :=
 ((h.setCell (p:=⟨b,0,none⟩) hb x).setCell (p:=⟨b,1,none⟩) hb y).setCell (p:=⟨b,2,none⟩) hb z
theorem xG(b:Nat)(xs:List Value)(n num:Int)(cb:Nat)(w:World)(hB:aK w b 129 xs)(h0:xs[0]? = some (.int .i64 n))(hc:w.cell? ⟨cb,0,none⟩=some (.int .i64 num)):
  Calls Tryz.prog 131 #[aJ b,.pointer (some ⟨cb,0,none⟩)] w (fun e w'=>e=.returned (.bool (n==num))∧Below w.heap.size w w'):=by
 unfold aJ
 have d0:w.cell? ⟨b,0,none⟩=some (.int .i64 n):=(hB.cell 0).trans h0
 clear hB h0
 go_enter func131,ntmps131
 go_wp2_with fail
 go_region
 all_goals
  go_wp2_with fail
  go_ret
  exact⟨rfl,(Below.refl _ _).drew⟩
theorem qm(w:World)(b:Nat)(v0 v1 v2:Value)(h:aK w b 127 [v0,v1,v2]):(loadVar 127 ⟨b,0,none⟩).run Tryz.prog w=.ok (.agg #[v0,v1,v2]) w:=by
 have e0:w.cell? ⟨b,0,none⟩=some v0:=h.cell 0
 have e1:w.cell? ⟨b,1,none⟩=some v1:=h.cell 1
 have e2:w.cell? ⟨b,2,none⟩=some v2:=h.cell 2
 simp[go_sem,e0,e1,e2]
end Go.Proofs.YtolfcabodiphmaaGreatDoor
