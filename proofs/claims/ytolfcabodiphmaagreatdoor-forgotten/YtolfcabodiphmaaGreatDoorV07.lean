/- The parser of package schemas: the NAMEs between braces. -/
import Derived.Test.YtolfcabodiphmaaGreatDoorV06
import Derived.Maps.OwnOps
import Derived.Maps.Views
import Derived.Deep.RegionWith
set_option linter.unusedSimpArgs false
set_option linter.unusedVariables false
set_option maxHeartbeats 4000000
set_option maxRecDepth 100000
namespace Go.Proofs.YtolfcabodiphmaaGreatDoor
open Go.Proofs.Tryz
open Go.RowKit
theorem Tryz.infoPName:(Tryz.prog.info? 112).map (fun i=>(i.zero,i.size,i.bytes))=some (some (.agg #[.string ⟨#[]⟩,.int .i64 0]),2,24):=by kernel_rfl
def namesT(s:ByteArray):Nat→aN→List aN→Bool × aN × List aN
 | 0,t,L=>(false,t,L)
 | f+1,t,L=>
  if cO t=true then
   if ((aj s t).kind==5)=true then(true,aj s (aj s t),L++[t])
   else namesT s f (aj s t) (L++[t])
  else(false,t,L)
def gQ(s:ByteArray)(t:aN):Bool × aN × List aN:=if (t.kind==4)=true then namesT s (s.size+1) (aj s t) [] else(false,t,[])
theorem LQ(w:World)(pb:Nat)(s:ByteArray)(t:aN)(ib io:Nat)(T:TypeId)(h:Ps w pb s t)(ht:Tk s t)(hl:Seg w ib T io [.slice none 0 0])(hne:ib≠pb)(h1:ib ≠ 3)(h2:ib ≠ 4):
  Calls Tryz.prog 185 #[.pointer (some ⟨pb,0,none⟩),.pointer (some ⟨ib,io,none⟩),.func (Fn.func 182) #[.pointer (some ⟨pb,0,none⟩)] #[]] w fun e w'=>∃ v,e=.returned (.bool (gQ s t).1)∧Ps w' pb s (gQ s t).2.1∧Seg w' ib T io [v]∧w'.ownsRow w.heap.size 112 2 v (gQ s t).2.2.length ((gQ s t).2.2.flatMap aB)∧((gQ s t).2.2=[]→v=.slice none 0 0)∧Wrote w w' pb ib io 1:=by
 obtain⟨iF,hiF,hF0,hF1,hF2⟩:=info_parts Tryz.infoPName
 have hpl:=h.seg.lt
 have hil:=hl.lt
 have hv1:=h.vars.X6
 have hv2:=h.vars.X7
 have hsz:=h.sz
 generalize hR:gQ s t=R
 have HR:=hid hR
 have H:=hid h
 have HT:=hid ht
 have HL:=hid hl
 clear h ht hl hR
 go_enter func185,ntmps185
 go_wp2_with fail
 refine(jV _ pb s t 4 H.out).mono ?_;rintro e w1 ⟨rfl,hp1,hb1⟩
 cases hk:(t.kind==4)
 case' false=>
  have HX:=hid (show R=(false,t,[]) by rw[← HR.out];simp[gQ,hk])
  rw[hk] at hp1
  go_wp2_with fail
  go_ret
  exact⟨.slice none 0 0,by rw[HX.out];rfl,by rw[HX.out];exact hp1,HL.out.same (hb1.block ib hil hne),by rw[HX.out];exact World.ownsRow_nil _ _ _ _,fun _=>rfl,Wrote.jy hb1 hil hne⟩
 case' true=>
  have HX:=hid (show namesT s (s.size+1) (aj s t) []=R by rw[← HR.out];simp[gQ,hk])
  rw[hk] at hp1
  have jJ:=hid hp1
  have HW1:=hid (Wrote.jy (no:=io) (n:=1) hb1 hil hne)
  have Oj:=hid (HL.out.same (hb1.block ib hil hne))
  clear hp1 hb1
  go_wp2_with fail
  go_loopg [7] (s.size+1) (fun gk one wr=>∃ t1 L v,s.size<t1.at_+gk∧L.length≤t1.at_∧Hid (namesT s gk t1 L=R)∧Hid (Ps wr pb s t1)∧Hid (Tk s t1)∧Hid (Seg wr ib T io [v])∧Hid (wr.ownsRow w.heap.size 112 2 v L.length (L.flatMap aB))∧Hid (L=[]→v=.slice none 0 0)∧Hid (Wrote w wr pb ib io 1))
  case atStart=>exact⟨aj s t,[],.slice none 0 0,by omega,by simp,HX,jJ,hid HT.out.next,Oj,hid (World.ownsRow_nil _ _ _ _),hid (fun _=>rfl),HW1⟩
  case round=>
   obtain⟨t1,L,v,hgk,hLl,EN,HP,pz,HLC,HOW,HNL,HWR⟩:=hrel
   obtain⟨va,vc,hvv⟩:∃ a c,v=.slice a L.length c:=ay HOW.out
   subst hvv
   have hfit:=pz.out.fit
   obtain⟨gk',rfl⟩:∃ gk',gk=gk'+1:=⟨gk-1,by omega⟩
   have hws:=HWR.out.size
   go_wp2_with fail
   have hbox:Seg (wr.alloc (.cells #[.string ⟨#[]⟩,.int .i64 0] 112)) wr.heap.size 112 0 [.string ⟨#[]⟩,.int .i64 0]:=⟨_,heap_alloc_new wr _,by simp,by simp⟩
   have hb0:Below wr.heap.size wr (wr.alloc (.cells #[.string ⟨#[]⟩,.int .i64 0] 112)):=(Below.refl _ _).alloc (Nat.le_refl _) _
   refine(name_any _ pb s t1 wr.heap.size 0 112 _ _ (HP.out.below hb0) hbox (by omega) (by omega) (by omega)).mono ?_;rintro e w2 ⟨rfl,hp2,hfd,hw2⟩
   have hfl:wr.heap.size<w2.heap.size:=Nat.lt_of_lt_of_le (by simp) hw2.size
   have Uo:w2.heap[ib]? = wr.heap[ib]?:=(hw2.block ib (by simp;omega) hne (by omega)).trans (hb0.block ib (by omega))
   have Ur:=HLC.out.same Uo
   have Us:=aC (w':=w2) HOW.out (fun g hg=>by
    have hlt:=HOW.out.lt g hg
    exact(hw2.block g (by simp;omega) (by omega) (by omega)).trans (hb0.block g hlt.2))
   have hwr2:Wrote w w2 pb ib io 1:=(HWR.out.tq (hb0.mono hws) hil).box hw2 hws hil hne
   have HP2:=hid hp2
   have LM:=hid Ur
   have LP:=hid Us
   have Ut:=hid hwr2
   have Qm:=hid hfd
   clear hp2 hw2 hfd Uo Ur Us hwr2 hbox hb0 HP HLC HOW HWR
   cases hf:cO t1
   case' false=>
    have HY:=hid (show R=(false,t1,L) by rw[← EN.out];simp[namesT,hf])
    go_wp2_with fail
    go_ret
    exact⟨_,by rw[HY.out];rfl,by rw[HY.out];rw[hf] at HP2;exact HP2.out,LM.out,by rw[HY.out];exact LP.out,by rw[HY.out];exact HNL.out,Ut.out⟩
   case' true=>
    have hat:t1.kind=2:=by simp only[cO,Bool.and_eq_true] at hf;exact eq_of_beq hf.2
    have e0:=Qm.out.cell (j:=0) (v:=.string t1.text) rfl
    have e1:=Qm.out.cell (j:=1) (v:=.int .i64 t1.at_) rfl
    rw[hf] at HP2
    have c0:=LM.out.cell (j:=0) (v:=.slice va L.length vc) rfl
    simp only[Nat.zero_add,Nat.add_zero] at e0 e1 c0
    have c0a:=Bd c0 (show ib<w2.heap.size by omega)
    have HAT:=hid hat
    have X9:=hid (show namesT s (gk'+1) t1 L=R from EN.out)
    clear EN Qm
    go_wp2_with fail
    go_region_law (refine step_append_lies _ rfl (.tmp 17) (.tmp 19) 114 rfl w.heap.size 112 iF _ 2 24 underlying114 hiF hF0 hF1 hF2 rfl (by decide) _ _ _ (by simp[Act.eval]) (LP.out.alloc _) ⟨w2.heap.size,0,none⟩ 1 1 (aB t1) (by simp[Act.eval]) rfl (yu w2 #[.string t1.text,.int .i64 t1.at_] _) (by simp[aB,Value.oneCell']) (by omega) (by unfold maxLen;omega) (by omega) (by simp;omega) _ rfl ?_;intro g cp w3 hown' hgrow hgat ahH;have hb3:Below w.heap.size w2 w3:=((Below.refl w.heap.size w2).alloc (by omega) _).drew.grown hgrow (by show w.heap.size≤(w2.alloc _).heap.size;simp;omega) (fun k hk=>(LP.out.lt k hk).1);have Gx:=LM.out.same (hb3.block ib hil);have c03:=Gx.cell (j:=0) (v:=.slice va L.length vc) rfl;have cf3:∀ j,w3.frozen? ⟨ib,j,none⟩=false:=fun j=>Gx.frozen j;simp only[Nat.add_zero] at c03;have abd:=hid Gx;have HB3:=hid hb3;have Ya:=hid hown';clear Gx hb3 hown' hgrow hgat)
    all_goals
     go_wp2_with fail
     have vT:=(HP2.out.Gw HB3.out hpl hv1 hv2).store hne h1 h2 io (.slice (some ⟨g,0,none⟩) (L.length+1) cp)
     have Tq:=ownsRow_setCell_below (a:=⟨ib,io,none⟩) Ya.out hil (.slice (some ⟨g,0,none⟩) (L.length+1) cp)
     have hs4:=abd.out.set 0 (.slice (some ⟨g,0,none⟩) (L.length+1) cp)
     have hw4:=(Ut.out.tq HB3.out hil).setCell 0 (by omega) (.slice (some ⟨g,0,none⟩) (L.length+1) cp)
     simp only[Nat.add_zero] at hs4 hw4
     have ahI:=hw4.size
     refine(jV _ pb s (aj s t1) 5 vT).mono ?_;rintro e w5 ⟨rfl,Bg,hb5⟩
     have Ad:=hid Bg
     have Qn:=hid (hs4.same (hb5.block ib (by omega) hne))
     have HW5:=hid (hw4.but hb5 hil hne)
     have HO5:=hid (show w5.ownsRow w.heap.size 112 2 (.slice (some ⟨g,0,none⟩) (L.length+1) cp) (L++[t1]).length ((L++[t1]).flatMap aB) by
      have:=aC (w':=w5) Tq (fun gg hgg=>hb5.block gg (Tq.lt gg hgg).2 (by have:=(Tq.lt gg hgg).1;omega))
      simpa using this)
     clear vT Tq hs4 hw4 Bg hb5 e0 e1 c0 c0a c03 cf3
     cases hk5:((aj s t1).kind==5)
     case' true=>
      have HZ:=hid (show R=(true,aj s (aj s t1),L++[t1]) by rw[← X9.out];simp only[namesT,hf,hk5,if_true])
      rw[hk5] at Ad
      go_wp2_with fail
      go_ret
      exact⟨_,by rw[HZ.out];rfl,by rw[HZ.out];exact Ad.out,Qn.out,by rw[HZ.out];exact HO5.out,fun hh=>(by rw[HZ.out] at hh;simp at hh),HW5.out⟩
     case' false=>
      have HZ:=hid (show namesT s gk' (aj s t1) (L++[t1])=R by rw[← X9.out];simp only[namesT,hf,hk5,if_true];rw[if_neg (by decide)])
      rw[hk5] at Ad
      have X0:t1.at_<(aj s t1).at_:=by have:=fV s t1;have:=pz.out.pos (by have:=HAT.out;omega);omega
      have HT2:=hid pz.out.next
      go_wp2_with fail
      go_roundg gk'
      case rel=>exact⟨(aj s t1),L++[t1],_,by omega,by simp;omega,HZ,Ad,HT2,Qn,HO5,hid (fun hh=>by simp at hh),HW5⟩
      case measure=>omega
structure iP where
 kind:Nat
 name:aN
 fields:List bI
 names:List aN
 base:List Value
 answer:List Value
structure aO where
 it:iP
 vf:Value
 vn:Value
def aS:List Value:=[.string ⟨#[]⟩,.int .i64 0]
def fF(x:aO):List Value:=[.int .i64 x.it.kind]++aB x.it.name++[x.vf]++[x.vn]++x.it.base++x.it.answer
def jW:List Value:=[.int .i64 0,.string ⟨#[]⟩,.int .i64 0,.slice none 0 0,.slice none 0 0,.string ⟨#[]⟩,.int .i64 0,.string ⟨#[]⟩,.int .i64 0]
structure wV(w:World)(lo:Nat)(x:aO):Prop where
 f:w.ownsRow lo 242 7 x.vf x.it.fields.length (x.it.fields.flatMap dI)
 n:w.ownsRow lo 112 2 x.vn x.it.names.length (x.it.names.flatMap aB)
def cZ(s:ByteArray)(t:aN):Bool × aN × iP :=
 if aI t dP=true then
  (if cO (aj s t)=true then((gK s (aj s (aj s t))).1,(gK s (aj s (aj s t))).2.1,⟨0,aj s t,(gK s (aj s (aj s t))).2.2,[],aS,aS⟩) else(false,aj s t,⟨0,t,[],[],aS,aS⟩))
 else if aI t mY=true then
  (if cO (aj s t)=true then((gQ s (aj s (aj s t))).1,(gQ s (aj s (aj s t))).2.1,⟨1,aj s t,[],(gQ s (aj s (aj s t))).2.2,aS,aS⟩) else(false,aj s t,⟨1,t,[],[],aS,aS⟩))
 else if aI t je=true then
  (if cO (aj s t)=true then(eH (aj s (aj s t)),dW (eH (aj s (aj s t))) s (aj s (aj s t)),⟨2,aj s t,[],[],aB (aj s (aj s t)),aS⟩) else(false,aj s t,⟨2,t,[],[],aS,aS⟩))
 else if aI t qE=true then
  (if cO (aj s t)=true then
   (if eH (aj s (aj s t))=true then(eH (aj s (aj s (aj s t))),dW (eH (aj s (aj s (aj s t)))) s (aj s (aj s (aj s t))),⟨3,aj s t,[],[],aB (aj s (aj s t)),aB (aj s (aj s (aj s t)))⟩)
    else(false,aj s (aj s t),⟨3,t,[],[],aS,aS⟩))
   else(false,aj s t,⟨3,t,[],[],aS,aS⟩))
 else(false,t,⟨0,t,[],[],aS,aS⟩)
def iQ(w:World)(pb:Nat)(s:ByteArray)(t:aN)(ib:Nat)(e:Ending)(w':World):Prop :=
 e=.returned (.bool (cZ s t).1)∧Ps w' pb s (cZ s t).2.1∧Wrote w w' pb ib 0 9∧((cZ s t).1=true→∃ x:aO,x.it=(cZ s t).2.2∧Seg w' ib 116 0 (fF x)∧wV w' w.heap.size x)
theorem Gy(w:World)(pb:Nat)(s:ByteArray)(t:aN)(ib:Nat)(h:Ps w pb s t)(ht:Tk s t)(hn:Seg w ib 116 0 jW)(hne:ib≠pb)(h1:ib ≠ 3)(h2:ib ≠ 4)(hw0:aI t [109,101,115,115,97,103,101]=true):
  Calls Tryz.prog 134 #[.pointer (some ⟨pb,0,none⟩),.pointer (some ⟨ib,0,none⟩)] w (iQ w pb s t ib):=by
 have hil:=hn.lt
 have H:=hid h
 have HT:=hid ht
 have HN:=hid hn
 clear h ht hn
 generalize hI:cZ s t=R
 have HI:=hid hI
 unfold iQ
 rw[hI]
 clear hI
 go_enter func134,ntmps134
 go_wp2_with fail
 refine(eU _ pb s t _ H.out).mono ?_;rintro e w0 ⟨rfl,hp0,hb0⟩
 have hx0:aI t (ByteArray.mk #[109,101,115,115,97,103,101]).toList=true:=by rw[ByteArray.toList_eq];exact hw0
 rw[hx0] at hp0 ⊢
 have hbk:=hb0
 have hsk:=HN.out.same (hbk.block ib hil hne)
 have e0:=hsk.cell (j:=0) (v:=.int .i64 0) rfl
 have ef:∀ j,w0.frozen? ⟨ib,j,none⟩=false:=fun j=>hsk.frozen j
 simp only[Nat.zero_add] at e0
 have HPK:=hid hp0
 have Qo:=hid hsk
 have II:=hid hbk
 clear hsk hbk hp0
 go_wp2_with fail
 have hss:=Qo.out.set 0 (.int .i64 0)
 simp only[Nat.zero_add] at hss
 have a0:=hss.part 0 1 [.int .i64 0] rfl rfl (by omega)
 have a1:=hss.part 1 2 aS rfl rfl (by omega)
 have a3:=hss.part 3 1 [.slice none 0 0] rfl rfl (by omega)
 have a4:=hss.part 4 1 [.slice none 0 0] rfl rfl (by omega)
 have a5:=hss.part 5 2 aS rfl rfl (by omega)
 have a7:=hss.part 7 2 aS rfl rfl (by omega)
 simp only[Nat.zero_add] at a0 a1 a3 a4 a5 a7
 have A0:=hid a0
 have A1:=hid a1
 have A3:=hid a3
 have A4:=hid a4
 have A5:=hid a5
 have A7:=hid a7
 have P0:=hid (HPK.out.store (nb:=ib) hne h1 h2 0 (.int .i64 0))
 have W0:=hid ((Wrote.jy (no:=0) (n:=9) II.out hil hne).setCell 0 (by omega) (.int .i64 0))
 have hz0:=W0.out.size
 clear hss a0 a1 a3 a4 a5 a7 e0 ef
 have HT1:=hid HT.out.next
 refine(name_any _ pb s (aj s t) ib 1 _ _ _ P0.out A1.out hne h1 h2).mono ?_;rintro e w5 ⟨rfl,Bg,hs5,hw5⟩
 have W5:=hid (W0.out.trans (hw5.wide (fo:=0) (m:=9) (by omega) (by omega)))
 have B0:=hid (hw5.seg _ _ _ (Or.inl (by simp)) A0.out)
 have B3:=hid (hw5.seg _ _ _ (Or.inr (by simp)) A3.out)
 have B4:=hid (hw5.seg _ _ _ (Or.inr (by simp)) A4.out)
 have B5:=hid (hw5.seg _ _ _ (Or.inr (by simp)) A5.out)
 have B7:=hid (hw5.seg _ _ _ (Or.inr (by simp)) A7.out)
 have S5:=hid hs5
 have P5:=hid Bg
 have Uu:=W5.out.size
 clear Bg hs5 hw5 A0 A1 A3 A4 A5 A7 P0 W0
 cases hno:cO (aj s t)
 case' false=>
  have HX:=hid (show R.1=false∧R.2.1=aj s t by rw[← HI.out];simp[cZ,dP,hw0,hno])
  rw[hno] at P5
  go_wp2_with fail
  go_ret
  exact⟨by rw[HX.out.1];rfl,by rw[HX.out.2];exact P5.out,W5.out,fun hh=>(by rw[HX.out.1] at hh;cases hh)⟩
 case' true=>
  rw[hno] at P5
  go_wp2_with fail
  refine(LK _ pb s (aj s (aj s t)) ib 3 _ P5.out HT1.out.next B3.out hne h1 h2).mono ?_;rintro e w6 ⟨v,rfl,Ou,hs6,ho6,_,hw6⟩
  have HX:=hid (show R=((gK s (aj s (aj s t))).1,(gK s (aj s (aj s t))).2.1,⟨0,aj s t,(gK s (aj s (aj s t))).2.2,[],aS,aS⟩) by rw[← HI.out];simp[cZ,dP,hw0,hno])
  have W6:=hid (W5.out.trans (hw6.wide (fo:=0) (m:=9) (by omega) (by omega)))
  have C0:=hid (hw6.seg _ _ _ (Or.inl (by simp)) B0.out)
  have C1:=hid (hw6.seg _ _ _ (Or.inl (by simp[aB])) S5.out)
  have C4:=hid (hw6.seg _ _ _ (Or.inr (by simp)) B4.out)
  have C5:=hid (hw6.seg _ _ _ (Or.inr (by simp)) B5.out)
  have C7:=hid (hw6.seg _ _ _ (Or.inr (by simp)) B7.out)
  have S6:=hid hs6
  have O6:=hid (own_base ho6 Uu)
  have P6:=hid Ou
  clear Ou hs6 ho6 hw6
  generalize gK s (aj s (aj s t))=BB at *
  go_wp2_with fail
  go_ret
  exact⟨by rw[HX.out];rfl,by rw[HX.out];exact P6.out,W6.out,fun _=>⟨⟨⟨0,aj s t,BB.2.2,[],aS,aS⟩,v,.slice none 0 0⟩,by rw[HX.out],(((((C0.out.join C1.out).join S6.out).join C4.out).join C5.out).join C7.out),⟨O6.out,World.ownsRow_nil _ _ _ _⟩⟩⟩
theorem Qp(w:World)(pb:Nat)(s:ByteArray)(t:aN)(ib:Nat)(h:Ps w pb s t)(ht:Tk s t)(hn:Seg w ib 116 0 jW)(hne:ib≠pb)(h1:ib ≠ 3)(h2:ib ≠ 4)(hw0:aI t [109,101,115,115,97,103,101]=false)(hw1:aI t [101,110,117,109]=true):
  Calls Tryz.prog 134 #[.pointer (some ⟨pb,0,none⟩),.pointer (some ⟨ib,0,none⟩)] w (iQ w pb s t ib):=by
 have hil:=hn.lt
 have H:=hid h
 have HT:=hid ht
 have HN:=hid hn
 clear h ht hn
 generalize hI:cZ s t=R
 have HI:=hid hI
 unfold iQ
 rw[hI]
 clear hI
 go_enter func134,ntmps134
 go_wp2_with fail
 refine(eU _ pb s t _ H.out).mono ?_;rintro e w0 ⟨rfl,hp0,hb0⟩
 have hx0:aI t (ByteArray.mk #[109,101,115,115,97,103,101]).toList=false:=by rw[ByteArray.toList_eq];exact hw0
 rw[hx0] at hp0 ⊢
 go_wp2_with fail
 refine(eU _ pb s t _ hp0).mono ?_;rintro e w1 ⟨rfl,hp1,hb1⟩
 have hx1:aI t (ByteArray.mk #[101,110,117,109]).toList=true:=by rw[ByteArray.toList_eq];exact hw1
 rw[hx1] at hp1 ⊢
 have hbk:=(hb0.trans hb1)
 have hsk:=HN.out.same (hbk.block ib hil hne)
 have e0:=hsk.cell (j:=0) (v:=.int .i64 0) rfl
 have ef:∀ j,w1.frozen? ⟨ib,j,none⟩=false:=fun j=>hsk.frozen j
 simp only[Nat.zero_add] at e0
 have HPK:=hid hp1
 have Qo:=hid hsk
 have II:=hid hbk
 clear hsk hbk hp1
 go_wp2_with fail
 have hss:=Qo.out.set 0 (.int .i64 1)
 simp only[Nat.zero_add] at hss
 have a0:=hss.part 0 1 [.int .i64 1] rfl rfl (by omega)
 have a1:=hss.part 1 2 aS rfl rfl (by omega)
 have a3:=hss.part 3 1 [.slice none 0 0] rfl rfl (by omega)
 have a4:=hss.part 4 1 [.slice none 0 0] rfl rfl (by omega)
 have a5:=hss.part 5 2 aS rfl rfl (by omega)
 have a7:=hss.part 7 2 aS rfl rfl (by omega)
 simp only[Nat.zero_add] at a0 a1 a3 a4 a5 a7
 have A0:=hid a0
 have A1:=hid a1
 have A3:=hid a3
 have A4:=hid a4
 have A5:=hid a5
 have A7:=hid a7
 have P0:=hid (HPK.out.store (nb:=ib) hne h1 h2 0 (.int .i64 1))
 have W0:=hid ((Wrote.jy (no:=0) (n:=9) II.out hil hne).setCell 0 (by omega) (.int .i64 1))
 have hz0:=W0.out.size
 clear hss a0 a1 a3 a4 a5 a7 e0 ef
 have HT1:=hid HT.out.next
 refine(name_any _ pb s (aj s t) ib 1 _ _ _ P0.out A1.out hne h1 h2).mono ?_;rintro e w5 ⟨rfl,Bg,hs5,hw5⟩
 have W5:=hid (W0.out.trans (hw5.wide (fo:=0) (m:=9) (by omega) (by omega)))
 have B0:=hid (hw5.seg _ _ _ (Or.inl (by simp)) A0.out)
 have B3:=hid (hw5.seg _ _ _ (Or.inr (by simp)) A3.out)
 have B4:=hid (hw5.seg _ _ _ (Or.inr (by simp)) A4.out)
 have B5:=hid (hw5.seg _ _ _ (Or.inr (by simp)) A5.out)
 have B7:=hid (hw5.seg _ _ _ (Or.inr (by simp)) A7.out)
 have S5:=hid hs5
 have P5:=hid Bg
 have Uu:=W5.out.size
 clear Bg hs5 hw5 A0 A1 A3 A4 A5 A7 P0 W0
 cases hno:cO (aj s t)
 case' false=>
  have HX:=hid (show R.1=false∧R.2.1=aj s t by rw[← HI.out];simp[cZ,dP,mY,hw0,hw1,hno])
  rw[hno] at P5
  go_wp2_with fail
  go_ret
  exact⟨by rw[HX.out.1];rfl,by rw[HX.out.2];exact P5.out,W5.out,fun hh=>(by rw[HX.out.1] at hh;cases hh)⟩
 case' true=>
  rw[hno] at P5
  go_wp2_with fail
  refine(LQ _ pb s (aj s (aj s t)) ib 4 _ P5.out HT1.out.next B4.out hne h1 h2).mono ?_;rintro e w6 ⟨v,rfl,Ou,hs6,ho6,_,hw6⟩
  have HX:=hid (show R=((gQ s (aj s (aj s t))).1,(gQ s (aj s (aj s t))).2.1,⟨1,aj s t,[],(gQ s (aj s (aj s t))).2.2,aS,aS⟩) by rw[← HI.out];simp[cZ,dP,mY,hw0,hw1,hno])
  have W6:=hid (W5.out.trans (hw6.wide (fo:=0) (m:=9) (by omega) (by omega)))
  have C0:=hid (hw6.seg _ _ _ (Or.inl (by simp)) B0.out)
  have C1:=hid (hw6.seg _ _ _ (Or.inl (by simp[aB])) S5.out)
  have C3:=hid (hw6.seg _ _ _ (Or.inl (by simp)) B3.out)
  have C5:=hid (hw6.seg _ _ _ (Or.inr (by simp)) B5.out)
  have C7:=hid (hw6.seg _ _ _ (Or.inr (by simp)) B7.out)
  have S6:=hid hs6
  have O6:=hid (own_base ho6 Uu)
  have P6:=hid Ou
  clear Ou hs6 ho6 hw6
  generalize gQ s (aj s (aj s t))=BB at *
  go_wp2_with fail
  go_ret
  exact⟨by rw[HX.out];rfl,by rw[HX.out];exact P6.out,W6.out,fun _=>⟨⟨⟨1,aj s t,[],BB.2.2,aS,aS⟩,.slice none 0 0,v⟩,by rw[HX.out],(((((C0.out.join C1.out).join C3.out).join S6.out).join C5.out).join C7.out),⟨World.ownsRow_nil _ _ _ _,O6.out⟩⟩⟩
theorem Ji(w:World)(pb:Nat)(s:ByteArray)(t:aN)(ib:Nat)(h:Ps w pb s t)(ht:Tk s t)(hn:Seg w ib 116 0 jW)(hne:ib≠pb)(h1:ib ≠ 3)(h2:ib ≠ 4)(hw0:aI t [109,101,115,115,97,103,101]=false)(hw1:aI t [101,110,117,109]=false)(hw2:aI t [115,116,114,101,97,109]=true):
  Calls Tryz.prog 134 #[.pointer (some ⟨pb,0,none⟩),.pointer (some ⟨ib,0,none⟩)] w (iQ w pb s t ib):=by
 have hil:=hn.lt
 have H:=hid h
 have HT:=hid ht
 have HN:=hid hn
 clear h ht hn
 generalize hI:cZ s t=R
 have HI:=hid hI
 unfold iQ
 rw[hI]
 clear hI
 go_enter func134,ntmps134
 go_wp2_with fail
 refine(eU _ pb s t _ H.out).mono ?_;rintro e w0 ⟨rfl,hp0,hb0⟩
 have hx0:aI t (ByteArray.mk #[109,101,115,115,97,103,101]).toList=false:=by rw[ByteArray.toList_eq];exact hw0
 rw[hx0] at hp0 ⊢
 go_wp2_with fail
 refine(eU _ pb s t _ hp0).mono ?_;rintro e w1 ⟨rfl,hp1,hb1⟩
 have hx1:aI t (ByteArray.mk #[101,110,117,109]).toList=false:=by rw[ByteArray.toList_eq];exact hw1
 rw[hx1] at hp1 ⊢
 go_wp2_with fail
 refine(eU _ pb s t _ hp1).mono ?_;rintro e w2 ⟨rfl,hp2,hb2⟩
 have hx2:aI t (ByteArray.mk #[115,116,114,101,97,109]).toList=true:=by rw[ByteArray.toList_eq];exact hw2
 rw[hx2] at hp2 ⊢
 have hbk:=((hb0.trans hb1).trans hb2)
 have hsk:=HN.out.same (hbk.block ib hil hne)
 have e0:=hsk.cell (j:=0) (v:=.int .i64 0) rfl
 have ef:∀ j,w2.frozen? ⟨ib,j,none⟩=false:=fun j=>hsk.frozen j
 simp only[Nat.zero_add] at e0
 have HPK:=hid hp2
 have Qo:=hid hsk
 have II:=hid hbk
 clear hsk hbk hp2
 go_wp2_with fail
 have hss:=Qo.out.set 0 (.int .i64 2)
 simp only[Nat.zero_add] at hss
 have a0:=hss.part 0 1 [.int .i64 2] rfl rfl (by omega)
 have a1:=hss.part 1 2 aS rfl rfl (by omega)
 have a3:=hss.part 3 1 [.slice none 0 0] rfl rfl (by omega)
 have a4:=hss.part 4 1 [.slice none 0 0] rfl rfl (by omega)
 have a5:=hss.part 5 2 aS rfl rfl (by omega)
 have a7:=hss.part 7 2 aS rfl rfl (by omega)
 simp only[Nat.zero_add] at a0 a1 a3 a4 a5 a7
 have A0:=hid a0
 have A1:=hid a1
 have A3:=hid a3
 have A4:=hid a4
 have A5:=hid a5
 have A7:=hid a7
 have P0:=hid (HPK.out.store (nb:=ib) hne h1 h2 0 (.int .i64 2))
 have W0:=hid ((Wrote.jy (no:=0) (n:=9) II.out hil hne).setCell 0 (by omega) (.int .i64 2))
 have hz0:=W0.out.size
 clear hss a0 a1 a3 a4 a5 a7 e0 ef
 have HT1:=hid HT.out.next
 refine(name_any _ pb s (aj s t) ib 1 _ _ _ P0.out A1.out hne h1 h2).mono ?_;rintro e w5 ⟨rfl,Bg,hs5,hw5⟩
 have W5:=hid (W0.out.trans (hw5.wide (fo:=0) (m:=9) (by omega) (by omega)))
 have B0:=hid (hw5.seg _ _ _ (Or.inl (by simp)) A0.out)
 have B3:=hid (hw5.seg _ _ _ (Or.inr (by simp)) A3.out)
 have B4:=hid (hw5.seg _ _ _ (Or.inr (by simp)) A4.out)
 have B5:=hid (hw5.seg _ _ _ (Or.inr (by simp)) A5.out)
 have B7:=hid (hw5.seg _ _ _ (Or.inr (by simp)) A7.out)
 have S5:=hid hs5
 have P5:=hid Bg
 have Uu:=W5.out.size
 clear Bg hs5 hw5 A0 A1 A3 A4 A5 A7 P0 W0
 cases hno:cO (aj s t)
 case' false=>
  have HX:=hid (show R.1=false∧R.2.1=aj s t by rw[← HI.out];simp[cZ,dP,mY,je,hw0,hw1,hw2,hno])
  rw[hno] at P5
  go_wp2_with fail
  go_ret
  exact⟨by rw[HX.out.1];rfl,by rw[HX.out.2];exact P5.out,W5.out,fun hh=>(by rw[HX.out.1] at hh;cases hh)⟩
 case' true=>
  rw[hno] at P5
  go_wp2_with fail
  refine(wU _ pb s (aj s (aj s t)) ib 5 _ _ _ P5.out B5.out hne h1 h2).mono ?_;rintro e w6 ⟨rfl,Ou,hs6,hw6⟩
  have HX:=hid (show R=(eH (aj s (aj s t)),dW (eH (aj s (aj s t))) s (aj s (aj s t)),⟨2,aj s t,[],[],aB (aj s (aj s t)),aS⟩) by rw[← HI.out];simp[cZ,dP,mY,je,hw0,hw1,hw2,hno])
  have W6:=hid (W5.out.trans (hw6.wide (fo:=0) (m:=9) (by omega) (by omega)))
  have C0:=hid (hw6.seg _ _ _ (Or.inl (by simp)) B0.out)
  have C1:=hid (hw6.seg _ _ _ (Or.inl (by simp[aB])) S5.out)
  have C3:=hid (hw6.seg _ _ _ (Or.inl (by simp)) B3.out)
  have C4:=hid (hw6.seg _ _ _ (Or.inl (by simp)) B4.out)
  have C7:=hid (hw6.seg _ _ _ (Or.inr (by simp)) B7.out)
  have S6:=hid hs6
  have P6:=hid Ou
  clear Ou hs6 hw6
  go_wp2_with fail
  go_ret
  exact⟨by rw[HX.out];rfl,by rw[HX.out];exact P6.out,W6.out,fun _=>⟨⟨⟨2,aj s t,[],[],aB (aj s (aj s t)),aS⟩,.slice none 0 0,.slice none 0 0⟩,by rw[HX.out],(((((C0.out.join C1.out).join C3.out).join C4.out).join S6.out).join C7.out),⟨World.ownsRow_nil _ _ _ _,World.ownsRow_nil _ _ _ _⟩⟩⟩
theorem Qq(w:World)(pb:Nat)(s:ByteArray)(t:aN)(ib:Nat)(h:Ps w pb s t)(ht:Tk s t)(hn:Seg w ib 116 0 jW)(hne:ib≠pb)(h1:ib ≠ 3)(h2:ib ≠ 4)(hw0:aI t [109,101,115,115,97,103,101]=false)(hw1:aI t [101,110,117,109]=false)(hw2:aI t [115,116,114,101,97,109]=false)(hw3:aI t [99,97,108,108]=true):
  Calls Tryz.prog 134 #[.pointer (some ⟨pb,0,none⟩),.pointer (some ⟨ib,0,none⟩)] w (iQ w pb s t ib):=by
 have hil:=hn.lt
 have H:=hid h
 have HT:=hid ht
 have HN:=hid hn
 clear h ht hn
 generalize hI:cZ s t=R
 have HI:=hid hI
 unfold iQ
 rw[hI]
 clear hI
 go_enter func134,ntmps134
 go_wp2_with fail
 refine(eU _ pb s t _ H.out).mono ?_;rintro e w0 ⟨rfl,hp0,hb0⟩
 have hx0:aI t (ByteArray.mk #[109,101,115,115,97,103,101]).toList=false:=by rw[ByteArray.toList_eq];exact hw0
 rw[hx0] at hp0 ⊢
 go_wp2_with fail
 refine(eU _ pb s t _ hp0).mono ?_;rintro e w1 ⟨rfl,hp1,hb1⟩
 have hx1:aI t (ByteArray.mk #[101,110,117,109]).toList=false:=by rw[ByteArray.toList_eq];exact hw1
 rw[hx1] at hp1 ⊢
 go_wp2_with fail
 refine(eU _ pb s t _ hp1).mono ?_;rintro e w2 ⟨rfl,hp2,hb2⟩
 have hx2:aI t (ByteArray.mk #[115,116,114,101,97,109]).toList=false:=by rw[ByteArray.toList_eq];exact hw2
 rw[hx2] at hp2 ⊢
 go_wp2_with fail
 refine(eU _ pb s t _ hp2).mono ?_;rintro e w3 ⟨rfl,hp3,hb3⟩
 have hx3:aI t (ByteArray.mk #[99,97,108,108]).toList=true:=by rw[ByteArray.toList_eq];exact hw3
 rw[hx3] at hp3 ⊢
 have hbk:=(((hb0.trans hb1).trans hb2).trans hb3)
 have hsk:=HN.out.same (hbk.block ib hil hne)
 have e0:=hsk.cell (j:=0) (v:=.int .i64 0) rfl
 have ef:∀ j,w3.frozen? ⟨ib,j,none⟩=false:=fun j=>hsk.frozen j
 simp only[Nat.zero_add] at e0
 have HPK:=hid hp3
 have Qo:=hid hsk
 have II:=hid hbk
 clear hsk hbk hp3
 go_wp2_with fail
 have hss:=Qo.out.set 0 (.int .i64 3)
 simp only[Nat.zero_add] at hss
 have a0:=hss.part 0 1 [.int .i64 3] rfl rfl (by omega)
 have a1:=hss.part 1 2 aS rfl rfl (by omega)
 have a3:=hss.part 3 1 [.slice none 0 0] rfl rfl (by omega)
 have a4:=hss.part 4 1 [.slice none 0 0] rfl rfl (by omega)
 have a5:=hss.part 5 2 aS rfl rfl (by omega)
 have a7:=hss.part 7 2 aS rfl rfl (by omega)
 simp only[Nat.zero_add] at a0 a1 a3 a4 a5 a7
 have A0:=hid a0
 have A1:=hid a1
 have A3:=hid a3
 have A4:=hid a4
 have A5:=hid a5
 have A7:=hid a7
 have P0:=hid (HPK.out.store (nb:=ib) hne h1 h2 0 (.int .i64 3))
 have W0:=hid ((Wrote.jy (no:=0) (n:=9) II.out hil hne).setCell 0 (by omega) (.int .i64 3))
 have hz0:=W0.out.size
 clear hss a0 a1 a3 a4 a5 a7 e0 ef
 have HT1:=hid HT.out.next
 refine(name_any _ pb s (aj s t) ib 1 _ _ _ P0.out A1.out hne h1 h2).mono ?_;rintro e w5 ⟨rfl,Bg,hs5,hw5⟩
 have W5:=hid (W0.out.trans (hw5.wide (fo:=0) (m:=9) (by omega) (by omega)))
 have B0:=hid (hw5.seg _ _ _ (Or.inl (by simp)) A0.out)
 have B3:=hid (hw5.seg _ _ _ (Or.inr (by simp)) A3.out)
 have B4:=hid (hw5.seg _ _ _ (Or.inr (by simp)) A4.out)
 have B5:=hid (hw5.seg _ _ _ (Or.inr (by simp)) A5.out)
 have B7:=hid (hw5.seg _ _ _ (Or.inr (by simp)) A7.out)
 have S5:=hid hs5
 have P5:=hid Bg
 have Uu:=W5.out.size
 clear Bg hs5 hw5 A0 A1 A3 A4 A5 A7 P0 W0
 cases hno:cO (aj s t)
 case' false=>
  have HX:=hid (show R.1=false∧R.2.1=aj s t by rw[← HI.out];simp[cZ,dP,mY,je,qE,hw0,hw1,hw2,hw3,hno])
  rw[hno] at P5
  go_wp2_with fail
  go_ret
  exact⟨by rw[HX.out.1];rfl,by rw[HX.out.2];exact P5.out,W5.out,fun hh=>(by rw[HX.out.1] at hh;cases hh)⟩
 case' true=>
  rw[hno] at P5
  go_wp2_with fail
  refine(wU _ pb s (aj s (aj s t)) ib 5 _ _ _ P5.out B5.out hne h1 h2).mono ?_;rintro e w6 ⟨rfl,Ou,hs6,hw6⟩
  have W6:=hid (W5.out.trans (hw6.wide (fo:=0) (m:=9) (by omega) (by omega)))
  have C0:=hid (hw6.seg _ _ _ (Or.inl (by simp)) B0.out)
  have C1:=hid (hw6.seg _ _ _ (Or.inl (by simp[aB])) S5.out)
  have C3:=hid (hw6.seg _ _ _ (Or.inl (by simp)) B3.out)
  have C4:=hid (hw6.seg _ _ _ (Or.inl (by simp)) B4.out)
  have C7:=hid (hw6.seg _ _ _ (Or.inr (by simp)) B7.out)
  have S6:=hid hs6
  have P6:=hid Ou
  clear Ou hs6 hw6 B0 B3 B4 B5 B7 S5 P5
  cases Qj:eH (aj s (aj s t))
  case' false=>
   have HX:=hid (show R.1=false∧R.2.1=aj s (aj s t) by rw[← HI.out];simp[cZ,dP,mY,je,qE,hw0,hw1,hw2,hw3,hno,Qj])
   rw[Qj] at P6
   go_wp2_with fail
   go_ret
   exact⟨by rw[HX.out.1];rfl,by rw[HX.out.2];exact P6.out,W6.out,fun hh=>(by rw[HX.out.1] at hh;cases hh)⟩
  case' true=>
   rw[Qj] at P6
   have HX:=hid (show R=(eH (aj s (aj s (aj s t))),dW (eH (aj s (aj s (aj s t)))) s (aj s (aj s (aj s t))),⟨3,aj s t,[],[],aB (aj s (aj s t)),aB (aj s (aj s (aj s t)))⟩) by rw[← HI.out];simp[cZ,dP,mY,je,qE,hw0,hw1,hw2,hw3,hno,Qj])
   go_wp2_with fail
   refine(wU _ pb s (aj s (aj s (aj s t))) ib 7 _ _ _ P6.out C7.out hne h1 h2).mono ?_;rintro e w7 ⟨rfl,hp7,hs7,hw7⟩
   have W7:=hid (W6.out.trans (hw7.wide (fo:=0) (m:=9) (by omega) (by omega)))
   have D0:=hid (hw7.seg _ _ _ (Or.inl (by simp)) C0.out)
   have D1:=hid (hw7.seg _ _ _ (Or.inl (by simp[aB])) C1.out)
   have D3:=hid (hw7.seg _ _ _ (Or.inl (by simp)) C3.out)
   have D4:=hid (hw7.seg _ _ _ (Or.inl (by simp)) C4.out)
   have D5:=hid (hw7.seg _ _ _ (Or.inl (by simp[aB])) S6.out)
   have S7:=hid hs7
   have P7:=hid hp7
   clear hp7 hs7 hw7
   go_wp2_with fail
   go_ret
   exact⟨by rw[HX.out];rfl,by rw[HX.out];exact P7.out,W7.out,fun _=>⟨⟨⟨3,aj s t,[],[],aB (aj s (aj s t)),aB (aj s (aj s (aj s t)))⟩,.slice none 0 0,.slice none 0 0⟩,by rw[HX.out],(((((D0.out.join D1.out).join D3.out).join D4.out).join D5.out).join S7.out),⟨World.ownsRow_nil _ _ _ _,World.ownsRow_nil _ _ _ _⟩⟩⟩
theorem Qr(w:World)(pb:Nat)(s:ByteArray)(t:aN)(ib:Nat)(h:Ps w pb s t)(ht:Tk s t)(hn:Seg w ib 116 0 jW)(hne:ib≠pb)(_h1:ib ≠ 3)(_h2:ib ≠ 4)(hw0:aI t [109,101,115,115,97,103,101]=false)(hw1:aI t [101,110,117,109]=false)(hw2:aI t [115,116,114,101,97,109]=false)(hw3:aI t [99,97,108,108]=false):
  Calls Tryz.prog 134 #[.pointer (some ⟨pb,0,none⟩),.pointer (some ⟨ib,0,none⟩)] w (iQ w pb s t ib):=by
 have hil:=hn.lt
 have H:=hid h
 have HT:=hid ht
 have HN:=hid hn
 clear h ht hn
 generalize hI:cZ s t=R
 have HI:=hid hI
 unfold iQ
 rw[hI]
 clear hI
 have HX:=hid (show R.1=false∧R.2.1=t by rw[← HI.out];simp[cZ,dP,mY,je,qE,hw0,hw1,hw2,hw3])
 go_enter func134,ntmps134
 go_wp2_with fail
 refine(eU _ pb s t _ H.out).mono ?_;rintro e w0 ⟨rfl,hp0,hb0⟩
 have hx0:aI t (ByteArray.mk #[109,101,115,115,97,103,101]).toList=false:=by rw[ByteArray.toList_eq];exact hw0
 rw[hx0] at hp0 ⊢
 go_wp2_with fail
 refine(eU _ pb s t _ hp0).mono ?_;rintro e w1 ⟨rfl,hp1,hb1⟩
 have hx1:aI t (ByteArray.mk #[101,110,117,109]).toList=false:=by rw[ByteArray.toList_eq];exact hw1
 rw[hx1] at hp1 ⊢
 go_wp2_with fail
 refine(eU _ pb s t _ hp1).mono ?_;rintro e w2 ⟨rfl,hp2,hb2⟩
 have hx2:aI t (ByteArray.mk #[115,116,114,101,97,109]).toList=false:=by rw[ByteArray.toList_eq];exact hw2
 rw[hx2] at hp2 ⊢
 go_wp2_with fail
 refine(eU _ pb s t _ hp2).mono ?_;rintro e w3 ⟨rfl,hp3,hb3⟩
 have hx3:aI t (ByteArray.mk #[99,97,108,108]).toList=false:=by rw[ByteArray.toList_eq];exact hw3
 rw[hx3] at hp3 ⊢
 have hbk:=((hb0.trans hb1).trans hb2).trans hb3
 go_wp2_with fail
 go_ret
 exact⟨by rw[HX.out.1];rfl,by rw[HX.out.2];exact hp3,Wrote.jy hbk hil hne,fun hh=>(by rw[HX.out.1] at hh;cases hh)⟩
theorem Uw(w:World)(pb:Nat)(s:ByteArray)(t:aN)(ib:Nat)(h:Ps w pb s t)(ht:Tk s t)(hn:Seg w ib 116 0 jW)(hne:ib≠pb)(h1:ib ≠ 3)(h2:ib ≠ 4):
  Calls Tryz.prog 134 #[.pointer (some ⟨pb,0,none⟩),.pointer (some ⟨ib,0,none⟩)] w (iQ w pb s t ib):=by
 cases e0:aI t [109,101,115,115,97,103,101]
 ·cases e1:aI t [101,110,117,109]
  ·cases e2:aI t [115,116,114,101,97,109]
   ·cases e3:aI t [99,97,108,108]
    ·exact Qr w pb s t ib h ht hn hne h1 h2 e0 e1 e2 e3
    ·exact Qq w pb s t ib h ht hn hne h1 h2 e0 e1 e2 e3
   ·exact Ji w pb s t ib h ht hn hne h1 h2 e0 e1 e2
  ·exact Qp w pb s t ib h ht hn hne h1 h2 e0 e1
 ·exact Gy w pb s t ib h ht hn hne h1 h2 e0
theorem Qs{s:ByteArray}{t:aN}:t.at_≤(bD s t).2.at_:=by
 unfold bD
 have a1:=fV s t
 have a2:=fV s (aj s t)
 have a3:=after_at s (aj s (aj s t)) (dZ (aj s (aj s t)))
 have a4:=fV s (dW (dZ (aj s (aj s t))) s (aj s (aj s t)))
 split
 ·split
  ·split<;>(simp only;omega)
  ·simp only;omega
 ·exact Nat.le_refl _
theorem pW{s:ByteArray}:∀ (f:Nat) (t:aN) (L:List bI),Tk s t→Tk s (dO s f t L).2.1∧t.at_≤(dO s f t L).2.1.at_
 | 0,t,L,h=>⟨h,Nat.le_refl _⟩
 | f+1,t,L,h=>by
  have h1:=sZ h
  have h2:=@Qs s t
  unfold dO
  split
  ·split
   ·have:=fV s (bD s t).2
    exact⟨h1.next,by simp only;omega⟩
   ·have:=pW f (bD s t).2 (L++[iM s t (lu t.text.toList)]) h1
    exact⟨this.1,by omega⟩
  ·exact⟨h1,h2⟩
theorem Qu{s:ByteArray}{t:aN}(h:Tk s t):Tk s (gK s t).2.1∧t.at_≤(gK s t).2.1.at_:=by
 unfold gK
 split
 ·have:=pW (s.size+1) (aj s t) [] h.next
  have a:=fV s t
  exact⟨this.1,by omega⟩
 ·exact⟨h,Nat.le_refl _⟩
theorem tC{s:ByteArray}:∀ (f:Nat) (t:aN) (L:List aN),Tk s t→Tk s (namesT s f t L).2.1∧t.at_≤(namesT s f t L).2.1.at_
 | 0,t,L,h=>⟨h,Nat.le_refl _⟩
 | f+1,t,L,h=>by
  have h2:=fV s t
  unfold namesT
  split
  ·split
   ·have:=fV s (aj s t)
    exact⟨h.next.next,by simp only;omega⟩
   ·have:=tC f (aj s t) (L++[t]) h.next
    exact⟨this.1,by omega⟩
  ·exact⟨h,Nat.le_refl _⟩
theorem Qv{s:ByteArray}{t:aN}(h:Tk s t):Tk s (gQ s t).2.1∧t.at_≤(gQ s t).2.1.at_:=by
 unfold gQ
 split
 ·have:=tC (s.size+1) (aj s t) [] h.next
  have a:=fV s t
  exact⟨this.1,by omega⟩
 ·exact⟨h,Nat.le_refl _⟩
theorem wX{s:ByteArray}{t:aN}{l:List UInt8}(h:Tk s t)(hw:aI t l=true):t.at_<(aj s t).at_:=by
 simp only[aI,Bool.and_eq_true] at hw
 have hk:t.kind=2:=eq_of_beq hw.2
 have:=h.pos (by omega)
 have:=fV s t
 omega
theorem Bh{s:ByteArray}{t:aN}(h:Tk s t):Tk s (cZ s t).2.1∧((cZ s t).1=true→t.at_<(cZ s t).2.1.at_):=by
 have n2:=fV s (aj s t)
 have n3:=fV s (aj s (aj s t))
 have bf:=Qu h.next.next
 have bn:=Qv h.next.next
 unfold cZ
 split
 ·rename_i hw
  have:=wX h hw
  split
  ·exact⟨bf.1,fun _=>by simp only;omega⟩
  ·exact⟨h.next,fun hh=>by simp at hh⟩
 ·split
  ·rename_i hw
   have:=wX h hw
   split
   ·exact⟨bn.1,fun _=>by simp only;omega⟩
   ·exact⟨h.next,fun hh=>by simp at hh⟩
  ·split
   ·rename_i hw
    have:=wX h hw
    split
    ·have a:=after_at s (aj s (aj s t)) (eH (aj s (aj s t)))
     exact⟨h.next.next.after _,fun _=>by simp only;omega⟩
    ·exact⟨h.next,fun hh=>by simp at hh⟩
   ·split
    ·rename_i hw
     have:=wX h hw
     split
     ·split
      ·have a:=after_at s (aj s (aj s (aj s t))) (eH (aj s (aj s (aj s t))))
       exact⟨h.next.next.next.after _,fun _=>by simp only;omega⟩
      ·exact⟨h.next.next,fun hh=>by simp at hh⟩
     ·exact⟨h.next,fun hh=>by simp at hh⟩
    ·exact⟨h,fun hh=>by simp at hh⟩
def kM(s:ByteArray):Nat→aN→List iP→Option (List iP) × aN
 | 0,t,_=>(none,t)
 | f+1,t,L=>
  if (t.kind==0)=true then(some L,t)
  else if (cZ s t).1=true then kM s f (cZ s t).2.1 (L++[(cZ s t).2.2])
  else(none,(cZ s t).2.1)
def aV(s:ByteArray):Option (List iP) × aN:=kM s (s.size+1) (jw s 0) []
structure dK(w:World)(lo:Nat)(lv:Value)(X:List aO):Prop where
 own:w.ownsRow lo 116 9 lv X.length (X.flatMap fF)
 nest:∀ x∈X,wV w lo x
theorem wV.keep{w w':World}{lo:Nat}{x:aO}(h:wV w lo x)(hs:∀ e size n v xs,w.ownsRow lo e size v n xs→(e = 242 ∨ e = 112)→w'.ownsRow lo e size v n xs):wV w' lo x :=
 ⟨hs _ _ _ _ _ h.f (Or.inl rfl),hs _ _ _ _ _ h.n (Or.inr rfl)⟩
theorem dK.below{w w':World}{lo:Nat}{lv:Value}{X:List aO}(h:dK w lo lv X)(hb:Below w.heap.size w w'):dK w' lo lv X:=by
 have k:∀ {e:TypeId} {size n:Nat} {v:Value} {xs:List Value},w.ownsRow lo e size v n xs→w'.ownsRow lo e size v n xs:=fun ho=>aC ho (fun g hg=>hb.block g (ho.lt g hg).2)
 exact⟨k h.own,fun x hx=>⟨k (h.nest x hx).f,k (h.nest x hx).n⟩⟩
theorem dK.push{w4 w5:World}{lo:Nat}{lv lv':Value}{X:List aO}{x:aO}{ob:Obj}(h:dK w4 lo lv X)(hx:wV w4 lo x)
  (ho:w5.ownsRow lo 116 9 lv' (X.length+1) (X.flatMap fF++fF x)) (hg:(w4.alloc ob).grownBy w5 lv.ownBlock):dK w5 lo lv' (X++[x]):=by
 have k:∀ {e:TypeId} {size n:Nat} {v:Value} {xs:List Value},e ≠ 116 → w4.ownsRow lo e size v n xs→w5.ownsRow lo e size v n xs:=fun he ho'=>aC ho' (fun g hg'=>by
  have hlt:=(ho'.lt g hg').2
  have hne:some g≠lv.ownBlock:=fun hh=>own_ne ho' h.own he hg' hh.symm rfl
  rw[hg.block g (by simp;omega) hne]
  exact Below.heap_alloc w4 ob g hlt)
 refine⟨by simpa using ho,fun y hy=>?_⟩
 rcases List.mem_append.1 hy with hy | hy
 ·exact⟨k (by decide) (h.nest y hy).f,k (by decide) (h.nest y hy).n⟩
 ·simp at hy;subst hy;exact⟨k (by decide) hx.f,k (by decide) hx.n⟩
theorem wV.down{w:World}{lo lo':Nat}{x:aO}(h:wV w lo x)(hl:lo'≤lo):wV w lo' x:=⟨own_base h.f hl,own_base h.n hl⟩
def Yb(t:ByteArray):wR:=⟨t,A8,0,[],[],[],[],[]⟩
def ad7(l:List UInt8):Bool:=l==dP||l==mY||l==je||l==qE
def ad8(L:List wR)(at_:Nat)(t:Tok):Option (List wR × Nat) :=
 if t.bad=true then none
 else if at_=0 then(if ad7 t.text.toList=true then some (L++[Yb t.text],1) else none)
 else match L.getLast? with
  | none=>none
  | some it=>if (Gn it at_ t).2=9 then none else some (L.dropLast++[(Gn it at_ t).1],(Gn it at_ t).2)
def goP(n:Nat):List Tok→List wR→Nat→Option (List wR) × Int
 | [],L,a=>if a=0 then(some L,-1) else(none,(n:Int))
 | t::r,L,a=>match ad8 L a t with | none=>(none,(t.at_:Int)) | some p=>goP n r p.1 p.2
def tl(s:ByteArray)(t:aN):List Tok:=if t.kind=0 then [] else⟨t.text,t.at_,t.kind==1⟩::aa8 s (t.at_+t.text.size)
def G(s:ByteArray)(t:aN)(L:List wR)(a:Nat):Option (List wR) × Int:=goP s.size (tl s t) L a
theorem text_eq{b:ByteArray}{l:List UInt8}(h:b.toList=l):b=⟨l.toArray⟩:=by
 rw[ByteArray.toList_eq] at h
 subst h
 rfl
def cellText(l:List Value):ByteArray:=match l with | .string b::_=>b | _=>A8
def cellAt(l:List Value):Nat:=match l with | [_,.int _ n]=>n.toNat | _=>0
theorem Tryz.infoPItem:(Tryz.prog.info? 116).map (fun i=>(i.zero,i.size,i.bytes))=some (some (.agg #[.int .i64 0,.string ⟨#[]⟩,.int .i64 0,.slice none 0 0,.slice none 0 0,.string ⟨#[]⟩,.int .i64 0,.string ⟨#[]⟩,.int .i64 0]),9,128):=by kernel_rfl
def wY(l:List Value):Prop:=∃ (b:ByteArray) (a:Nat),l=[.string b,.int .i64 a]
theorem fC:wY aS:=⟨⟨#[]⟩,0,rfl⟩
theorem Bj(t:aN):wY (aB t):=⟨t.text,t.at_,rfl⟩
theorem Jj(s:ByteArray)(t:aN):wY (cZ s t).2.2.base∧wY (cZ s t).2.2.answer:=by
 unfold cZ
 split
 ·split<;>exact⟨fC,fC⟩
 ·split
  ·split<;>exact⟨fC,fC⟩
  ·split
   ·split
    ·exact⟨Bj _,fC⟩
    ·exact⟨fC,fC⟩
   ·split
    ·split
     ·split
      ·exact⟨Bj _,Bj _⟩
      ·exact⟨fC,fC⟩
     ·exact⟨fC,fC⟩
    ·exact⟨fC,fC⟩
theorem dK.read{wr w2 w3:World}{lo pb ib no n:Nat}{lv:Value}{X:List aO}(h:dK wr lo lv X)(hb:Below wr.heap.size wr w2)(hw:Wrote w2 w3 pb ib no n)(hp:pb<lo)(hi:ib=wr.heap.size):dK w3 lo lv X:=by
 have k:∀ {e:TypeId} {size n:Nat} {v:Value} {xs:List Value},wr.ownsRow lo e size v n xs→w3.ownsRow lo e size v n xs:=fun ho=>aC ho (fun g hg=>by
  have hl:=ho.lt g hg
  exact(hw.block g (Nat.lt_of_lt_of_le hl.2 hb.size) (by omega) (by omega)).trans (hb.block g hl.2))
 exact⟨k h.own,fun x hx=>⟨k (h.nest x hx).f,k (h.nest x hx).n⟩⟩
theorem Wrote.toBelow{w w':World}{pb nb no n B:Nat}(h:Wrote w w' pb nb no n)(h1:B≤pb)(h2:B≤nb)(h3:B≤w.heap.size):Below B w w' :=
 ⟨h.os,h.tape,h.output,h.size,fun k hk=>h.block k (by omega) (by omega) (by omega)⟩
theorem Gz{x:aO}(h:wY x.it.base∧wY x.it.answer):(fF x).length=9:=by
 obtain⟨⟨b,a,hb⟩,⟨c,d,hc⟩⟩:=h
 simp[fF,hb,hc,aB]
theorem parse_any(s:ByteArray)(w:World)(hv:Vars w)(hs:s.size≤400):
  Calls Tryz.prog 95 #[.string s] w fun e w'=>∃ lv,∃ P:Int,e=.returned (.tuple #[lv,.int .i64 P])∧Below w.heap.size w w' ∧
   (((aV s).1=none∧lv=.slice none 0 0∧P=((aV s).2.at_:Int))∨∃ X:List aO,(aV s).1=some (X.map (fun x=>x.it))∧P = -1∧dK w' (w.heap.size+1) lv X∧X.length≤400):=by
 obtain⟨iT,hiT,hT0,hT1,hT2⟩:=info_parts Tryz.infoPItem
 have hv1:=hv.X6
 have hv2:=hv.X7
 have HV:=hid hv
 generalize hR:aV s=R
 have HR:=hid hR
 clear hR hv
 go_enter func95,ntmps95
 go_wp2_with fail
 have hb0:Below w.heap.size w (w.alloc (.cells #[.string s,.int .i64 0,.string ⟨#[]⟩,.int .i64 0] 214)):=(Below.refl _ _).alloc (Nat.le_refl _) _
 have hps:Ps (w.alloc (.cells #[.string s,.int .i64 0,.string ⟨#[]⟩,.int .i64 0] 214)) w.heap.size s ⟨0,⟨#[]⟩,0⟩ :=
  ⟨⟨_,heap_alloc_new w _,by simp[Gt],by simp[Gt]⟩,HV.out.below hb0,by omega,by omega,by show 0+0≤s.size;omega,hs⟩
 refine(Jg _ w.heap.size s ⟨0,⟨#[]⟩,0⟩ hps).mono ?_;rintro e w1 ⟨rfl,hp1,hb1⟩
 have hp1':Ps w1 w.heap.size s (jw s 0):=hp1
 have Ov:Below w.heap.size w w1:=hb0.trans ⟨hb1.os,hb1.tape,hb1.output,hb1.size,fun k hk=>hb1.block k (by simp;omega) (by omega)⟩
 have hz1:w.heap.size<w1.heap.size:=Nat.lt_of_lt_of_le (by simp) hb1.size
 have jJ:=hid hp1'
 clear hp1 hp1' hps hb0 hb1
 go_wp2_with fail
 go_loopg [5,6] (s.size+1) (fun gk l it wr=>∃ t X,s.size<t.at_+gk∧X.length≤t.at_∧Hid (kM s gk t (X.map (fun x=>x.it))=R)∧Hid (Ps wr w.heap.size s t)∧Hid (Tk s t)∧Hid (dK wr (w.heap.size+1) l X)∧Below w.heap.size w wr∧w.heap.size<wr.heap.size)
 case atStart=>exact⟨jw s 0,[],by omega,by simp,hid HR.out,jJ,hid ⟨0,by omega,rfl⟩,hid ⟨World.ownsRow_nil _ _ _ _,fun x hx=>(by simp at hx)⟩,Ov,hz1⟩
 case round=>
  obtain⟨t,X,hgk,hXl,HF,HP,pz,HIT,hbel,hz⟩:=hrel
  have hfit:=pz.out.fit
  obtain⟨gk',rfl⟩:∃ gk',gk=gk'+1:=⟨gk-1,by omega⟩
  have c1:=HP.out.seg.cell (j:=1) (v:=.int .i64 t.kind) rfl
  simp only[Nat.zero_add] at c1
  by_cases hk:t.kind=0
  ·have HE:=hid (show R=(some (X.map (fun x=>x.it)),t) by rw[← HF.out];simp[kM,hk])
   have hne:((t.kind:Int) != 0)=false:=by simp;omega
   go_wp2_with fail
   go_ret2
   exact⟨u5,-1,rfl,hbel,Or.inr ⟨X,by rw[HE.out],rfl,HIT.out,by omega⟩⟩
  ·have hne:((t.kind:Int) != 0)=true:=by simp;omega
   obtain⟨la,lc,hlv⟩:∃ a c,u5=.slice a X.length c:=ay HIT.out.own
   subst hlv
   go_wp2_with fail
   have hbox:Seg (wr.alloc (.cells #[.int .i64 0,.string ⟨#[]⟩,.int .i64 0,.slice none 0 0,.slice none 0 0,.string ⟨#[]⟩,.int .i64 0,.string ⟨#[]⟩,.int .i64 0] 116)) wr.heap.size 116 0 jW:=⟨_,heap_alloc_new wr _,by simp[jW],by simp[jW]⟩
   have hb2:Below wr.heap.size wr (wr.alloc (.cells #[.int .i64 0,.string ⟨#[]⟩,.int .i64 0,.slice none 0 0,.slice none 0 0,.string ⟨#[]⟩,.int .i64 0,.string ⟨#[]⟩,.int .i64 0] 116)):=(Below.refl _ _).alloc (Nat.le_refl _) _
   refine(Uw _ w.heap.size s t wr.heap.size (HP.out.below hb2) pz.out hbox (by omega) (by omega) (by omega)).mono ?_;rintro e w3 ⟨rfl,hp3,hw3,hx3⟩
   have hz3:wr.heap.size<w3.heap.size:=Nat.lt_of_lt_of_le (by simp) hw3.size
   have hit3:=HIT.out.read hb2 hw3 (show w.heap.size<w.heap.size+1 by omega) rfl
   have IY:Below w.heap.size w w3:=(hbel.trans (hb2.mono (by omega))).trans (hw3.toBelow (Nat.le_refl _) (by omega) (by simp;omega))
   have c3:=hp3.seg.cell (j:=3) (v:=.int .i64 (cZ s t).2.1.at_) rfl
   simp only[Nat.zero_add] at c3
   have iR:=hid hp3
   have HI3:=hid hit3
   have HX3:=hid hx3
   have HTI:=hid (Bh pz.out)
   clear hp3 hit3 hx3 hw3 hbox c1
   cases hok:(cZ s t).1
   case' false=>
    have HE:=hid (show R=(none,(cZ s t).2.1) by rw[← HF.out];simp[kM,hk,hok])
    go_wp2_with fail
    go_quiet (fail)
    go_wp2_with fail
    go_ret2
    exact⟨.slice none 0 0,_,rfl,below_drewN IY _,Or.inl ⟨by rw[HE.out],rfl,by rw[HE.out]⟩⟩
   case' true=>
    obtain⟨x,hxi,hxs,hxn⟩:=HX3.out hok
    have hnm:=Jj s t
    rw[← hxi] at hnm
    have hat:=HTI.out.2 hok
    have HE:=hid (show kM s gk' (cZ s t).2.1 ((X++[x]).map (fun x=>x.it))=R by rw[← HF.out];simp[kM,hk,hok,hxi])
    obtain⟨fa,fc,hvf⟩:∃ a c,x.vf=.slice a x.it.fields.length c:=ay hxn.f
    obtain⟨na,nc,hvn⟩:∃ a c,x.vn=.slice a x.it.names.length c:=ay hxn.n
    have hlen:=Gz hnm
    obtain⟨⟨bb,ba,hbb⟩,⟨ab,aa,hab⟩⟩:=hnm
    have hcells:fF x=[.int .i64 x.it.kind,.string x.it.name.text,.int .i64 x.it.name.at_,.slice fa x.it.fields.length fc,.slice na x.it.names.length nc,.string bb,.int .i64 ba,.string ab,.int .i64 aa]:=by
     simp[fF,hbb,hab,hvf,hvn,aB]
    have hxs':=hxs
    rw[hcells] at hxs'
    have e0:=hxs'.cell (j:=0) rfl
    have e1:=hxs'.cell (j:=1) rfl
    have e2:=hxs'.cell (j:=2) rfl
    have e3:=hxs'.cell (j:=3) rfl
    have e4:=hxs'.cell (j:=4) rfl
    have e5:=hxs'.cell (j:=5) rfl
    have e6:=hxs'.cell (j:=6) rfl
    have e7:=hxs'.cell (j:=7) rfl
    have e8:=hxs'.cell (j:=8) rfl
    simp only[Nat.zero_add] at e0 e1 e2 e3 e4 e5 e6 e7 e8
    have HXN:=hid (hxn.down (show w.heap.size+1≤_ by simp;omega))
    have HC:=hid hcells
    have Yc:=hid hlen
    have HT3:=hid HTI.out.1
    clear hxi hxs hxs' hxn hvf hvn hbb hab hcells hlen HX3 HTI HF c3
    go_wp2_with (at_builtin;refine wpList_append_lies _ rfl _ _ 87 rfl (w.heap.size+1) 116 iT _ 9 128 underlying87 hiT hT0 hT1 hT2 rfl (by decide) _ _ _ rfl (HI3.out.own.alloc _) ⟨w3.heap.size,0,none⟩ 1 1 (fF x) rfl Yc.out (by rw[HC.out];exact dY w3 _ rfl #[.int .i64 x.it.kind,.string x.it.name.text,.int .i64 x.it.name.at_,.slice fa x.it.fields.length fc,.slice na x.it.names.length nc,.string bb,.int .i64 ba,.string ab,.int .i64 aa] _) (by rw[HC.out];simp[Value.oneCell']) (by omega) (by unfold maxLen;omega) (by omega) (by simp;omega) _ rfl ?_)
    intro g5 cp5 w5 hown5 dL _ _
    have hb5:Below (w.heap.size+1) w3 w5:=((Below.refl _ w3).alloc (by omega) _).grown dL (by simp;omega) (fun k hk=>(HI3.out.own.lt k hk).1)
    have HI5:=hid (HI3.out.push HXN.out hown5 dL)
    have Ad:=hid (iR.out.Gw hb5 (by omega) (by omega) (by omega))
    have Ux:=IY.trans (hb5.mono (Nat.le_succ _))
    have Uu:=hb5.size
    clear hown5 dL hb5 e0 e1 e2 e3 e4 e5 e6 e7 e8
    go_wp2_with fail
    go_roundg gk'
    case rel=>exact⟨(cZ s t).2.1,X++[x],by omega,by simp;omega,HE,Ad,HT3,HI5,Ux,by omega⟩
    case measure=>omega
structure Qw(s:ByteArray)(lo hi:Nat)(f:bI):Prop where
 n:lo≤f.numberAt∧f.numberAt<hi
 m:lo≤f.nameAt∧f.nameAt<hi
 b:lo≤f.dG∧f.dG<hi
 ms:f.name.size≤s.size
 bs:f.base.size≤s.size
 sh:f.shape≤2
theorem EO(t:aN):rE t≤2:=by unfold rE;split<;>(try split)<;>omega
theorem Qw.mono{s:ByteArray}{lo hi lo' hi':Nat}{f:bI}(h:Qw s lo hi f)(h1:lo'≤lo)(h2:hi≤hi'):Qw s lo' hi' f :=
 ⟨⟨by have:=h.n;omega,by have:=h.n;omega⟩,⟨by have:=h.m;omega,by have:=h.m;omega⟩,⟨by have:=h.b;omega,by have:=h.b;omega⟩,h.ms,h.bs,h.sh⟩
theorem Tk.sizeLe{s:ByteArray}{t:aN}(h:Tk s t):t.text.size≤s.size:=by have:=h.fit;omega
theorem iw{t:aN}(h:cO t=true):t.kind=2:=by
 simp only[cO,Bool.and_eq_true] at h;exact eq_of_beq h.2
theorem nR{t:aN}(h:eH t=true):t.kind=2:=by
 simp only[eH,Bool.and_eq_true] at h;exact eq_of_beq h.2
theorem Tk.step{s:ByteArray}{t:aN}(h:Tk s t)(h0:t.kind≠0):t.at_<(aj s t).at_:=by
 have:=h.pos h0;have:=fV s t;omega
theorem Qx{s:ByteArray}{t:aN}(h:Tk s t)(hok:(bD s t).1=true)(n:Int):Qw s t.at_ (bD s t).2.at_ (iM s t n)∧t.at_<(bD s t).2.at_:=by
 unfold bD at hok ⊢
 by_cases hk:(t.kind==3)=true
 ·rw[if_pos hk] at hok ⊢
  have hk3:t.kind=3:=eq_of_beq hk
  by_cases hn:cO (aj s t)=true
  ·rw[if_pos hn] at hok ⊢
   have s1:=h.step (by omega)
   have s2:=h.next.step (by rw[iw hn];omega)
   by_cases hb:eH (dW (dZ (aj s (aj s t))) s (aj s (aj s t)))=true
   ·rw[if_pos hb]
    have hu:=h.next.next.after (dZ (aj s (aj s t)))
    have s3:=after_at s (aj s (aj s t)) (dZ (aj s (aj s t)))
    have s4:=hu.step (by rw[nR hb];omega)
    refine⟨⟨?_,?_,?_,h.next.sizeLe,hu.sizeLe,EO _⟩,?_⟩<;>simp only[iM]<;>omega
   ·rw[if_neg hb] at hok;cases hok
  ·rw[if_neg hn] at hok;cases hok
 ·rw[if_neg hk] at hok;cases hok
theorem Bl{s:ByteArray}:∀ (f:Nat) (t:aN) (L:List bI),Tk s t→(dO s f t L).1=true →
  (∀ x∈(dO s f t L).2.2,x∈L∨Qw s t.at_ (dO s f t L).2.1.at_ x)∧(dO s f t L).2.2.length+t.at_≤L.length+(dO s f t L).2.1.at_∧Tk s (dO s f t L).2.1
 | 0,t,L,h,hok=>by simp[dO] at hok
 | f+1,t,L,h,hok=>by
  unfold dO at hok ⊢
  by_cases h1:(bD s t).1=true
  ·rw[if_pos h1] at hok ⊢
   have hi:=Qx h h1 (lu t.text.toList)
   have ht:=sZ h
   by_cases h5:((bD s t).2.kind==5)=true
   ·rw[if_pos h5]
    have h5':(bD s t).2.kind=5:=eq_of_beq h5
    have s1:=ht.step (by omega)
    refine⟨fun x hx=>?_,?_,ht.next⟩
    ·rcases List.mem_append.1 hx with hx | hx
     ·exact Or.inl hx
     ·rw[List.mem_singleton.1 hx];exact Or.inr (hi.1.mono (Nat.le_refl _) (by show _≤(aj s (bD s t).2).at_;omega))
    ·show (L++[iM s t (lu t.text.toList)]).length+t.at_≤L.length+(aj s (bD s t).2).at_
     rw[List.length_append,List.length_singleton];have:=hi.2;omega
   ·rw[if_neg h5] at hok ⊢
    have ih:=Bl f (bD s t).2 _ ht hok
    have hge:=(pW f (bD s t).2 (L++[iM s t (lu t.text.toList)]) ht).2
    refine⟨fun x hx=>?_,?_,ih.2.2⟩
    ·rcases ih.1 x hx with hx | hx
     ·rcases List.mem_append.1 hx with hx | hx
      ·exact Or.inl hx
      ·rw[List.mem_singleton.1 hx];exact Or.inr (hi.1.mono (Nat.le_refl _) hge)
     ·exact Or.inr (hx.mono (by have:=hi.2;omega) (Nat.le_refl _))
    ·have:=ih.2.1;rw[List.length_append,List.length_singleton] at this;have:=hi.2;omega
  ·rw[if_neg h1] at hok;cases hok
structure NmP(s:ByteArray)(lo hi:Nat)(t:aN):Prop where
 a:lo≤t.at_∧t.at_<hi
 s:t.text.size≤s.size
theorem NmP.mono{s:ByteArray}{lo hi lo' hi':Nat}{f:aN}(h:NmP s lo hi f)(h1:lo'≤lo)(h2:hi≤hi'):NmP s lo' hi' f :=
 ⟨⟨by have:=h.a;omega,by have:=h.a;omega⟩,h.s⟩
theorem EP{s:ByteArray}:∀ (f:Nat) (t:aN) (L:List aN),Tk s t→(namesT s f t L).1=true →
  (∀ x∈(namesT s f t L).2.2,x∈L∨NmP s t.at_ (namesT s f t L).2.1.at_ x)∧(namesT s f t L).2.2.length+t.at_≤L.length+(namesT s f t L).2.1.at_∧Tk s (namesT s f t L).2.1
 | 0,t,L,h,hok=>by simp[namesT] at hok
 | f+1,t,L,h,hok=>by
  unfold namesT at hok ⊢
  by_cases h1:cO t=true
  ·rw[if_pos h1] at hok ⊢
   have s0:=h.step (by rw[iw h1];omega)
   have ht:=h.next
   by_cases h5:((aj s t).kind==5)=true
   ·rw[if_pos h5]
    have h5':(aj s t).kind=5:=eq_of_beq h5
    have s1:=ht.step (by omega)
    refine⟨fun x hx=>?_,?_,ht.next⟩
    ·rcases List.mem_append.1 hx with hx | hx
     ·exact Or.inl hx
     ·rw[List.mem_singleton.1 hx];exact Or.inr ⟨⟨Nat.le_refl _,by show _<(aj s (aj s t)).at_;omega⟩,h.sizeLe⟩
    ·show (L++[t]).length+t.at_≤L.length+(aj s (aj s t)).at_
     rw[List.length_append,List.length_singleton];omega
   ·rw[if_neg h5] at hok ⊢
    have ih:=EP f (aj s t) _ ht hok
    have hge:=(tC f (aj s t) (L++[t]) ht).2
    refine⟨fun x hx=>?_,?_,ih.2.2⟩
    ·rcases ih.1 x hx with hx | hx
     ·rcases List.mem_append.1 hx with hx | hx
      ·exact Or.inl hx
      ·rw[List.mem_singleton.1 hx];exact Or.inr ⟨⟨Nat.le_refl _,by omega⟩,h.sizeLe⟩
     ·exact Or.inr (hx.mono (by omega) (Nat.le_refl _))
    ·have:=ih.2.1;rw[List.length_append,List.length_singleton] at this;omega
  ·rw[if_neg h1] at hok;cases hok
structure Xp(s:ByteArray)(lo hi:Nat)(p:iP):Prop where
 nm:NmP s lo hi p.name
 f:∀ f∈p.fields,Qw s lo hi f
 n:∀ t∈p.names,NmP s lo hi t
 b:2≤p.kind→∃ t,p.base=aB t∧NmP s lo hi t
 a:p.kind=3→∃ t,p.answer=aB t∧NmP s lo hi t
 fl:p.fields.length+lo≤hi
 nl:p.names.length+lo≤hi
 k:p.kind≤3
 fn:2≤p.kind→p.fields=[]
theorem Xp.mono{s:ByteArray}{lo hi lo' hi':Nat}{p:iP}(h:Xp s lo hi p)(h1:lo'≤lo)(h2:hi≤hi'):Xp s lo' hi' p :=
 ⟨h.nm.mono h1 h2,fun f hf=>(h.f f hf).mono h1 h2,fun t ht=>(h.n t ht).mono h1 h2,fun hk=>by obtain⟨t,e,ht⟩:=h.b hk;exact⟨t,e,ht.mono h1 h2⟩,fun hk=>by obtain⟨t,e,ht⟩:=h.a hk;exact⟨t,e,ht.mono h1 h2⟩,by have:=h.fl;omega,by have:=h.nl;omega,h.k,h.fn⟩
theorem lX{t:aN}{l:List UInt8}(h:aI t l=true):t.kind=2:=by
 simp only[aI,Bool.and_eq_true] at h;exact eq_of_beq h.2
theorem Uy{s:ByteArray}{t:aN}(h:Tk s t)(hok:(cZ s t).1=true):Xp s t.at_ (cZ s t).2.1.at_ (cZ s t).2.2:=by
 have n1:=h.next
 have n2:=h.next.next
 have n3:=h.next.next.next
 unfold cZ at hok ⊢
 by_cases e0:aI t dP=true
 ·rw[if_pos e0] at hok ⊢
  have s1:=h.step (by rw[lX e0];omega)
  by_cases hn:cO (aj s t)=true
  ·rw[if_pos hn] at hok ⊢
   have s2:=n1.step (by rw[iw hn];omega)
   unfold gK at hok ⊢
   by_cases h4:((aj s (aj s t)).kind==4)=true
   ·rw[if_pos h4] at hok ⊢
    have hk4:(aj s (aj s t)).kind=4:=eq_of_beq h4
    have s3:=n2.step (by omega)
    obtain⟨i1,i2,_⟩:=Bl _ _ _ n3 hok
    have hge:=(pW (s.size+1) _ [] n3).2
    refine⟨⟨⟨by dsimp only;omega,by dsimp only;omega⟩,n1.sizeLe⟩,fun f hf=>?_,fun t ht=>by simp at ht,fun hk=>by simp at hk,fun hk=>by simp at hk,?_,by simp;omega,by simp,fun hk=>by simp at hk⟩
    ·rcases i1 f hf with hf | hf
     ·simp at hf
     ·exact hf.mono (by omega) (Nat.le_refl _)
    ·simp only[List.length_nil] at i2;dsimp only;omega
   ·rw[if_neg h4] at hok;cases hok
  ·rw[if_neg hn] at hok;cases hok
 ·rw[if_neg e0] at hok ⊢
  by_cases e1:aI t mY=true
  ·rw[if_pos e1] at hok ⊢
   have s1:=h.step (by rw[lX e1];omega)
   by_cases hn:cO (aj s t)=true
   ·rw[if_pos hn] at hok ⊢
    have s2:=n1.step (by rw[iw hn];omega)
    unfold gQ at hok ⊢
    by_cases h4:((aj s (aj s t)).kind==4)=true
    ·rw[if_pos h4] at hok ⊢
     have hk4:(aj s (aj s t)).kind=4:=eq_of_beq h4
     have s3:=n2.step (by omega)
     obtain⟨i1,i2,_⟩:=EP _ _ _ n3 hok
     have hge:=(tC (s.size+1) _ [] n3).2
     refine⟨⟨⟨by dsimp only;omega,by dsimp only;omega⟩,n1.sizeLe⟩,fun f hf=>by simp at hf,fun f hf=>?_,fun hk=>by simp at hk,fun hk=>by simp at hk,by simp;omega,?_,by simp,fun hk=>by simp at hk⟩
     ·rcases i1 f hf with hf | hf
      ·simp at hf
      ·exact hf.mono (by omega) (Nat.le_refl _)
     ·simp only[List.length_nil] at i2;dsimp only;omega
    ·rw[if_neg h4] at hok;cases hok
   ·rw[if_neg hn] at hok;cases hok
  ·rw[if_neg e1] at hok ⊢
   by_cases e2:aI t je=true
   ·rw[if_pos e2] at hok ⊢
    have s1:=h.step (by rw[lX e2];omega)
    by_cases hn:cO (aj s t)=true
    ·rw[if_pos hn] at hok ⊢
     have s2:=n1.step (by rw[iw hn];omega)
     simp only at hok ⊢
     rw[hok]
     have s3:=n2.step (by rw[nR hok];omega)
     simp only[dW]
     exact⟨⟨⟨by dsimp only;omega,by dsimp only;omega⟩,n1.sizeLe⟩,fun f hf=>by simp at hf,fun f hf=>by simp at hf,fun _=>⟨_,rfl,⟨by omega,by omega⟩,n2.sizeLe⟩,fun hk=>by simp at hk,by simp;omega,by simp;omega,by simp,fun _=>rfl⟩
    ·rw[if_neg hn] at hok;cases hok
   ·rw[if_neg e2] at hok ⊢
    by_cases e3:aI t qE=true
    ·rw[if_pos e3] at hok ⊢
     have s1:=h.step (by rw[lX e3];omega)
     by_cases hn:cO (aj s t)=true
     ·rw[if_pos hn] at hok ⊢
      have s2:=n1.step (by rw[iw hn];omega)
      by_cases hb:eH (aj s (aj s t))=true
      ·rw[if_pos hb] at hok ⊢
       have s3:=n2.step (by rw[nR hb];omega)
       simp only at hok ⊢
       rw[hok]
       have s4:=n3.step (by rw[nR hok];omega)
       simp only[dW]
       exact⟨⟨⟨by dsimp only;omega,by dsimp only;omega⟩,n1.sizeLe⟩,fun f hf=>by simp at hf,fun f hf=>by simp at hf,fun _=>⟨_,rfl,⟨by omega,by omega⟩,n2.sizeLe⟩,fun _=>⟨_,rfl,⟨by omega,by omega⟩,n3.sizeLe⟩,by simp;omega,by simp;omega,by simp,fun _=>rfl⟩
      ·rw[if_neg hb] at hok;cases hok
     ·rw[if_neg hn] at hok;cases hok
    ·rw[if_neg e3] at hok;cases hok
def Ahead(s:ByteArray)(p q:iP):Prop:=∃ c,(∃ lo,Xp s lo c p)∧(∃ hi,Xp s c hi q)
theorem ER{s:ByteArray}:∀ (f:Nat) (t:aN) (L M:List iP),Tk s t→(kM s f t L).1=some M→(∀ p∈L,∃ lo,Xp s lo t.at_ p)→L.Pairwise (Ahead s)→L.length≤t.at_→(∀ p∈L,wY p.base∧wY p.answer) →
  (∀ p∈M,∃ lo,Xp s lo s.size p)∧M.Pairwise (Ahead s)∧M.length≤s.size∧(∀ p∈M,wY p.base∧wY p.answer)
 | 0,t,L,M,h,hM,_,_,_,_=>by simp[kM] at hM
 | f+1,t,L,M,h,hM,hin,hpw,hlen,hnm=>by
  have hfit:=h.fit
  unfold kM at hM
  by_cases h0:(t.kind==0)=true
  ·rw[if_pos h0] at hM
   simp only[Option.some.injEq] at hM
   subst hM
   refine⟨fun p hp=>?_,hpw,by omega,hnm⟩
   obtain⟨lo,hi⟩:=hin p hp
   exact⟨lo,hi.mono (Nat.le_refl _) (by omega)⟩
  ·rw[if_neg h0] at hM
   by_cases h1:(cZ s t).1=true
   ·rw[if_pos h1] at hM
    have ht:=Bh h
    have hat:=ht.2 h1
    have hit:=Uy h h1
    refine ER f (cZ s t).2.1 _ M ht.1 hM (fun p hp=>?_) ?_ ?_ ?_
    ·rcases List.mem_append.1 hp with hp | hp
     ·obtain⟨lo,hi⟩:=hin p hp
      exact⟨lo,hi.mono (Nat.le_refl _) (by omega)⟩
     ·rw[List.mem_singleton.1 hp];exact⟨_,hit⟩
    ·rw[List.pairwise_append]
     refine⟨hpw,by simp,fun p hp q hq=>?_⟩
     rw[List.mem_singleton.1 hq]
     exact⟨t.at_,hin p hp,_,hit⟩
    ·rw[List.length_append,List.length_singleton];omega
    ·intro p hp
     rcases List.mem_append.1 hp with hp | hp
     ·exact hnm p hp
     ·rw[List.mem_singleton.1 hp];exact Jj s t
   ·rw[if_neg h1] at hM;cases hM
theorem yw{s:ByteArray}{M:List iP}(h:(aV s).1=some M):(∀ p∈M,∃ lo,Xp s lo s.size p)∧M.Pairwise (Ahead s)∧M.length≤s.size∧(∀ p∈M,wY p.base∧wY p.answer) :=
 ER (s.size+1) (jw s 0) [] M ⟨0,by omega,rfl⟩ h (by simp) (by simp) (by simp) (by simp)
def gB(k:Nat):Bool:=(k==0)||(k==1)
theorem zl(k:Nat)(c1 c2 c3 c4 c5 c6 c7 c8:Value)(w:World):
  Calls Tryz.prog 146 #[.agg #[.int .i64 k,c1,c2,c3,c4,c5,c6,c7,c8]] w fun e w'=>e=.returned (.bool (gB k))∧Below w.heap.size w w':=by
 generalize hB:gB k=b
 have HB:=hid hB
 clear hB
 have hi:((k:Int)==1)=(k==1):=by
  rw[Bool.eq_iff_iff];simp;omega
 have HI:=hid hi
 clear hi
 cases h0:((k:Int)==0)
 ·have hk:(k==0)=false:=by simp at h0 ⊢;omega
  have HK:=hid hk
  clear hk
  go_enter func146,ntmps146
  go_wp2
  go_ret
  exact⟨bM (by rw[← HB.out,gB,HK.out,← HI.out];simp),(Below.refl _ _).alloc (Nat.le_refl _) _⟩
 ·have hk:(k==0)=true:=by simp at h0 ⊢;omega
  have HK:=hid hk
  clear hk
  go_enter func146,ntmps146
  go_wp2
  go_ret
  exact⟨bM (by rw[← HB.out,gB,HK.out];rfl),(Below.refl _ _).alloc (Nat.le_refl _) _⟩
def jg(name:List UInt8)(p:iP):Bool:=gB p.kind&&(p.name.text.toList==name)
def bZ(X:List aO)(name:List UInt8):Int:=match X.findIdx? (fun x=>jg name x.it) with | some i=>i | none=>-1
theorem LU{L:List aO}{name:List UInt8}{k:Nat}{x:aO}(hk:L[k]? = some x)(hm:jg name x.it=true)(hall:∀ j y,j<k→L[j]? = some y→jg name y.it=false):bZ L name=k:=by
 have hlt:k<L.length:=by
  rcases Nat.lt_or_ge k L.length with h | h
  ·exact h
  ·rw[List.getElem?_eq_none h] at hk;cases hk
 have e:L[k]=x:=by rw[List.getElem?_eq_getElem hlt] at hk;simpa using hk
 unfold bZ
 have:L.findIdx? (fun x=>jg name x.it)=some k:=by
  rw[List.findIdx?_eq_some_iff_getElem]
  refine⟨hlt,by rw[e];exact hm,fun j hj=>?_⟩
  have:=hall j L[j] hj (List.getElem?_eq_getElem (by omega))
  simp[this]
 rw[this]
theorem Jk{L:List aO}{name:List UInt8}(hall:∀ j y,j<L.length→L[j]? = some y→jg name y.it=false):bZ L name = -1:=by
 unfold bZ
 have:L.findIdx? (fun x=>jg name x.it)=none:=by
  rw[List.findIdx?_eq_none_iff]
  intro x hx
  obtain⟨j,hj,rfl⟩:=List.getElem_of_mem hx
  exact hall j _ hj (List.getElem?_eq_getElem hj)
 rw[this]
theorem zQ(k:Nat)(nm name:ByteArray)(c2 c5 c6 c7 c8:Value)(fa na:Option Addr)(fl fc nl nc cb:Nat)(w:World)(hc:w.cell? ⟨cb,0,none⟩=some (.string name))(hcb:cb<w.heap.size):
  Calls Tryz.prog 145 #[.agg #[.int .i64 k,.string nm,c2,.slice fa fl fc,.slice na nl nc,c5,c6,c7,c8],.pointer (some ⟨cb,0,none⟩)] w fun e w'=>e=.returned (.bool (gB k&&(nm.toList==name.toList)))∧Below w.heap.size w w':=by
 go_enter func145,ntmps145
 go_wp2_with fail
 refine(zl _ _ _ _ _ _ _ _ _ _).mono ?_;rintro e w1 ⟨rfl,hb1⟩
 have hb0:Below w.heap.size w (w.alloc (.cells #[.int .i64 k,.string nm,c2,.slice fa fl fc,.slice na nl nc,c5,c6,c7,c8] 116)):=(Below.refl _ _).alloc (Nat.le_refl _) _
 have hbel:=hb0.trans (hb1.mono (by simp))
 have d0:w1.cell? ⟨cb,0,none⟩=some (.string name):=by rw[hbel.cell hcb];exact hc
 have d1:w1.cell? ⟨w.heap.size,1,none⟩=some (.string nm):=by rw[hb1.cell (by simp)];simp
 cases hty:gB k
 all_goals
  go_wp2_with fail
  go_ret
  exact⟨bM (by simp[hty]),hbel⟩
def LV(X:List aO):Prop:=∀ x∈X,wY x.it.base∧wY x.it.answer
theorem LW(l:List aO)(hn:LV l)(k:Nat)(x:aO)(h:l[k]? = some x):((l.flatMap fF).drop (k*9)).take 9=fF x:=by
 induction l generalizing k with
 | nil=>simp at h
 | cons a r ih=>
  have hl:=Gz (hn a (by simp))
  rw[List.flatMap_cons]
  cases k with
  | zero=>
   simp at h;subst h
   rw[Nat.zero_mul,List.drop_zero,List.take_append,List.take_of_length_le (by omega),hl];simp
  | succ k=>
   simp at h
   rw[List.drop_append,List.drop_eq_nil_of_le (by omega),List.nil_append,show (k+1)*9-(fF a).length=k*9 from by omega]
   exact ih (fun y hy=>hn y (by simp[hy])) k h
theorem lQ{α:Type}{l:List α}{k:Nat}{x:α}(h:l[k]? = some x):k<l.length:=by
 rcases Nat.lt_or_ge k l.length with h' | h'
 ·exact h'
 ·rw[List.getElem?_eq_none h'] at h;cases h
structure zn where
 fa:Option Addr
 fc:Nat
 na:Option Addr
 nc:Nat
 bb:ByteArray
 ba:Nat
 ab:ByteArray
 aa:Nat
structure Yd(w:World)(lo:Nat)(x:aO)(g k:Nat)(n:zn):Prop where
 vf:x.vf=.slice n.fa x.it.fields.length n.fc
 vn:x.vn=.slice n.na x.it.names.length n.nc
 base:x.it.base=[.string n.bb,.int .i64 n.ba]
 answer:x.it.answer=[.string n.ab,.int .i64 n.aa]
 seg:Seg w g 116 (k*9) [.int .i64 x.it.kind,.string x.it.name.text,.int .i64 x.it.name.at_,.slice n.fa x.it.fields.length n.fc,.slice n.na x.it.names.length n.nc,.string n.bb,.int .i64 n.ba,.string n.ab,.int .i64 n.aa]
theorem dK.rG{w:World}{lo g cap:Nat}{X:List aO}(h:dK w lo (.slice (some ⟨g,0,none⟩) X.length cap) X)(hn:LV X){k:Nat}{x:aO}(hk:X[k]? = some x):∃ n,Yd w lo x g k n:=by
 have hm:=List.mem_of_getElem? hk
 have hnm:=hn x hm
 obtain⟨fa,fc,hvf⟩:∃ a c,x.vf=.slice a x.it.fields.length c:=ay (h.nest x hm).f
 obtain⟨na,nc,hvn⟩:∃ a c,x.vn=.slice a x.it.names.length c:=ay (h.nest x hm).n
 have hlen:=Gz hnm
 obtain⟨⟨bb,ba,hbb⟩,⟨ab,aa,hab⟩⟩:=hnm
 refine⟨⟨fa,fc,na,nc,bb,ba,ab,aa⟩,hvf,hvn,hbb,hab,?_⟩
 have hcells:fF x=[.int .i64 x.it.kind,.string x.it.name.text,.int .i64 x.it.name.at_,.slice fa x.it.fields.length fc,.slice na x.it.names.length nc,.string bb,.int .i64 ba,.string ab,.int .i64 aa]:=by
  simp[fF,hbb,hab,hvf,hvn,aB]
 have:=(Af h.own).part (k*9) 9 (fF x) (LW X hn k x hk) hlen (by omega)
 rw[hcells] at this
 simpa using this
theorem D7(w:World)(lo:Nat)(lv:Value)(X:List aO)(name:ByteArray)(cb:Nat)(h:dK w lo lv X)(hn:LV X)(hX:X.length≤400)(hc:w.cell? ⟨cb,0,none⟩=some (.string name))(hcb:cb<w.heap.size):
  Calls Tryz.prog 75 #[lv,.func (Fn.func 145) #[] #[.pointer (some ⟨cb,0,none⟩)]] w fun e w'=>e=.returned (.int .i64 (bZ X name.toList))∧Below w.heap.size w w':=by
 obtain⟨la,lc,hlv⟩:∃ a c,lv=.slice a X.length c:=ay h.own
 subst hlv
 have H:=hid h
 have HN:=hid hn
 clear h hn
 go_enter func75,ntmps75
 go_wp2_with fail
 go_loopg [5,8] X.length (fun gk t i wr=>∃ k:Nat,k+gk=X.length∧i=.int .i64 k∧Hid (∀ j y,j<k→X[j]? = some y→jg name.toList y.it=false)∧Below w.heap.size w wr)
 case atStart=>exact⟨0,by omega,rfl,hid (fun j y hj=>by omega),Below.refl _ _⟩
 case round=>
  obtain⟨k,hk,rfl,HA,hbel⟩:=hrel
  by_cases hlt:k<X.length
  ·obtain⟨x,hx⟩:∃ x,X[k]? = some x:=⟨X[k],List.getElem?_eq_getElem hlt⟩
   obtain⟨g,cap,hv,hgl,hgs⟩:=iJ H.out.own (by omega)
   obtain⟨rfl,rfl⟩:la=some ⟨g,0,none⟩∧lc=cap:=by simpa using hv
   obtain⟨n,hn⟩:=(H.out.below hbel).rG HN.out hx
   have hs:=hn.seg
   have HX:=hid hx
   clear hx hv hn
   have c0:=hs.cell (j:=0) rfl
   have c1:=hs.cell (j:=1) rfl
   have c2:=hs.cell (j:=2) rfl
   have c3:=hs.cell (j:=3) rfl
   have c4:=hs.cell (j:=4) rfl
   have c5:=hs.cell (j:=5) rfl
   have c6:=hs.cell (j:=6) rfl
   have c7:=hs.cell (j:=7) rfl
   have c8:=hs.cell (j:=8) rfl
   simp only[Nat.add_zero] at c0
   have hc':wr.cell? ⟨cb,0,none⟩=some (.string name):=by rw[hbel.cell hcb];exact hc
   have hcb':cb<wr.heap.size:=Nat.lt_of_lt_of_le hcb hbel.size
   clear hs
   go_wp2_with fail
   refine(zQ _ _ _ _ _ _ _ _ _ _ _ _ _ _ _ _ hc' hcb').mono ?_;rintro e w1 ⟨rfl,hb1⟩
   have hb2:=hbel.trans (hb1.mono hbel.size)
   clear c0 c1 c2 c3 c4 c5 c6 c7 c8 hb1 hc'
   have HM:=hid (show jg name.toList x.it=(gB x.it.kind&&(x.it.name.text.toList==name.toList)) from rfl)
   cases hm:(gB x.it.kind&&(x.it.name.text.toList==name.toList)) with
   | false=>
    go_wp2_with fail
    go_roundg (gk-1)
    case rel=>exact⟨k+1,by omega,by go_num,hid (fun j y hj hy=>by
     rcases Nat.lt_or_ge j k with h | h
     ·exact HA.out j y h hy
     ·rw[show j=k from by omega,HX.out] at hy;simp at hy;subst hy;exact HM.out.trans hm),hb2⟩
    case measure=>omega
   | true=>
    have HF:=hid (LU HX.out (HM.out.trans hm) HA.out)
    go_wp2_with fail
    go_ret
    exact⟨nK HF.out.symm,hb2⟩
  ·go_wp2_with fail
   go_ret
   exact⟨nK (Jk (fun j y hj=>HA.out j y (by omega))).symm,hbel⟩
theorem pX(w:World)(lo:Nat)(lv:Value)(X:List aO)(name:ByteArray)(h:dK w lo lv X)(hn:LV X)(hX:X.length≤400):
  Calls Tryz.prog 100 #[lv,.string name] w fun e w'=>e=.returned (.int .i64 (bZ X name.toList))∧Below w.heap.size w w':=by
 obtain⟨la,lc,hlv⟩:∃ a c,lv=.slice a X.length c:=ay h.own
 subst hlv
 have H:=hid h
 clear h
 go_enter func100,ntmps100
 go_wp2_with fail
 have hb0:Below w.heap.size w (w.alloc (.cells #[.string name] 9)):=(Below.refl _ _).alloc (Nat.le_refl _) _
 refine(D7 _ lo _ X name w.heap.size (H.out.below hb0) hn hX (by simp) (by simp)).mono ?_;rintro e w1 ⟨rfl,hb1⟩
 have hb2:=hb0.trans (hb1.mono hb0.size)
 go_wp2_with fail
 go_ret
 exact⟨nK rfl,hb2⟩
def fname(f:bI):aN:=⟨2,f.name,f.nameAt⟩
def wZ(f:bI):aN:=⟨2,f.base,f.dG⟩
theorem Qy(l:List bI)(k:Nat)(x:bI)(h:l[k]? = some x):((l.flatMap dI).drop (k*7)).take 7=dI x:=by
 induction l generalizing k with
 | nil=>simp at h
 | cons a r ih=>
  rw[List.flatMap_cons]
  cases k with
  | zero=>simp at h;subst h;simp[dI]
  | succ k=>
   simp at h
   rw[List.drop_append,List.drop_eq_nil_of_le (by simp[dI];omega),List.nil_append,show (k+1)*7-(dI a).length=k*7 from by simp[dI];omega]
   exact ih k h
theorem jG{w:World}{lo:Nat}{v:Value}{fs:List bI}(h:w.ownsRow lo 242 7 v fs.length (fs.flatMap dI)){j:Nat}{f:bI}(hj:fs[j]? = some f):∃ g c,v=.slice (some ⟨g,0,none⟩) fs.length c∧lo≤g∧g<w.heap.size∧Seg w g 242 (j*7) (dI f):=by
 have hlt:=lQ hj
 obtain⟨g,c,hv,hg,hs⟩:=h.form (by omega)
 rw[hv] at h
 have:=(Af h).part (j*7) 7 (dI f) (Qy _ j f hj) rfl (by omega)
 exact⟨g,c,hv,hg,hs,by simpa using this⟩
theorem iU{w wr w2:World}{lo:Nat}{e:TypeId}{size n:Nat}{v:Value}{xs:List Value}{o:Obj}{B:Nat}(hbel:Below B w wr)(hB:B≤wr.heap.size)(hown:wr.ownsRow lo e size v n xs)(hlo:B≤lo)(hg:(wr.alloc o).grownBy w2 v.ownBlock):Below B w w2 :=
 (hbel.alloc hB o).grown hg (by simp;omega) (fun k hk=>by have:=(hown.lt k hk).1;omega)
theorem Bo(w:World)(lo:Nat)(v:Value)(fs:List bI)(h:w.ownsRow lo 242 7 v fs.length (fs.flatMap dI))(hl:fs.length≤400):
  Calls Tryz.prog 137 #[v] w fun e w'=>∃ nv,e=.returned nv∧w'.ownsRow w.heap.size 112 2 nv (fs.map fname).length ((fs.map fname).flatMap aB)∧Below w.heap.size w w':=by
 obtain⟨iN,hiN,hN0,hN1,IJ⟩:=info_parts Tryz.infoPName
 obtain⟨la,lc,hlv⟩:∃ a c,v=.slice a fs.length c:=ay h
 subst hlv
 have H:=hid h
 clear h
 go_enter func137,ntmps137
 go_wp2_with fail
 go_loopg [3,5,8] fs.length (fun gk nv f i wr=>∃ k:Nat,k+gk=fs.length∧i=.int .i64 k∧Hid (wr.ownsRow w.heap.size 112 2 nv k (((fs.take k).map fname).flatMap aB))∧Below w.heap.size w wr)
 case atStart=>exact⟨0,by omega,rfl,hid (World.ownsRow_nil _ _ _ _),Below.refl _ _⟩
 case round=>
  obtain⟨k,hk,rfl,HO,hbel⟩:=hrel
  have hsz:=hbel.size
  by_cases hlt:k<fs.length
  ·obtain⟨f,hf⟩:∃ f,fs[k]? = some f:=⟨fs[k],List.getElem?_eq_getElem hlt⟩
   obtain⟨na,nc,yx⟩:∃ a c,u3=.slice a k c:=ay HO.out
   subst yx
   obtain⟨g,cap,hv,hgl,hgs,hs⟩:=jG (aC H.out (fun g hg=>hbel.block g (H.out.lt g hg).2)) hf
   obtain⟨rfl,rfl⟩:la=some ⟨g,0,none⟩∧lc=cap:=by simpa using hv
   have HF:=hid (show (fs.take (k+1)).map fname=(fs.take k).map fname++[fname f] by rw[List.take_add_one,hf];simp)
   have c0:wr.cell? ⟨g,k*7,none⟩=some (.int .i64 f.number):=hs.cell (j:=0) rfl
   have c1:wr.cell? ⟨g,k*7+1,none⟩=some (.int .i64 f.numberAt):=hs.cell (j:=1) rfl
   have c2:wr.cell? ⟨g,k*7+2,none⟩=some (.string f.name):=hs.cell (j:=2) rfl
   have c3:wr.cell? ⟨g,k*7+3,none⟩=some (.int .i64 f.nameAt):=hs.cell (j:=3) rfl
   have c4:wr.cell? ⟨g,k*7+4,none⟩=some (.int .i64 f.shape):=hs.cell (j:=4) rfl
   have c5:wr.cell? ⟨g,k*7+5,none⟩=some (.string f.base):=hs.cell (j:=5) rfl
   have c6:wr.cell? ⟨g,k*7+6,none⟩=some (.int .i64 f.dG):=hs.cell (j:=6) rfl
   clear hs hv hf
   go_wp2_with (at_builtin;refine wpList_append_lies _ rfl _ _ 114 rfl w.heap.size 112 iN _ 2 24 underlying114 hiN hN0 hN1 IJ rfl (by decide) _ _ _ rfl ((HO.out.alloc _).alloc _) ⟨_,0,none⟩ 1 1 (aB (fname f)) rfl rfl (dY _ _ (by simp) #[.string f.name,.int .i64 f.nameAt] _) (by simp[aB,Value.oneCell']) (by omega) (by unfold maxLen;omega) (by omega) (by simp;omega) _ rfl ?_)
   intro g5 cp5 w5 hown5 dL _ _
   have hb5:=iU (hbel.alloc hbel.size _) (by simp;omega) (HO.out.alloc _) (Nat.le_refl _) dL
   clear dL
   go_wp2_with fail
   go_roundg (gk-1)
   case rel=>exact⟨k+1,by omega,by go_num,hid (by rw[HF.out,List.flatMap_append];simpa using hown5),hb5⟩
   case measure=>omega
  ·have HE:=hid (show fs.take k=fs from List.take_of_length_le (by omega))
   go_wp2_with fail
   go_ret
   exact⟨_,rfl,by have:=HO.out;rw[HE.out] at this;rw[show (fs.map fname).length=k by simp;omega];exact this,hbel⟩
def jX(p:iP)(n:zn):List aN:=if p.kind=2 then [⟨2,n.bb,n.ba⟩] else if p.kind=3 then [⟨2,n.bb,n.ba⟩,⟨2,n.ab,n.aa⟩] else p.fields.map wZ
theorem Qz(w:World)(lo:Nat)(p:iP)(n:zn)(h:w.ownsRow lo 242 7 (.slice n.fa p.fields.length n.fc) p.fields.length (p.fields.flatMap dI))(hl:p.fields.length≤400):
  Calls Tryz.prog 187 #[.agg #[.int .i64 p.kind,.string p.name.text,.int .i64 p.name.at_,.slice n.fa p.fields.length n.fc,.slice n.na p.names.length n.nc,.string n.bb,.int .i64 n.ba,.string n.ab,.int .i64 n.aa]] w fun e w'=>∃ nv,e=.returned nv∧w'.ownsRow w.heap.size 112 2 nv (jX p n).length ((jX p n).flatMap aB)∧Below w.heap.size w w':=by
 obtain⟨iN,hiN,hN0,hN1,IJ⟩:=info_parts Tryz.infoPName
 have H:=hid h
 clear h
 by_cases h2:p.kind=2
 ·have hk2:((p.kind:Int)==2)=true:=by simp;omega
  have HP:=hid (show jX p n=[⟨2,n.bb,n.ba⟩] by simp[jX,h2])
  go_enter func187,ntmps187
  go_wp2_with fail
  go_ret
  refine⟨_,rfl,?_,((Below.refl _ _).alloc (Nat.le_refl _) _).alloc (by simp) _⟩
  rw[HP.out]
  have:=World.ownsRow_lit (base:=w.heap.size) (e:=112) (size:=2) (w.alloc (.cells #[.int .i64 2,.string p.name.text,.int .i64 p.name.at_,.slice n.fa p.fields.length n.fc,.slice n.na p.names.length n.nc,.string n.bb,.int .i64 n.ba,.string n.ab,.int .i64 n.aa] 116)) #[.string n.bb,.int .i64 n.ba] 1 (by simp) (by unfold maxLen;omega) rfl
  simpa[aB] using this
 ·by_cases h3:p.kind=3
  ·have hk2:((p.kind:Int)==2)=false:=by simp;omega
   have hk3:((p.kind:Int)==3)=true:=by simp;omega
   have HP:=hid (show jX p n=[⟨2,n.bb,n.ba⟩,⟨2,n.ab,n.aa⟩] by simp[jX,h3])
   go_enter func187,ntmps187
   go_wp2_with fail
   go_ret
   refine⟨_,rfl,?_,((Below.refl _ _).alloc (Nat.le_refl _) _).alloc (by simp) _⟩
   rw[HP.out]
   have:=World.ownsRow_lit (base:=w.heap.size) (e:=112) (size:=2) (w.alloc (.cells #[.int .i64 3,.string p.name.text,.int .i64 p.name.at_,.slice n.fa p.fields.length n.fc,.slice n.na p.names.length n.nc,.string n.bb,.int .i64 n.ba,.string n.ab,.int .i64 n.aa] 116)) #[.string n.bb,.int .i64 n.ba,.string n.ab,.int .i64 n.aa] 2 (by simp) (by unfold maxLen;omega) rfl
   simpa[aB] using this
  ·have hk2:((p.kind:Int)==2)=false:=by simp;omega
   have hk3:((p.kind:Int)==3)=false:=by simp;omega
   have HP:=hid (show jX p n=p.fields.map wZ by simp[jX,h2,h3])
   generalize hfs:p.fields=fs at *
   clear hfs
   obtain⟨ifa,ifc,ina,inc,ibb,iba,iab,iaa⟩:=n
   dsimp only at *
   go_enter func187,ntmps187
   go_wp2_with fail
   have hb0:Below w.heap.size w (w.alloc (.cells #[.int .i64 p.kind,.string p.name.text,.int .i64 p.name.at_,.slice ifa fs.length ifc,.slice ina p.names.length inc,.string ibb,.int .i64 iba,.string iab,.int .i64 iaa] 116)):=(Below.refl _ _).alloc (Nat.le_refl _) _
   go_loopg [3,5,23] fs.length (fun gk nv f i wr=>∃ k:Nat,k+gk=fs.length∧i=.int .i64 k∧Hid (wr.ownsRow w.heap.size 112 2 nv k (((fs.take k).map wZ).flatMap aB))∧Below w.heap.size w wr)
   case atStart=>exact⟨0,by omega,rfl,hid (World.ownsRow_nil _ _ _ _),hb0⟩
   case round=>
    obtain⟨k,hk,rfl,HO,hbel⟩:=hrel
    have hsz:=hbel.size
    by_cases hlt:k<fs.length
    ·obtain⟨f,hf⟩:∃ f,fs[k]? = some f:=⟨fs[k],List.getElem?_eq_getElem hlt⟩
     obtain⟨na,nc,yx⟩:∃ a c,u3=.slice a k c:=ay HO.out
     subst yx
     obtain⟨g,cap,hv,hgl,hgs,hs⟩:=jG (aC H.out (fun g hg=>hbel.block g (H.out.lt g hg).2)) hf
     obtain⟨rfl,rfl⟩:ifa=some ⟨g,0,none⟩∧ifc=cap:=by simpa using hv
     have HF:=hid (show (fs.take (k+1)).map wZ=(fs.take k).map wZ++[wZ f] by rw[List.take_add_one,hf];simp)
     have c0:wr.cell? ⟨g,k*7,none⟩=some (.int .i64 f.number):=hs.cell (j:=0) rfl
     have c1:wr.cell? ⟨g,k*7+1,none⟩=some (.int .i64 f.numberAt):=hs.cell (j:=1) rfl
     have c2:wr.cell? ⟨g,k*7+2,none⟩=some (.string f.name):=hs.cell (j:=2) rfl
     have c3:wr.cell? ⟨g,k*7+3,none⟩=some (.int .i64 f.nameAt):=hs.cell (j:=3) rfl
     have c4:wr.cell? ⟨g,k*7+4,none⟩=some (.int .i64 f.shape):=hs.cell (j:=4) rfl
     have c5:wr.cell? ⟨g,k*7+5,none⟩=some (.string f.base):=hs.cell (j:=5) rfl
     have c6:wr.cell? ⟨g,k*7+6,none⟩=some (.int .i64 f.dG):=hs.cell (j:=6) rfl
     clear hs hv hf
     go_wp2_with (at_builtin;refine wpList_append_lies _ rfl _ _ 114 rfl w.heap.size 112 iN _ 2 24 underlying114 hiN hN0 hN1 IJ rfl (by decide) _ _ _ rfl ((HO.out.alloc _).alloc _) ⟨_,0,none⟩ 1 1 (aB (wZ f)) rfl rfl (dY _ _ (by simp) #[.string f.base,.int .i64 f.dG] _) (by simp[aB,Value.oneCell']) (by omega) (by unfold maxLen;omega) (by omega) (by simp;omega) _ rfl ?_)
     intro g5 cp5 w5 hown5 dL _ _
     have hb5:=iU (hbel.alloc hbel.size _) (by simp;omega) (HO.out.alloc _) (Nat.le_refl _) dL
     clear dL
     go_wp2_with fail
     go_roundg (gk-1)
     case rel=>exact⟨k+1,by omega,by go_num,hid (by rw[HF.out,List.flatMap_append];simpa using hown5),hb5⟩
     case measure=>omega
    ·have HE:=hid (show fs.take k=fs from List.take_of_length_le (by omega))
     go_wp2_with fail
     go_ret
     exact⟨_,rfl,by have:=HO.out;rw[HE.out] at this;rw[HP.out,show (fs.map wZ).length=k by simp;omega];exact this,hbel⟩
def bV(X:List aO):List aN:=(X.filter (fun x=>gB x.it.kind)).map (fun x=>x.it.name)
def bW(X:List aO):List aN:=(X.filter (fun x=>!gB x.it.kind)).map (fun x=>x.it.name)
theorem xg(X:List aO)(x:aO):bV (X++[x])=bV X++if gB x.it.kind then [x.it.name] else []:=by
 unfold bV;rw[List.filter_append];cases h:gB x.it.kind<;>simp[h]
theorem xq(X:List aO)(x:aO):bW (X++[x])=bW X++if gB x.it.kind then [] else [x.it.name]:=by
 unfold bW;rw[List.filter_append];cases h:gB x.it.kind<;>simp[h]
theorem zo(X:List aO):(bV X).length≤X.length:=by unfold bV;rw[List.length_map];exact List.length_filter_le _ _
theorem zq(X:List aO):(bW X).length≤X.length:=by unfold bW;rw[List.length_map];exact List.length_filter_le _ _
def Tt(u v:Value):Prop:=∀ b,u.ownBlock=some b→v.ownBlock=some b→False
theorem Jl{w:World}{lo H:Nat}{e:TypeId}{size m n:Nat}{u v:Value}{ys:List Value}{g cp:Nat}(h:Tt u v)(hv:w.ownsRow lo e size v m ys)(hle:w.heap.size≤H)(hg:u.ownBlock=some g∨g=H):Tt (.slice (some ⟨g,0,none⟩) n cp) v:=by
 intro b h1 h2
 have hb:g=b:=by simpa[Value.ownBlock] using h1
 subst hb
 rcases hg with hg | hg
 ·exact h _ hg h2
 ·have:=(hv.lt _ h2).2;omega
theorem ES{w w0 w1:World}{lo:Nat}{e:TypeId}{size m:Nat}{u v:Value}{ys:List Value}(h:Tt u v)(hv:w.ownsRow lo e size v m ys)(hb:Below w.heap.size w w0)(hg:w0.grownBy w1 u.ownBlock):w1.ownsRow lo e size v m ys :=
 aC hv (fun k hk=>by
  have hl:=(hv.lt k hk).2
  rw[hg.block k (Nat.lt_of_lt_of_le hl hb.size) (fun hh=>h k hh.symm hk)]
  exact hb.block k hl)
theorem Tt.symm{u v:Value}(h:Tt u v):Tt v u:=fun b h1 h2=>h b h2 h1
theorem D8(w:World)(lo:Nat)(lv:Value)(X:List aO)(h:dK w lo lv X)(hn:LV X)(hX:X.length≤400):
  Calls Tryz.prog 136 #[lv] w fun e w'=>∃ t o,e=.returned (.tuple #[t,o])∧w'.ownsRow w.heap.size 112 2 t (bV X).length ((bV X).flatMap aB)∧w'.ownsRow w.heap.size 112 2 o (bW X).length ((bW X).flatMap aB)∧Below w.heap.size w w':=by
 obtain⟨iN,hiN,hN0,hN1,IJ⟩:=info_parts Tryz.infoPName
 obtain⟨la,lc,hlv⟩:∃ a c,lv=.slice a X.length c:=ay h.own
 subst hlv
 have H:=hid h
 have HN:=hid hn
 clear h hn
 go_enter func136,ntmps136
 go_wp2_with fail
 go_loopg [2,3,5,8] X.length (fun gk t o b i wr=>∃ k:Nat,k+gk=X.length∧i=.int .i64 k∧Hid (wr.ownsRow w.heap.size 112 2 t (bV (X.take k)).length ((bV (X.take k)).flatMap aB))∧Hid (wr.ownsRow w.heap.size 112 2 o (bW (X.take k)).length ((bW (X.take k)).flatMap aB))∧Hid (Tt t o)∧Below w.heap.size w wr)
 case atStart=>exact⟨0,by omega,rfl,hid (World.ownsRow_nil _ _ _ _),hid (World.ownsRow_nil _ _ _ _),hid (fun b h1 _=>by simp[Value.ownBlock] at h1),Below.refl _ _⟩
 case round=>
  obtain⟨k,hk,rfl,HT,HR,HA,hbel⟩:=hrel
  have hsz:=hbel.size
  by_cases hlt:k<X.length
  ·obtain⟨x,hx⟩:∃ x,X[k]? = some x:=⟨X[k],List.getElem?_eq_getElem hlt⟩
   obtain⟨g,cap,hv,hgl,hgs⟩:=iJ H.out.own (by omega)
   obtain⟨rfl,rfl⟩:la=some ⟨g,0,none⟩∧lc=cap:=by simpa using hv
   obtain⟨n,hn⟩:=(H.out.below hbel).rG HN.out hx
   have hs:=hn.seg
   have HK:=hid (show X.take (k+1)=X.take k++[x] by rw[List.take_add_one,hx];rfl)
   have hl1:=zo (X.take k)
   have hl2:=zq (X.take k)
   rw[List.length_take] at hl1 hl2
   clear hx hv hn
   obtain⟨ta,tc,htv⟩:∃ a c,u2=.slice a (bV (X.take k)).length c:=ay HT.out
   obtain⟨oa,oc,hov⟩:∃ a c,u3=.slice a (bW (X.take k)).length c:=ay HR.out
   subst htv hov
   have c0:=hs.cell (j:=0) rfl
   have c1:=hs.cell (j:=1) rfl
   have c2:=hs.cell (j:=2) rfl
   have c3:=hs.cell (j:=3) rfl
   have c4:=hs.cell (j:=4) rfl
   have c5:=hs.cell (j:=5) rfl
   have c6:=hs.cell (j:=6) rfl
   have c7:=hs.cell (j:=7) rfl
   have c8:=hs.cell (j:=8) rfl
   simp only[Nat.add_zero] at c0
   clear hs
   go_wp2_with fail
   refine(zl _ _ _ _ _ _ _ _ _ _).mono ?_;rintro e w2 ⟨rfl,hb2'⟩
   have hb1:Below wr.heap.size wr (wr.alloc (.cells #[.int .i64 x.it.kind,.string x.it.name.text,.int .i64 x.it.name.at_,.slice n.fa x.it.fields.length n.fc,.slice n.na x.it.names.length n.nc,.string n.bb,.int .i64 n.ba,.string n.ab,.int .i64 n.aa] 116)):=(Below.refl _ _).alloc (Nat.le_refl _) _
   have d1:w2.cell? ⟨wr.heap.size,1,none⟩=some (.string x.it.name.text):=by rw[hb2'.cell (by simp)];simp
   have d2:w2.cell? ⟨wr.heap.size,2,none⟩=some (.int .i64 x.it.name.at_):=by rw[hb2'.cell (by simp)];simp
   have hbw:=hb1.trans (hb2'.mono hb1.size)
   have hb2:=hbel.trans (hbw.mono hsz)
   have hz2:=hbw.size
   have HT2:=hid (aC (w':=w2) HT.out (fun g hg=>hbw.block g (HT.out.lt g hg).2))
   have HR2:=hid (aC (w':=w2) HR.out (fun g hg=>hbw.block g (HR.out.lt g hg).2))
   clear c0 c1 c2 c3 c4 c5 c6 c7 c8 hb2' hb1 HT HR
   cases hty:gB x.it.kind with
   | true=>
    have EI:=hid (show bV (X.take (k+1))=bV (X.take k)++[x.it.name] by rw[HK.out,xg,hty];rfl)
    have HE2:=hid (show bW (X.take (k+1))=bW (X.take k) by rw[HK.out,xq,hty];simp)
    go_wp2_with (at_builtin;refine wpList_append_lies _ rfl _ _ 114 rfl w.heap.size 112 iN _ 2 24 underlying114 hiN hN0 hN1 IJ rfl (by decide) _ _ _ rfl (HT2.out.alloc _) ⟨_,0,none⟩ 1 1 (aB x.it.name) rfl rfl (dY _ _ (by simp) #[.string x.it.name.text,.int .i64 x.it.name.at_] _) (by simp[aB,Value.oneCell']) (by omega) (by unfold maxLen;omega) (by omega) (by simp;omega) _ rfl ?_)
    intro g5 cp5 w5 hown5 dL Jm _
    have hb5:=iU hb2 (by omega) HT2.out (Nat.le_refl _) dL
    have hoth:=ES HA.out HR2.out ((Below.refl _ _).alloc (Nat.le_refl _) _) dL
    have hap:=Jl (n:=(bV (X.take k)).length+1) (cp:=cp5) HA.out HR2.out (by omega) Jm
    clear dL Jm
    go_wp2_with fail
    go_roundg (gk-1)
    case rel=>exact⟨k+1,by omega,by go_num,hid (by rw[EI.out,List.flatMap_append];simpa using hown5),hid (by rw[HE2.out];exact hoth),hid hap,hb5⟩
    case measure=>omega
   | false=>
    have EI:=hid (show bV (X.take (k+1))=bV (X.take k) by rw[HK.out,xg,hty];simp)
    have HE2:=hid (show bW (X.take (k+1))=bW (X.take k)++[x.it.name] by rw[HK.out,xq,hty];rfl)
    go_wp2_with (at_builtin;refine wpList_append_lies _ rfl _ _ 114 rfl w.heap.size 112 iN _ 2 24 underlying114 hiN hN0 hN1 IJ rfl (by decide) _ _ _ rfl (HR2.out.alloc _) ⟨_,0,none⟩ 1 1 (aB x.it.name) rfl rfl (dY _ _ (by simp) #[.string x.it.name.text,.int .i64 x.it.name.at_] _) (by simp[aB,Value.oneCell']) (by omega) (by unfold maxLen;omega) (by omega) (by simp;omega) _ rfl ?_)
    intro g5 cp5 w5 hown5 dL Jm _
    have hb5:=iU hb2 (by omega) HR2.out (Nat.le_refl _) dL
    have hoth:=ES HA.out.symm HT2.out ((Below.refl _ _).alloc (Nat.le_refl _) _) dL
    have hap:=Jl (n:=(bW (X.take k)).length+1) (cp:=cp5) HA.out.symm HT2.out (by omega) Jm
    clear dL Jm
    go_wp2_with fail
    go_roundg (gk-1)
    case rel=>exact⟨k+1,by omega,by go_num,hid (by rw[EI.out];exact hoth),hid (by rw[HE2.out,List.flatMap_append];simpa using hown5),hid hap.symm,hb5⟩
    case measure=>omega
  ·have HE:=hid (show X.take k=X from List.take_of_length_le (by omega))
   go_wp2_with fail
   go_ret2
   exact⟨_,_,rfl,by have:=HT.out;rw[HE.out] at this;exact this,by have:=HR.out;rw[HE.out] at this;exact this,hbel⟩
def Places(w:World)(lo:Nat)(v:Value)(L:List Nat):Prop:=w.ownsRow lo 3 1 v L.length (L.map kU)
theorem Places.drewN{w:World}{lo:Nat}{v:Value}{L:List Nat}(h:Places w lo v L)(n:Nat):Places (w.drewN n) lo v L :=
 aC h (fun g hg=>(below_drewN (Below.refl w.heap.size w) n).block g (h.lt g hg).2)
theorem Places.same{w w':World}{lo:Nat}{v:Value}{L:List Nat}(h:Places w lo v L)(hb:Below w.heap.size w w'):Places w' lo v L :=
 aC h (fun g hg=>hb.block g (h.lt g hg).2)
def uD(b:Bool)(a:Nat):List Nat:=if b then [a] else []
def aar(fs:List bI)(k:Nat):Bool:=match fs[k]?,fs[k-1]? with | some f,some g=>decide (f.number≤g.number) | _,_=>false
def GH(fs:List bI)(k:Nat):List Nat:=match fs[k]? with | some f=>uD (aar fs k) f.numberAt | none=>[]
def nT(fs:List bI):Nat→List Nat
 | 0=>[]
 | k+1=>nT fs k++GH fs (k+1)
theorem yA(fs:List bI):∀ k,(nT fs k).length≤k
 | 0=>by simp[nT]
 | k+1=>by
  have:=yA fs k
  have h2:(GH fs (k+1)).length≤1:=by
   unfold GH uD;split
   ·split<;>simp
   ·simp
  simp[nT];omega
theorem zS(w:World)(lo:Nat)(v:Value)(fs:List bI)(h:w.ownsRow lo 242 7 v fs.length (fs.flatMap dI))(hl:fs.length≤400):
  Calls Tryz.prog 138 #[v] w fun e w'=>∃ nv,e=.returned nv∧Places w' w.heap.size nv (nT fs (fs.length-1))∧Below w.heap.size w w':=by
 obtain⟨iI,uS,hI0,hI1,hI2⟩:=info_parts Tryz.infoInt
 obtain⟨la,lc,hlv⟩:∃ a c,v=.slice a fs.length c:=ay h
 subst hlv
 have H:=hid h
 clear h
 go_enter func138,ntmps138
 go_wp2_with fail
 go_loopg [3,4] fs.length (fun gk nv i wr=>∃ k:Nat,(1≤k∧(k≤fs.length∨k=1))∧k+gk=fs.length+1∧i=.int .i64 k∧Hid (Places wr w.heap.size nv (nT fs (k-1)))∧Below w.heap.size w wr)
 case atStart=>exact⟨1,by omega,by omega,rfl,hid (World.ownsRow_nil _ _ _ _),Below.refl _ _⟩
 case round=>
  obtain⟨k,⟨hk1,hk9⟩,hk,rfl,HO,hbel⟩:=hrel
  have hsz:=hbel.size
  have hpl:=yA fs (k-1)
  by_cases hlt:k<fs.length
  ·obtain⟨f,hf⟩:∃ f,fs[k]? = some f:=⟨fs[k],List.getElem?_eq_getElem hlt⟩
   obtain⟨f0,hf0⟩:∃ f,fs[k-1]? = some f:=⟨fs[k-1],List.getElem?_eq_getElem (by omega)⟩
   obtain⟨na,nc,yx⟩:∃ a c,u3=.slice a (nT fs (k-1)).length c:=ay HO.out
   subst yx
   obtain⟨g,cap,hv,hgl,hgs,hs⟩:=jG (aC H.out (fun g hg=>hbel.block g (H.out.lt g hg).2)) hf
   obtain⟨rfl,rfl⟩:la=some ⟨g,0,none⟩∧lc=cap:=by simpa using hv
   obtain⟨g',cap',hv',_,_,hs'⟩:=jG (aC H.out (fun g hg=>hbel.block g (H.out.lt g hg).2)) hf0
   obtain⟨rfl,rfl⟩:g=g'∧lc=cap':=by simpa using hv'
   have c0:wr.cell? ⟨g,k*7,none⟩=some (.int .i64 f.number):=hs.cell (j:=0) rfl
   have c1:wr.cell? ⟨g,k*7+1,none⟩=some (.int .i64 f.numberAt):=hs.cell (j:=1) rfl
   have d0:wr.cell? ⟨g,(k-1)*7,none⟩=some (.int .i64 f0.number):=hs'.cell (j:=0) rfl
   have HE:=hid (show nT fs k=nT fs (k-1)++uD (decide (f.number≤f0.number)) f.numberAt by
    obtain⟨q,rfl⟩:∃ q,k=q+1:=⟨k-1,by omega⟩
    simp only[Nat.add_sub_cancel] at hf0 ⊢
    simp[nT,GH,aar,hf,hf0])
   obtain⟨q,hq⟩:∃ q,k-1=q:=⟨_,rfl⟩
   rw[hq] at HO HE d0 hpl ⊢
   have hqq:(k:Int)-1=(q:Int):=by omega
   have hq2:(0:Int)≤(q:Int):=by omega
   have hq3:(q:Int)<(fs.length:Int):=by omega
   have HQ:=hid hq
   clear hs hs' hv hv' hf hf0 hq
   cases hle:decide (f.number≤f0.number) with
   | false=>
    rw[hle] at HE
    have hle':¬ f.number≤f0.number:=by simpa using hle
    go_wp2_with fail
    go_quiet (fail)
    go_wp2_with fail
    go_roundg (gk-1)
    case rel=>exact⟨k+1,by omega,by omega,by go_num,hid (by have:=HO.out;rw[show k+1-1=k by omega,HE.out];simpa[uD] using this.drewN _),below_drewN hbel _⟩
    case measure=>omega
   | true=>
    rw[hle] at HE
    go_wp2_with fail
    go_quiet (fail)
    go_wp2_with (at_builtin;refine wpList_append_lies _ rfl _ _ 181 rfl w.heap.size 3 iI _ 1 8 underlying181 uS hI0 hI1 hI2 rfl (by decide) _ _ _ rfl ((HO.out.drewN _).alloc _) ⟨_,0,none⟩ 1 1 [kU f.numberAt] rfl rfl (dY _ _ (by simp) #[.int .i64 f.numberAt] _) (by simp[kU,Value.oneCell']) (by omega) (by unfold maxLen;omega) (by omega) (by simp;omega) _ rfl ?_)
    intro g5 cp5 w5 hown5 dL _ _
    have hb5:=iU (below_drewN hbel _) (by simp;omega) (HO.out.drewN _) (Nat.le_refl _) dL
    clear dL
    go_wp2_with fail
    go_roundg (gk-1)
    case rel=>exact⟨k+1,by omega,by omega,by go_num,hid (by show World.ownsRow _ _ _ _ _ _ _;rw[show k+1-1=k by omega,HE.out];simpa[uD] using hown5),hb5⟩
    case measure=>omega
  ·have HE:=hid (show k-1=fs.length-1 by omega)
   go_wp2_with fail
   go_ret
   exact⟨_,rfl,by have:=HO.out;rw[HE.out] at this;exact this,hbel⟩
theorem QA(l:List aN)(k:Nat)(x:aN)(h:l[k]? = some x):((l.flatMap aB).drop (k*2)).take 2=aB x:=by
 induction l generalizing k with
 | nil=>simp at h
 | cons a r ih=>
  rw[List.flatMap_cons]
  cases k with
  | zero=>simp at h;subst h;simp[aB]
  | succ k=>
   simp at h
   rw[List.drop_append,List.drop_eq_nil_of_le (by simp[aB];omega),List.nil_append,show (k+1)*2-(aB a).length=k*2 from by simp[aB];omega]
   exact ih k h
theorem yB{w:World}{lo:Nat}{v:Value}{fs:List aN}(h:w.ownsRow lo 112 2 v fs.length (fs.flatMap aB)){j:Nat}{f:aN}(hj:fs[j]? = some f):∃ g c,v=.slice (some ⟨g,0,none⟩) fs.length c∧lo≤g∧g<w.heap.size∧Seg w g 112 (j*2) (aB f):=by
 have hlt:=lQ hj
 obtain⟨g,c,hv,hg,hs⟩:=h.form (by omega)
 rw[hv] at h
 have:=(Af h).part (j*2) 2 (aB f) (QA _ j f hj) rfl (by omega)
 exact⟨g,c,hv,hg,hs,by simpa using this⟩
def hasB(X:List aO)(name:ByteArray):Bool:=kL name.toList||decide (0≤bZ X name.toList)
def GI(X:List aO)(t:aN):Bool:=!hasB X t.text
theorem rH(w:World)(lo:Nat)(lv:Value)(X:List aO)(name:ByteArray)(h:dK w lo lv X)(hn:LV X)(hX:X.length≤400):
  Calls Tryz.prog 77 #[lv,.string name] w fun e w'=>e=.returned (.bool (hasB X name))∧Below w.heap.size w w':=by
 obtain⟨la,lc,hlv⟩:∃ a c,lv=.slice a X.length c:=ay h.own
 subst hlv
 have H:=hid h
 clear h
 have HB:=hid (show hasB X name=(kL name.toList||decide (0≤bZ X name.toList)) from rfl)
 generalize hasB X name=r at *
 go_enter func77,ntmps77
 go_wp2_with fail
 refine(oz _ _).mono ?_;rintro e w2 ⟨rfl,rfl⟩
 cases hbi:kL name.toList with
 | true=>
  go_wp2_with fail
  go_ret
  exact⟨bM (by rw[HB.out,hbi];rfl),Below.refl _ _⟩
 | false=>
  go_wp2_with fail
  refine(pX _ lo _ X name H.out hn hX).mono ?_;rintro e w3 ⟨rfl,hb3⟩
  generalize bZ X name.toList=fi at *
  go_wp2_with fail
  go_ret
  exact⟨bM (by rw[HB.out,hbi];simp),hb3⟩
def qK(X:List aO)(ts:List aN):List Nat:=ts.flatMap (fun t=>uD (GI X t) t.at_)
theorem Jo(b:Bool)(a:Nat):(uD b a).length≤1:=by unfold uD;split<;>simp
theorem Jp(X:List aO)(ts:List aN):(qK X ts).length≤ts.length:=by
 induction ts with
 | nil=>simp[qK]
 | cons a r ih=>unfold qK at *;have:=Jo (GI X a) a.at_;rw[List.flatMap_cons,List.length_append,List.length_cons];omega
theorem QB(X:List aO)(ts:List aN)(t:aN):qK X (ts++[t])=qK X ts++uD (GI X t) t.at_:=by simp[qK]
theorem yC(w:World)(lo:Nat)(lv:Value)(X:List aO)(p:iP)(n:zn)(h:dK w lo lv X)(hn:LV X)(hX:X.length≤400)(hf:w.ownsRow lo 242 7 (.slice n.fa p.fields.length n.fc) p.fields.length (p.fields.flatMap dI))(hl:p.fields.length≤400):
  Calls Tryz.prog 139 #[lv,.agg #[.int .i64 p.kind,.string p.name.text,.int .i64 p.name.at_,.slice n.fa p.fields.length n.fc,.slice n.na p.names.length n.nc,.string n.bb,.int .i64 n.ba,.string n.ab,.int .i64 n.aa]] w fun e w'=>∃ nv,e=.returned nv∧Places w' w.heap.size nv (qK X (jX p n))∧Below w.heap.size w w':=by
 obtain⟨iI,uS,hI0,hI1,hI2⟩:=info_parts Tryz.infoInt
 obtain⟨la,lc,hlv⟩:∃ a c,lv=.slice a X.length c:=ay h.own
 subst hlv
 have H:=hid h
 have HN:=hid hn
 have HF:=hid hf
 clear h hn hf
 go_enter func139,ntmps139
 go_wp2_with fail
 refine(Qz _ lo p n (HF.out.alloc _) hl).mono ?_;rintro e w1 ⟨bv,rfl,Qj,hb1⟩
 have hb0:Below w.heap.size w (w.alloc (.cells #[.int .i64 p.kind,.string p.name.text,.int .i64 p.name.at_,.slice n.fa p.fields.length n.fc,.slice n.na p.names.length n.nc,.string n.bb,.int .i64 n.ba,.string n.ab,.int .i64 n.aa] 116)):=(Below.refl _ _).alloc (Nat.le_refl _) _
 have abl:=hb0.trans (hb1.mono hb0.size)
 have hz1:=abl.size
 have hBl:(jX p n).length≤400:=by
  unfold jX;split
  ·simp
  ·split<;>simp<;>omega
 generalize hB:jX p n=B at *
 obtain⟨ba,bc,hbv⟩:∃ a c,bv=.slice a B.length c:=ay Qj
 subst hbv
 have HB:=hid Qj
 have HI1:=hid (H.out.below abl)
 have Ag:=hid hB
 clear Qj hb1 hb0 hB
 go_wp2_with fail
 go_loopg [5,7,11] B.length (fun gk nv b i wr=>∃ k:Nat,k+gk=B.length∧i=.int .i64 k∧Hid (Places wr w1.heap.size nv (qK X (B.take k)))∧Below w1.heap.size w1 wr)
 case atStart=>exact⟨0,by omega,rfl,hid (World.ownsRow_nil _ _ _ _),Below.refl _ _⟩
 case round=>
  obtain⟨k,hk,rfl,HO,hbel⟩:=hrel
  have hsz:=hbel.size
  have hpl:=Jp X (B.take k)
  rw[List.length_take] at hpl
  by_cases hlt:k<B.length
  ·obtain⟨f,hf⟩:∃ f,B[k]? = some f:=⟨B[k],List.getElem?_eq_getElem hlt⟩
   have HE:=hid (show qK X (B.take (k+1))=qK X (B.take k)++uD (GI X f) f.at_ by rw[List.take_add_one,hf];exact QB X _ f)
   obtain⟨na,nc,yx⟩:∃ a c,u5=.slice a (qK X (B.take k)).length c:=ay HO.out
   subst yx
   obtain⟨g,cap,hv,hgl,hgs,hs⟩:=yB (aC HB.out (fun g hg=>hbel.block g (HB.out.lt g hg).2)) hf
   obtain⟨rfl,rfl⟩:ba=some ⟨g,0,none⟩∧bc=cap:=by simpa using hv
   have c0:wr.cell? ⟨g,k*2,none⟩=some (.string f.text):=hs.cell (j:=0) rfl
   have c1:wr.cell? ⟨g,k*2+1,none⟩=some (.int .i64 f.at_):=hs.cell (j:=1) rfl
   have hbx:Below wr.heap.size wr (wr.alloc (.cells #[.string f.text,.int .i64 f.at_] 112)):=(Below.refl _ _).alloc (Nat.le_refl _) _
   clear hs hv hf
   go_wp2_with fail
   refine(rH _ lo _ X f.text (HI1.out.below (hbel.trans (hbx.mono hsz))) HN.out hX).mono ?_;rintro e w3 ⟨rfl,hb3⟩
   have LX:Below wr.heap.size wr w3:=hbx.trans (hb3.mono hbx.size)
   have hz3:=LX.size
   have ad9:=hbel.trans (LX.mono hsz)
   have Ya:=hid (HO.out.same LX)
   have d1:w3.cell? ⟨wr.heap.size,1,none⟩=some (.int .i64 f.at_):=by rw[hb3.cell (by simp)];simp
   cases hfi:hasB X f.text with
   | true=>
    have HU:=hid (show GI X f=false by simp[GI,hfi])
    go_wp2_with fail
    go_roundg (gk-1)
    case rel=>exact⟨k+1,by omega,by go_num,hid (by have:=Ya.out;rw[HE.out,HU.out];simpa[uD] using this),ad9⟩
    case measure=>omega
   | false=>
    have HU:=hid (show GI X f=true by simp[GI,hfi])
    go_wp2_with (at_builtin;refine wpList_append_lies _ rfl _ _ 181 rfl w1.heap.size 3 iI _ 1 8 underlying181 uS hI0 hI1 hI2 rfl (by decide) _ _ _ rfl (Ya.out.alloc _) ⟨_,0,none⟩ 1 1 [kU f.at_] rfl rfl (dY _ _ (by simp) #[.int .i64 f.at_] _) (by simp[kU,Value.oneCell']) (by omega) (by unfold maxLen;omega) (by omega) (by simp;omega) _ rfl ?_)
    intro g5 cp5 w5 hown5 dL _ _
    have hb5:=iU ad9 (by omega) Ya.out (Nat.le_refl _) dL
    clear dL
    go_wp2_with fail
    go_roundg (gk-1)
    case rel=>exact⟨k+1,by omega,by go_num,hid (by show World.ownsRow _ _ _ _ _ _ _;rw[HE.out,HU.out];simpa[uD] using hown5),hb5⟩
    case measure=>omega
  ·have HE:=hid (show B.take k=B from List.take_of_length_le (by omega))
   go_wp2_with fail
   go_ret
   exact⟨_,rfl,by have:=HO.out;rw[HE.out] at this;rw[Ag.out];exact own_base this hz1,abl.trans (hbel.mono hz1)⟩
open Go.Maps
theorem Bq{H:Type}{w:World}{lo:Nat}{e:TypeId}{size n:Nat}{v:Value}{xs:List Value}{P:Program}{k:TypeId}{R:Value→Option (DataW H × List MemPlace)}{b m:Nat}{D:DataW H}
  (h:w.ownsRow lo e size v n xs) (hm:w.ownsMap P k R b m D):some b≠v.ownBlock:=by
 obtain⟨es,clock,hb,_⟩:=hm
 rcases h.2 with⟨h',_⟩ | ⟨g',cap',cur,h',_,hg,_⟩
 ·subst h';simp[Value.ownBlock]
 ·subst h'
  intro hh
  have:b=g':=by simpa[Value.ownBlock] using hh
  subst this
  rw[hb] at hg;cases hg
def Bv(ts:List aN)(k:Nat):List Nat:=match ts[k]? with | some t=>uD ((ts.take k).any (fun g=>g.text.toList==t.text.toList)) t.at_ | none=>[]
def kH(ts:List aN)(k:Nat):List Nat:=(List.range k).flatMap (Bv ts)
def jY(gs:List (List aN)):List Nat:=gs.flatMap (fun ts=>kH ts ts.length)
theorem Bz(ts:List aN)(k:Nat):kH ts (k+1)=kH ts k++Bv ts k:=by unfold kH;rw[List.range_succ,List.flatMap_append];simp
theorem yD(ts:List aN):∀ k,(kH ts k).length≤k
 | 0=>by simp[kH]
 | k+1=>by
  have:=yD ts k
  have h2:(Bv ts k).length≤1:=by
   unfold Bv;split
   ·exact Jo _ _
   ·simp
  rw[Bz,List.length_append];omega
def uX(ts:List aN)(l:List UInt8):Nat:=(ts.filter (fun t=>t.text.toList==l)).length
theorem Ye(ts:List aN)(l:List UInt8):uX ts l≤ts.length:=List.length_filter_le _ _
theorem ET(ts:List aN)(t:aN)(l:List UInt8):uX (ts++[t]) l=uX ts l+if t.text.toList==l then 1 else 0:=by
 unfold uX;rw[List.filter_append];cases h:(t.text.toList==l)<;>simp[h]
theorem Uz(ts:List aN)(l:List UInt8):ts.any (fun g=>g.text.toList==l)=decide (0<uX ts l):=by
 rw[Bool.eq_iff_iff]
 simp[uX,List.length_pos_iff_exists_mem]
theorem Tryz.mapLaw:Keyed Tryz.prog 9:=string_keyed underlying9
theorem Tryz.zeroInt(w:World):(zeroValue 3).run Tryz.prog w=.ok (.int .i64 0) w:=by kernel_rfl
def Counts(w:World)(b n:Nat)(ts:List aN):Prop:=∃ D:DataW Unit,w.ownsMap Tryz.prog 9 (plainElem Tryz.prog 3) b n D∧IsMap D∧∀ l:List UInt8,D.atKey (.string l) (.lit (.int .i64 0))=.lit (.int .i64 (uX ts l))
structure Groups(w:World)(lo:Nat)(gv:Value)(Gs:List (Value × List aN)):Prop where
 own:w.ownsRow lo 114 1 gv Gs.length (Gs.map (fun p=>p.1))
 each:∀ p∈Gs,w.ownsRow lo 112 2 p.1 p.2.length (p.2.flatMap aB)
 len:∀ p∈Gs,p.2.length≤400
 txt:∀ p∈Gs,∀ t∈p.2,t.text.size≤400
theorem Yf{t:aN}(h:t.text.size≤400):keyOf Tryz.prog 9 (.string t.text)=some (.string t.text.toList):=by
 rw[ByteArray.toList_eq]
 exact Go.WideMaps.keyOf_string_mk underlying9 (by unfold maxLen;omega)
theorem Counts.start(w:World):Counts (w.alloc (.map #[] 0)) w.heap.size 0 [] :=
 ⟨.map [],World.ownsMap_made _ _ _ _,isMap_empty,fun l=>by simp[uX,DataW.atKey]⟩
theorem Counts.put{w:World}{b n:Nat}{ts:List aN}{t:aN}{D:DataW Unit}{c:Int}(hm:w.ownsMap Tryz.prog 9 (plainElem Tryz.prog 3) b n (D.put (.string t.text.toList) (.lit (.int .i64 c))))(hD:IsMap D)
  (hat:∀ l:List UInt8,D.atKey (.string l) (.lit (.int .i64 0))=.lit (.int .i64 (uX ts l))) (hc:c=(uX ts t.text.toList:Int)+1):Counts w b n (ts++[t]):=by
 refine⟨_,hm,hD.put _ _,fun l=>?_⟩
 rw[ET]
 by_cases he:l=t.text.toList
 ·subst he
  rw[atKey_put_same hD (show WideAt.IsKeyLit (.string _) from trivial),hc];simp
 ·rw[atKey_put_other (by simpa using he),hat l]
  have:(t.text.toList==l)=false:=by simpa using fun hh=>he hh.symm
  rw[this];simp
theorem Counts.grown{w w0 w1:World}{b n lo e size m:Nat}{ts:List aN}{v:Value}{xs:List Value}(h:Counts w b n ts)(hv:w.ownsRow lo e size v m xs)(hb:Below w.heap.size w w0)(hg:w0.grownBy w1 v.ownBlock):Counts w1 b n ts:=by
 obtain⟨D,hm,hD,hat⟩:=h
 have hne:=Bq hv hm
 have hlt:=hm.lt
 obtain⟨es,clock,hbk,F,hs,hDD⟩:=hm
 exact⟨D,⟨es,clock,((hg.block b (Nat.lt_of_lt_of_le hlt hb.size) hne).trans (hb.block b hlt)).trans hbk,F,hs,hDD⟩,hD,hat⟩
theorem QC(gs:List (List aN))(ts:List aN):jY (gs++[ts])=jY gs++kH ts ts.length:=by simp[jY]
theorem BA(gs:List (List aN))(h:∀ ts∈gs,ts.length≤400):(jY gs).length≤gs.length*400:=by
 induction gs with
 | nil=>simp[jY]
 | cons a r ih=>
  have h1:=ih (fun ts hts=>h ts (by simp[hts]))
  have h2:=yD a a.length
  have h3:=h a (by simp)
  have e:jY (a::r)=kH a a.length++jY r:=by simp[jY]
  rw[e,List.length_append,List.length_cons];omega
theorem Jq{w w':World}{a:Addr}{v:Value}(hb:Below w.heap.size w w')(h:w.cell? a=some v)(hlt:a.block<w.heap.size):w'.cell? a=some v:=(hb.cell hlt).trans h
theorem UA{w:World}{lo:Nat}{g cap:Nat}{Gs:List (Value × List aN)}(h:w.ownsRow lo 114 1 (.slice (some ⟨g,0,none⟩) Gs.length cap) Gs.length (Gs.map (fun p=>p.1))){q:Nat}{p:Value × List aN}(hq:Gs[q]? = some p):w.cell? ⟨g,q,none⟩=some p.1:=by
 have:=lQ hq
 rw[h.cellAt q (by omega),List.getElem?_map,hq];rfl
theorem rJ(w:World)(lo:Nat)(gv:Value)(Gs:List (Value × List aN))(h:Groups w lo gv Gs)(hl:Gs.length≤2):
  Calls Tryz.prog 135 #[gv] w fun e w'=>∃ nv,e=.returned nv∧Places w' w.heap.size nv (jY (Gs.map (fun p=>p.2)))∧Below w.heap.size w w':=by
 have hmm:=@run_makeMap Tryz.prog
 obtain⟨iI,uS,hI0,hI1,hI2⟩:=info_parts Tryz.infoInt
 obtain⟨la,lc,hlv⟩:∃ a c,gv=.slice a Gs.length c:=ay h.own
 subst hlv
 have H:=hid h
 clear h
 go_enter func135,ntmps135
 go_wp2_with fail
 go_loopg [3,5,6,8,11] Gs.length (fun gk nv x5 x6 x8 i wr=>∃ q:Nat,q+gk=Gs.length∧i=.int .i64 q∧Hid (Places wr w.heap.size nv (jY ((Gs.take q).map (fun p=>p.2))))∧Below w.heap.size w wr)
 case atStart=>exact⟨0,by omega,rfl,hid (World.ownsRow_nil _ _ _ _),Below.refl _ _⟩
 case round=>
  obtain⟨q,hq,rfl,HO,hbel⟩:=hrel
  have hsz:=hbel.size
  by_cases hlt:q<Gs.length
  ·obtain⟨p,hp⟩:∃ p,Gs[q]? = some p:=⟨Gs[q],List.getElem?_eq_getElem hlt⟩
   obtain⟨g,cap,hv,hgl,hgs⟩:=iJ H.out.own (by omega)
   obtain⟨rfl,rfl⟩:la=some ⟨g,0,none⟩∧lc=cap:=by simpa using hv
   have c0:=Jq hbel (UA H.out.own hp) hgs
   have HG:=hid (H.out.each p (List.mem_of_getElem? hp))
   have hts:=H.out.len p (List.mem_of_getElem? hp)
   have HTX:=hid (H.out.txt p (List.mem_of_getElem? hp))
   have HE:=hid (show (Gs.take (q+1)).map (fun p=>p.2)=(Gs.take q).map (fun p=>p.2)++[p.2] by rw[List.take_add_one,hp];simp)
   have hal:(jY ((Gs.take q).map (fun p=>p.2))).length≤800:=by
    have:=BA ((Gs.take q).map (fun p=>p.2)) (fun ts hts=>by
     obtain⟨r,hr,rfl⟩:=List.mem_map.1 hts
     exact H.out.len r (List.mem_of_mem_take hr))
    rw[List.length_map,List.length_take] at this;omega
   obtain⟨pv,ts⟩:=p
   dsimp only at *
   generalize hA:jY ((Gs.take q).map (fun p=>p.2))=A at *
   have HA:=hid hA
   clear hA hv hp
   obtain⟨na,nc,yx⟩:∃ a c,u3=.slice a A.length c:=ay HO.out
   obtain⟨pa,pc,hpv⟩:∃ a c,pv=.slice a ts.length c:=ay HG.out
   subst yx hpv
   obtain⟨w0,hw0⟩:∃ w0,w0=wr:=⟨_,rfl⟩
   obtain⟨ahK,hg1⟩:∃ g,g=gk:=⟨_,rfl⟩
   subst hw0 hg1
   go_wp2_with fail
   go_loopg [3,8,18] ts.length (fun g2 nv b i w2=>∃ k:Nat,k+g2=ts.length∧i=.int .i64 k∧Hid (Places w2 w.heap.size nv (A++kH ts k))∧Hid (Counts w2 w0.heap.size k (ts.take k))∧Below w.heap.size w w2)
   case atStart=>exact⟨0,by omega,rfl,hid (by have:=HO.out.alloc (.map #[] 0);simpa[kH,Places] using this),hid (Counts.start w0),hbel.alloc hsz _⟩
   case round=>
    obtain⟨k,hk,rfl,HP,HC,LY⟩:=hrel
    have hsz2:=LY.size
    have hrl:=yD ts k
    have hlen2:(A++kH ts k).length≤1200:=by rw[List.length_append];omega
    have II:=hid (show A++kH ts (k+1)=(A++kH ts k)++Bv ts k by rw[Bz];simp)
    have HBE:=hid (show k=ts.length→A++kH ts k=A++kH ts ts.length from fun e=>by rw[e])
    generalize A++kH ts k=L at *
    obtain⟨na2,nc2,yx⟩:∃ a c,u3=.slice a L.length c:=ay HP.out
    subst yx
    by_cases hkl:k<ts.length
    ·obtain⟨t,ht⟩:∃ t,ts[k]? = some t:=⟨ts[k],List.getElem?_eq_getElem hkl⟩
     obtain⟨tg,ahL,htv,htl,amM,hs⟩:=yB (aC HG.out (fun g hg=>LY.block g (HG.out.lt g hg).2)) ht
     obtain⟨rfl,rfl⟩:pa=some ⟨tg,0,none⟩∧pc=ahL:=by simpa using htv
     have e0:wr.cell? ⟨tg,k*2,none⟩=some (.string t.text):=hs.cell (j:=0) rfl
     have e1:wr.cell? ⟨tg,k*2+1,none⟩=some (.int .i64 t.at_):=hs.cell (j:=1) rfl
     have hkey:=Yf (HTX.out t (List.mem_of_getElem? ht))
     have HK:=hid (show ts.take (k+1)=ts.take k++[t] by rw[List.take_add_one,ht];rfl)
     have HR:=hid (show Bv ts k=uD (decide (0<uX (ts.take k) t.text.toList)) t.at_ by
      unfold Bv;rw[ht];simp only[Uz])
     have ahM:=Ye (ts.take k) t.text.toList
     rw[List.length_take] at ahM
     obtain⟨D,hown,hD,hat⟩:=HC.out
     have HHD:=hid hD
     have HAT:=hid hat
     have hown0:=hown.alloc (.cells #[.string t.text,.int .i64 t.at_] 112)
     have HHO:=hid hown
     clear hs htv ht hD hat hown
     have HPA:=hid (HP.out.alloc (.cells #[.string t.text,.int .i64 t.at_] 112))
     go_wp2_with (first
      | (at_lookup;refine wpList_lookup_own_int _ rfl _ _ 279 rfl 9 3 .i64 Tryz.mapLaw underlying279 underlying3 (Tryz.zeroInt _) w0.heap.size k _ rfl hown0 _ _ rfl hkey ?_;intro c hc hwc;rw[HAT.out] at hc;obtain rfl:((uX (ts.take k) t.text.toList:Nat):Int)=c:=(by simpa using hc);clear hc hwc)
      | (at_mapUpdate;refine wpList_mapUpdate_own _ rfl _ _ _ 279 rfl 9 3 Tryz.mapLaw underlying279 _ w0.heap.size k _ rfl hown0 (by unfold maxLen;omega) _ _ _ rfl rfl hkey _ [] (plainElem_int underlying3 (WalkArith.wf_i64 (by omega))) ?_)
      | fail)
     intro w1 hown1 hgrow1
     have hmb:=HHO.out.lt
     have HB1:=hid (show Below w.heap.size w w1 from(LY.alloc hsz2 _).grown hgrow1 (by simp;omega) (fun j hj=>by cases hj;exact hsz))
     have hz1:wr.heap.size+1≤w1.heap.size:=by have:=hgrow1.size;simpa using this
     have d0:w1.cell? ⟨wr.heap.size,0,none⟩=some (.string t.text):=by
      rw[World.cell?_of_block (hgrow1.block wr.heap.size (by simp) (by simp;omega))];simp
     have d1:w1.cell? ⟨wr.heap.size,1,none⟩=some (.int .i64 t.at_):=by
      rw[World.cell?_of_block (hgrow1.block wr.heap.size (by simp) (by simp;omega))];simp
     have jJ:=hid (show Places w1 w.heap.size (.slice na2 L.length nc2) L from aC HPA.out (fun g hg=>hgrow1.block g (HPA.out.lt g hg).2 (fun hh=>Bq HPA.out hown0 (by rw[hg];exact hh.symm))))
     have wO:=hid (show Counts w1 w0.heap.size (k+1) (ts.take (k+1)) by rw[HK.out];exact Counts.put hown1 HHD.out HAT.out rfl)
     have HCN:=hid (show uX (ts.take (k+1)) t.text.toList=uX (ts.take k) t.text.toList+1 by rw[HK.out,ET];simp)
     obtain⟨D1,hm1,hD1,aea⟩:=wO.out
     have aeb:=hid aea
     clear hown1 hgrow1 aea hD1 HAT HHD HHO hown0 HPA e0 e1 hmb
     have aec:=hid (II.out.trans (by rw[HR.out]))
     generalize hcn:uX (ts.take k) t.text.toList=cn at *
     cases hdup:decide (0<cn) with
     | false=>
      have aed:¬ (1:Int)<(cn:Int)+1:=by simp at hdup;omega
      have HL:=hid (show A++kH ts (k+1)=L by rw[aec.out,hdup];simp[uD])
      go_wp2_with (first
       | (at_lookup;refine wpList_lookup_own_int _ rfl _ _ 279 rfl 9 3 .i64 Tryz.mapLaw underlying279 underlying3 (Tryz.zeroInt _) w0.heap.size (k+1) _ rfl hm1 _ _ rfl hkey ?_;intro c hc hwc;rw[aeb.out,HCN.out] at hc;obtain rfl:((cn:Nat):Int)+1=c:=(by simpa using hc);clear hc hwc)
       | fail)
      go_roundg (gk-1)
      case rel=>exact⟨k+1,by omega,by go_num,hid (by rw[HL.out];exact jJ.out),wO,HB1.out⟩
      case measure=>omega
     | true=>
      have aed:(1:Int)<(cn:Int)+1:=by simp at hdup;omega
      have HL:=hid (show A++kH ts (k+1)=L++[t.at_] by rw[aec.out,hdup];simp[uD])
      go_wp2_with (first
       | (at_lookup;refine wpList_lookup_own_int _ rfl _ _ 279 rfl 9 3 .i64 Tryz.mapLaw underlying279 underlying3 (Tryz.zeroInt _) w0.heap.size (k+1) _ rfl hm1 _ _ rfl hkey ?_;intro c hc hwc;rw[aeb.out,HCN.out] at hc;obtain rfl:((cn:Nat):Int)+1=c:=(by simpa using hc);clear hc hwc)
       | (at_builtin;refine wpList_append_lies _ rfl _ _ 181 rfl w.heap.size 3 iI _ 1 8 underlying181 uS hI0 hI1 hI2 rfl (by decide) _ _ _ rfl (jJ.out.alloc _) ⟨_,0,none⟩ 1 1 [kU t.at_] rfl rfl (dY _ _ (by simp) #[.int .i64 t.at_] _) (by simp[kU,Value.oneCell']) (by omega) (by unfold maxLen;omega) (by omega) (by simp;omega) _ rfl ?_)
       | fail)
      intro g5 cp5 w5 hown5 dL _ _
      have hb5:=iU HB1.out (by omega) jJ.out (Nat.le_refl _) dL
      have HC5:=hid (show Counts w5 w0.heap.size (k+1) (ts.take (k+1)) from wO.out.grown jJ.out ((Below.refl _ _).alloc (Nat.le_refl _) _) dL)
      clear dL
      go_wp2_with fail
      go_roundg (gk-1)
      case rel=>exact⟨k+1,by omega,by go_num,hid (by show World.ownsRow _ _ _ _ _ _ _;rw[HL.out];simpa using hown5),HC5,hb5⟩
      case measure=>omega
    ·have HL:=hid (show jY ((Gs.take (q+1)).map (fun p=>p.2))=L by rw[HE.out,QC,HA.out,HBE.out (by omega)])
     go_wp2_with fail
     go_roundg (ahK-1)
     case rel=>exact⟨q+1,by omega,by go_num,hid (by rw[HL.out];exact HP.out),LY⟩
     case measure=>omega
  ·have HL:=hid (show Gs.take q=Gs from List.take_of_length_le (by omega))
   go_wp2_with fail
   go_ret
   exact⟨_,rfl,by have:=HO.out;rw[HL.out] at this;exact this,hbel⟩
def Edge(X:List aO)(i j:Nat):Prop:=∃ x f,X[i]? = some x∧f∈x.it.fields∧f.shape=0∧bZ X f.base.toList=(j:Int)
def WayL {α:Type} (E:α → α → Prop):Nat → α → α → Prop
  | 0,i,j => E i j
  | n + 1,i,k => ∃ j,E i j ∧ WayL E n j k
theorem WayL.ind {α:Type} {E:α → α → Prop} {P:α → α → Prop} (one:∀ i j,E i j → P i j) (more:∀ i j k n,E i j → WayL E n j k → P j k → P i k):∀ (n:Nat) (i k:α),WayL E n i k → P i k
  | 0,i,k,h => one i k h
  | n + 1,i,k,⟨j,e,h⟩ => more i j k n e h (WayL.ind one more n j k h)
def Way (X:List aO) (i k:Nat):Prop := ∃ n,WayL (Edge X) n i k
theorem Way.one {X:List aO} {i j:Nat} (e:Edge X i j):Way X i j := ⟨0,e⟩
theorem Way.more {X:List aO} {i j k:Nat} (e:Edge X i j) (h:Way X j k):Way X i k := h.elim fun n hn => ⟨n + 1,j,e,hn⟩
theorem Way.ind {X:List aO} {motive:∀ i k,Way X i k → Prop} (one:∀ {i j} (e:Edge X i j),motive i j (.one e)) (more:∀ {i j k} (e:Edge X i j) (h:Way X j k),motive j k h → motive i k (.more e h)):∀ {i k} (h:Way X i k),motive i k h :=
  fun {i k} ⟨n,h⟩ => WayL.ind (P := fun i k => ∀ h,motive i k h) (fun _ _ e _ => one e) (fun _ _ _ n e h ih _ => more e ⟨n,h⟩ (ih _)) n i k h _
def BD(X:List aO)(fs:List bI)(j k:Nat):Prop:=∃ f∈fs.take j,f.shape=0∧bZ X f.base.toList=(k:Int)
def yE(b:List Bool)(j:Nat):Bool:=(b[j]?).getD false
structure jZ(X:List aO)(whole:Nat)(b0 b:List Bool)(E:Nat→Prop):Prop where
 mono:∀ j,yE b0 j=true→yE b j=true
 new:∀ j,yE b j=true→yE b0 j=false→j≠whole∧∀ k,Edge X j k→yE b k=true
 done:∀ k,E k→yE b k=true
def UC(X:List aO)(whole i:Nat)(b0:List Bool)(r:Bool)(b:List Bool):Prop:=match r with | true=>Way X i whole | false=>jZ X whole b0 b (Edge X i)
theorem jZ.start(X:List aO)(whole:Nat)(b:List Bool)(fs:List bI):jZ X whole b b (BD X fs 0) :=
 ⟨fun _ h=>h,fun j h h'=>by(rw[h] at h';cases h'),fun k ⟨f,hf,_⟩=>by simp at hf⟩
theorem jZ.skip{X:List aO}{whole:Nat}{b0 b:List Bool}{fs:List bI}{j:Nat}{f:bI}(h:jZ X whole b0 b (BD X fs j))(hf:fs[j]? = some f)(hs:f.shape≠0∨bZ X f.base.toList<0∨∃ k:Nat,bZ X f.base.toList=(k:Int)∧yE b k=true):jZ X whole b0 b (BD X fs (j+1)):=by
 refine⟨h.mono,h.new,fun k hk=>?_⟩
 obtain⟨f',hm,h0,he⟩:=hk
 rw[List.take_add_one,hf] at hm
 simp only[Option.toList_some,List.mem_append,List.mem_singleton] at hm
 rcases hm with hm | rfl
 ·exact h.done k ⟨f',hm,h0,he⟩
 ·rcases hs with hs | hs | ⟨q,hq,hb⟩
  ·exact absurd h0 hs
  ·omega
  ·rw[show k=q from by omega];exact hb
theorem GK{b:List Bool}{k:Nat}(hk:k<b.length)(j:Nat):yE (b.set k true) j=(if j=k then true else yE b j):=by
 unfold yE
 rw[List.getElem?_set]
 by_cases h:k=j
 ·subst h;simp[hk]
 ·rw[if_neg h,if_neg (fun e=>h e.symm)]
theorem jZ.deep{X:List aO}{whole:Nat}{b0 b b2:List Bool}{fs:List bI}{j k:Nat}{f:bI}(h:jZ X whole b0 b (BD X fs j))(hf:fs[j]? = some f)(he:bZ X f.base.toList=(k:Int))(hw:k≠whole)(hk:k<b.length)(h2:jZ X whole (b.set k true) b2 (Edge X k)):jZ X whole b0 b2 (BD X fs (j+1)):=by
 have hm2:∀ q,yE b q=true→yE b2 q=true:=fun q hq=>h2.mono q (by rw[GK hk];split<;>simp_all)
 have hk2:yE b2 k=true:=h2.mono k (by rw[GK hk];simp)
 refine⟨fun q hq=>hm2 q (h.mono q hq),fun q hq hq0=>?_,fun q hq=>?_⟩
 ·by_cases hqk:q=k
  ·subst hqk;exact⟨hw,h2.done⟩
  ·cases hbq:yE b q with
   | true=>have:=h.new q hbq hq0;exact⟨this.1,fun r hr=>hm2 r (this.2 r hr)⟩
   | false=>exact h2.new q hq (by rw[GK hk,if_neg hqk];exact hbq)
 ·obtain⟨f',hm,h0,he'⟩:=hq
  rw[List.take_add_one,hf] at hm
  simp only[Option.toList_some,List.mem_append,List.mem_singleton] at hm
  rcases hm with hm | rfl
  ·exact hm2 q (h.done q ⟨f',hm,h0,he'⟩)
  ·rw[show q=k from by omega];exact hk2
theorem jZ.all{X:List aO}{whole i:Nat}{b0 b:List Bool}{x:aO}{j:Nat}(hx:X[i]? = some x)(hj:x.it.fields.length≤j)(h:jZ X whole b0 b (BD X x.it.fields j)):jZ X whole b0 b (Edge X i):=by
 refine⟨h.mono,h.new,fun k ⟨y,f,hy,hm,h0,he⟩=>h.done k ⟨f,?_,h0,he⟩⟩
 rw[hx] at hy
 cases hy
 rw[List.take_of_length_le hj];exact hm
def mZ(b:List Bool):Nat:=b.count false
theorem BF:∀ (b:List Bool) (k:Nat),b[k]? = some false→mZ (b.set k true)<mZ b
 | [],k,h=>by simp at h
 | a::r,0,h=>by simp at h;subst h;simp[mZ]
 | a::r,k+1,h=>by
  have:=BF r k (by simpa using h)
  unfold mZ at *
  rw[List.set_cons_succ,List.count_cons,List.count_cons];omega
theorem zu:∀ (b b':List Bool),b.length=b'.length→(∀ j,yE b j=true→yE b' j=true)→mZ b'≤mZ b
 | [],b',hl,_=>by
  have:b'=[]:=by cases b' with | nil=>rfl | cons a r=>simp at hl
  subst this;exact Nat.le_refl _
 | a::r,[],hl,_=>by simp at hl
 | a::r,a'::r',hl,h=>by
  have:=zu r r' (by simpa using hl) (fun j hj=>by have:=h (j+1);unfold yE at this hj ⊢;simpa using this (by simpa using hj))
  have h0:=h 0
  unfold mZ at *
  rw[List.count_cons,List.count_cons]
  cases a<;>cases a'<;>simp_all[yE]<;>omega
theorem jZ.aee{X:List aO}{whole:Nat}{n:Nat}{b:List Bool}{E:Nat→Prop}(h:jZ X whole (List.replicate n false) b E){i:Nat}(hi:∀ k,Edge X i k→yE b k=true):¬ Way X i whole:=by
 have h0:∀ j,yE (List.replicate n false) j=false:=fun j=>by
  unfold yE;rw[List.getElem?_replicate];split<;>rfl
 intro hw
 have hall:∀ (a c:Nat),Way X a c→c=whole→(∀ k,Edge X a k→yE b k=true)→False:=by
  intro a c hw
  induction hw using Way.ind with
  | one e=>intro hc hk;subst hc;exact(h.new _ (hk _ e) (h0 _)).1 rfl
  | more e _ ih=>intro hc hk;exact ih hc (h.new _ (hk _ e) (h0 _)).2
 exact hall i whole hw rfl hi
theorem UC.way{X:List aO}{whole i n:Nat}{r:Bool}{b:List Bool}(h:UC X whole i (List.replicate n false) r b):r=true↔Way X i whole:=by
 cases r with
 | true=>exact⟨fun _=>h,fun _=>rfl⟩
 | false=>exact⟨fun e=>(by cases e),fun hw=>absurd hw (jZ.aee h h.done)⟩
theorem Yg{w:World}{lo:Nat}{v:Value}{X:List ByteArray}(h:w.ownsRow lo 9 1 v X.length (X.map jd))(hp:0<X.length):∃ g c,v=.slice (some ⟨g,0,none⟩) X.length c∧g<w.heap.size∧∀ k s,X[k]? = some s→w.cell? ⟨g,k,none⟩=some (.string s):=by
 obtain⟨g,c,hv,_,hg⟩:=h.form hp
 subst hv
 refine⟨g,c,rfl,hg,fun k s hk=>?_⟩
 have hlt:k<X.length:=by
  rcases Nat.lt_or_ge k X.length with h | h
  ·exact h
  ·rw[List.getElem?_eq_none h] at hk;cases hk
 rw[h.cellAt k (by omega),List.getElem?_map,hk];rfl
theorem Yh{w:World}{lo:Nat}{v:Value}{X:List Nat}(h:w.ownsRow lo 3 1 v X.length (X.map kU))(hp:0<X.length):∃ g c,v=.slice (some ⟨g,0,none⟩) X.length c∧g<w.heap.size∧∀ (k s:Nat),X[k]? = some s→w.cell? ⟨g,k,none⟩=some (.int .i64 s):=by
 obtain⟨g,c,hv,_,hg⟩:=h.form hp
 subst hv
 refine⟨g,c,rfl,hg,fun k s hk=>?_⟩
 have hlt:k<X.length:=by
  rcases Nat.lt_or_ge k X.length with h | h
  ·exact h
  ·rw[List.getElem?_eq_none h] at hk;cases hk
 rw[h.cellAt k (by omega),List.getElem?_map,hk];rfl
def pY(p:iP):List aN:=if p.kind=2 then [⟨2,cellText p.base,cellAt p.base⟩] else if p.kind=3 then [⟨2,cellText p.base,cellAt p.base⟩,⟨2,cellText p.answer,cellAt p.answer⟩] else p.fields.map wZ
def PFI(X:List aO)(i:Nat)(x:aO)(a:Nat):Prop:=a∈jY [x.it.fields.map fname]∨a∈jY [x.it.names]∨a∈nT x.it.fields (x.it.fields.length-1)∨a∈qK X (pY x.it)∨(x.it.kind=0∧Way X i i∧a=x.it.name.at_)
def PF(X:List aO)(a:Nat):Prop:=a∈jY [bV X,bW X]∨∃ i x,X[i]? = some x∧PFI X i x a
structure Facts(s:ByteArray)(X:List aO):Prop where
 it:∀ x∈X,∃ lo,Xp s lo s.size x.it
 ahead:(X.map (fun x=>x.it)).Pairwise (Ahead s)
def bP(s:ByteArray)(E P:Int):Prop :=
 (400<s.size∧E=1∧P=0) ∨
 (s.size≤400∧(((aV s).1=none∧E=2∧P=((aV s).2.at_:Int)) ∨
  ∃ X:List aO,(aV s).1=some (X.map (fun x=>x.it)) ∧
   ((∃ m:Nat,PF X m∧(∀ a,PF X a→m≤a)∧E=3∧P=(m:Int))∨((∀ a,¬ PF X a)∧E=0∧P=0))))
theorem Jr{s:ByteArray}{X:List aO}(h:(aV s).1=some (X.map (fun x=>x.it))):Facts s X:=by
 obtain⟨h1,h2,_⟩:=yw h
 exact⟨fun x hx=>h1 x.it (List.mem_map.2 ⟨x,hx,rfl⟩),h2⟩
end Go.Proofs.YtolfcabodiphmaaGreatDoor
