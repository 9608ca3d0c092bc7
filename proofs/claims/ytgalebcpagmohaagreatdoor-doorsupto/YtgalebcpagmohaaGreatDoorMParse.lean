/- The items of a schema, by package schemas' descent; how they lie in memory (no walk). -/
import Derived.Test.YtgalebcpagmohaaGreatDoorMBlock
set_option maxHeartbeats 4000000
set_option maxRecDepth 100000
namespace Go.Proofs.YtgalebcpagmohaaGreatDoor
open Go.Proofs.Tryz
open Go.RowKit
theorem RH {s:ByteArray} {t:aF}:t.at_≤(aJ s t).2.at_:=by
 unfold aJ
 have a1:=iP s t
 have a2:=iP s (aj s t)
 have a3:=after_at s (aj s (aj s t)) (dX (aj s (aj s t)))
 have a4:=iP s (dH (dX (aj s (aj s t))) s (aj s (aj s t)))
 split
 ·split
  ·split<;>(simp only;omega)
  ·simp only;omega
 ·exact Nat.le_refl _
theorem sV {s:ByteArray}:∀ (f:Nat) (t:aF) (L:List bD),Tk s t→Tk s (dO s f t L).2.1∧t.at_≤(dO s f t L).2.1.at_
 | 0,t,L,h=>⟨h,Nat.le_refl _⟩
 | f+1,t,L,h=>by
  have h1:=rV h
  have h2:=@RH s t
  unfold dO
  split
  ·split
   ·have:=iP s (aJ s t).2
    exact⟨h1.next,by simp only;omega⟩
   ·have:=sV f (aJ s t).2 (L++[fU s t (jQ t.text.toList)]) h1
    exact⟨this.1,by omega⟩
  ·exact⟨h1,h2⟩
theorem RI {s:ByteArray} {t:aF} (h:Tk s t):Tk s (jf s t).2.1∧t.at_≤(jf s t).2.1.at_:=by
 unfold jf
 split
 ·have:=sV (s.size+1) (aj s t) [] h.next
  have a:=iP s t
  exact⟨this.1,by omega⟩
 ·exact⟨h,Nat.le_refl _⟩
theorem vU {s:ByteArray}:∀ (f:Nat) (t:aF) (L:List aF),Tk s t→Tk s (namesT s f t L).2.1∧t.at_≤(namesT s f t L).2.1.at_
 | 0,t,L,h=>⟨h,Nat.le_refl _⟩
 | f+1,t,L,h=>by
  have h2:=iP s t
  unfold namesT
  split
  ·split
   ·have:=iP s (aj s t)
    exact⟨h.next.next,by simp only;omega⟩
   ·have:=vU f (aj s t) (L++[t]) h.next
    exact⟨this.1,by omega⟩
  ·exact⟨h,Nat.le_refl _⟩
theorem RJ {s:ByteArray} {t:aF} (h:Tk s t):Tk s (jg s t).2.1∧t.at_≤(jg s t).2.1.at_:=by
 unfold jg
 split
 ·have:=vU (s.size+1) (aj s t) [] h.next
  have a:=iP s t
  exact⟨this.1,by omega⟩
 ·exact⟨h,Nat.le_refl _⟩
theorem yF {s:ByteArray} {t:aF} {l:List UInt8} (h:Tk s t) (hw:aH t l=true):t.at_<(aj s t).at_:=by
 simp only[aH,Bool.and_eq_true] at hw
 have hk:t.kind=2:=eq_of_beq hw.2
 have:=h.pos (by omega)
 have:=iP s t
 omega
theorem yG {s:ByteArray} {t:aF} (h:Tk s t):Tk s (bZ s t).2.1∧((bZ s t).1=true→t.at_<(bZ s t).2.1.at_):=by
 have n2:=iP s (aj s t)
 have n3:=iP s (aj s (aj s t))
 have bf:=RI h.next.next
 have bn:=RJ h.next.next
 unfold bZ
 split
 ·rename_i hw
  have:=yF h hw
  split
  ·exact⟨bf.1,fun _=>by simp only;omega⟩
  ·exact⟨h.next,fun hh=>by simp at hh⟩
 ·split
  ·rename_i hw
   have:=yF h hw
   split
   ·exact⟨bn.1,fun _=>by simp only;omega⟩
   ·exact⟨h.next,fun hh=>by simp at hh⟩
  ·split
   ·rename_i hw
    have:=yF h hw
    split
    ·have a:=after_at s (aj s (aj s t)) (dI (aj s (aj s t)))
     exact⟨h.next.next.after _,fun _=>by simp only;omega⟩
    ·exact⟨h.next,fun hh=>by simp at hh⟩
   ·split
    ·rename_i hw
     have:=yF h hw
     split
     ·split
      ·have a:=after_at s (aj s (aj s (aj s t))) (dI (aj s (aj s (aj s t))))
       exact⟨h.next.next.next.after _,fun _=>by simp only;omega⟩
      ·exact⟨h.next.next,fun hh=>by simp at hh⟩
     ·exact⟨h.next,fun hh=>by simp at hh⟩
    ·exact⟨h,fun hh=>by simp at hh⟩
def kT (s:ByteArray):Nat→aF→List iy→Option (List iy) × aF
 | 0,t,_=>(none,t)
 | f+1,t,L=>
  if (t.kind==0)=true then(some L,t)
  else if (bZ s t).1=true then kT s f (bZ s t).2.1 (L++[(bZ s t).2.2])
  else(none,(bZ s t).2.1)
def dD (s:ByteArray):Option (List iy) × aF:=kT s (s.size+1) (gI s 0) []
structure fQ (w:World) (lo:Nat) (lv:Value) (X:List bY):Prop where
 own:w.ownsRow lo 135 9 lv X.length (X.flatMap iG)
 nest:∀ x∈X,yE w lo x
theorem yE.keep {w w':World} {lo:Nat} {x:bY} (h:yE w lo x) (hs:∀ e size n v xs,w.ownsRow lo e size v n xs→(e = 278 ∨ e = 131)→w'.ownsRow lo e size v n xs):yE w' lo x :=
 ⟨hs _ _ _ _ _ h.f (Or.inl rfl),hs _ _ _ _ _ h.n (Or.inr rfl)⟩
theorem fQ.below {w w':World} {lo:Nat} {lv:Value} {X:List bY} (h:fQ w lo lv X) (hb:Below w.heap.size w w'):fQ w' lo lv X:=by
 have k:∀ {e:TypeId} {size n:Nat} {v:Value} {xs:List Value},w.ownsRow lo e size v n xs→w'.ownsRow lo e size v n xs:=fun ho=>au ho (fun g hg=>hb.block g (ho.lt g hg).2)
 exact⟨k h.own,fun x hx=>⟨k (h.nest x hx).f,k (h.nest x hx).n⟩⟩
theorem fQ.push {w4 w5:World} {lo:Nat} {lv lv':Value} {X:List bY} {x:bY} {ob:Obj} (h:fQ w4 lo lv X) (hx:yE w4 lo x)
  (ho:w5.ownsRow lo 135 9 lv' (X.length+1) (X.flatMap iG++iG x)) (hg:(w4.alloc ob).grownBy w5 lv.ownBlock):fQ w5 lo lv' (X++[x]):=by
 have k:∀ {e:TypeId} {size n:Nat} {v:Value} {xs:List Value},e ≠ 135 → w4.ownsRow lo e size v n xs→w5.ownsRow lo e size v n xs:=fun he ho'=>au ho' (fun g hg'=>by
  have hlt:=(ho'.lt g hg').2
  have hne:some g≠lv.ownBlock:=fun hh=>own_ne ho' h.own he hg' hh.symm rfl
  rw[hg.block g (by simp;omega) hne]
  exact Below.heap_alloc w4 ob g hlt)
 refine⟨by simpa using ho,fun y hy=>?_⟩
 rcases List.mem_append.1 hy with hy | hy
 ·exact⟨k (by decide) (h.nest y hy).f,k (by decide) (h.nest y hy).n⟩
 ·simp at hy;subst hy;exact⟨k (by decide) hx.f,k (by decide) hx.n⟩
theorem yE.down {w:World} {lo lo':Nat} {x:bY} (h:yE w lo x) (hl:lo'≤lo):yE w lo' x:=⟨own_base h.f hl,own_base h.n hl⟩
theorem Tryz.infoPItem:(Tryz.prog.info? 135).map (fun i=>(i.zero,i.size,i.bytes))=some (some (.agg #[.int .i64 0,.string ⟨#[]⟩,.int .i64 0,.slice none 0 0,.slice none 0 0,.string ⟨#[]⟩,.int .i64 0,.string ⟨#[]⟩,.int .i64 0]),9,128):=by kernel_rfl
def yH (l:List Value):Prop:=∃ (b:ByteArray) (a:Nat),l=[.string b,.int .i64 a]
theorem iC:yH aT:=⟨⟨#[]⟩,0,rfl⟩
theorem Dk (t:aF):yH (aA t):=⟨t.text,t.at_,rfl⟩
theorem Kv (s:ByteArray) (t:aF):yH (bZ s t).2.2.base∧yH (bZ s t).2.2.answer:=by
 unfold bZ
 split
 ·split<;>exact⟨iC,iC⟩
 ·split
  ·split<;>exact⟨iC,iC⟩
  ·split
   ·split
    ·exact⟨Dk _,iC⟩
    ·exact⟨iC,iC⟩
   ·split
    ·split
     ·split
      ·exact⟨Dk _,Dk _⟩
      ·exact⟨iC,iC⟩
     ·exact⟨iC,iC⟩
    ·exact⟨iC,iC⟩
theorem fQ.read {wr w2 w3:World} {lo pb ib no n:Nat} {lv:Value} {X:List bY} (h:fQ wr lo lv X) (hb:Below wr.heap.size wr w2) (hw:Wrote w2 w3 pb ib no n) (hp:pb<lo) (hi:ib=wr.heap.size):fQ w3 lo lv X:=by
 have k:∀ {e:TypeId} {size n:Nat} {v:Value} {xs:List Value},wr.ownsRow lo e size v n xs→w3.ownsRow lo e size v n xs:=fun ho=>au ho (fun g hg=>by
  have hl:=ho.lt g hg
  exact(hw.block g (Nat.lt_of_lt_of_le hl.2 hb.size) (by omega) (by omega)).trans (hb.block g hl.2))
 exact⟨k h.own,fun x hx=>⟨k (h.nest x hx).f,k (h.nest x hx).n⟩⟩
theorem Wrote.toBelow {w w':World} {pb nb no n B:Nat} (h:Wrote w w' pb nb no n) (h1:B≤pb) (h2:B≤nb) (h3:B≤w.heap.size):Below B w w' :=
 ⟨h.os,h.tape,h.output,h.size,fun k hk=>h.block k (by omega) (by omega) (by omega)⟩
theorem IB {x:bY} (h:yH x.it.base∧yH x.it.answer):(iG x).length=9:=by
 obtain⟨⟨b,a,hb⟩,⟨c,d,hc⟩⟩:=h
 simp[iG,hb,hc,aA]
theorem parse_any (s:ByteArray) (w:World) (hv:Vars w) (hs:s.size≤400) :
  Calls Tryz.prog 87 #[.string s] w fun e w'=>∃ lv,∃ P:Int,e=.returned (.tuple #[lv,.int .i64 P])∧Below w.heap.size w w' ∧
   (((dD s).1=none∧lv=.slice none 0 0∧P=((dD s).2.at_:Int))∨∃ X:List bY,(dD s).1=some (X.map (fun x=>x.it))∧P = -1∧fQ w' (w.heap.size+1) lv X∧X.length≤400):=by
 obtain⟨iT,hiT,hT0,hT1,hT2⟩:=info_parts Tryz.infoPItem
 have hv1:=hv.X7
 have hv2:=hv.X8
 have HV:=hid hv
 generalize hR:dD s=R
 have HR:=hid hR
 clear hR hv
 go_enter func87,ntmps87
 go_wp2_with fail
 have hb0:Below w.heap.size w (w.alloc (.cells #[.string s,.int .i64 0,.string ⟨#[]⟩,.int .i64 0] 218)):=(Below.refl _ _).alloc (Nat.le_refl _) _
 have hps:Ps (w.alloc (.cells #[.string s,.int .i64 0,.string ⟨#[]⟩,.int .i64 0] 218)) w.heap.size s ⟨0,⟨#[]⟩,0⟩ :=
  ⟨⟨_,heap_alloc_new w _,by simp[Iq],by simp[Iq]⟩,HV.out.below hb0,by omega,by omega,by show 0+0≤s.size;omega,hs⟩
 refine(Kt _ w.heap.size s ⟨0,⟨#[]⟩,0⟩ hps).mono ?_;rintro e w1 ⟨rfl,hp1,hb1⟩
 have hp1':Ps w1 w.heap.size s (gI s 0):=hp1
 have lW:Below w.heap.size w w1:=hb0.trans ⟨hb1.os,hb1.tape,hb1.output,hb1.size,fun k hk=>hb1.block k (by simp;omega) (by omega)⟩
 have hz1:w.heap.size<w1.heap.size:=Nat.lt_of_lt_of_le (by simp) hb1.size
 have qo:=hid hp1'
 clear hp1 hp1' hps hb0 hb1
 go_wp2_with fail
 go_loopg [5,6] (s.size+1) (fun gk l it wr=>∃ t X,s.size<t.at_+gk∧X.length≤t.at_∧Hid (kT s gk t (X.map (fun x=>x.it))=R)∧Hid (Ps wr w.heap.size s t)∧Hid (Tk s t)∧Hid (fQ wr (w.heap.size+1) l X)∧Below w.heap.size w wr∧w.heap.size<wr.heap.size)
 case atStart=>exact⟨gI s 0,[],by omega,by simp,hid HR.out,qo,hid ⟨0,by omega,rfl⟩,hid ⟨World.ownsRow_nil _ _ _ _,fun x hx=>(by simp at hx)⟩,lW,hz1⟩
 case round=>
  obtain⟨t,X,hgk,hXl,HF,HP,Iw,HIT,hbel,hz⟩:=hrel
  have hfit:=Iw.out.fit
  obtain⟨gk',rfl⟩:∃ gk',gk=gk'+1:=⟨gk-1,by omega⟩
  have c1:=HP.out.seg.cell (j:=1) (v:=.int .i64 t.kind) rfl
  simp only[Nat.zero_add] at c1
  by_cases hk:t.kind=0
  ·have HE:=hid (show R=(some (X.map (fun x=>x.it)),t) by rw[← HF.out];simp[kT,hk])
   have hne:((t.kind:Int) != 0)=false:=by simp;omega
   go_wp2_with fail
   go_ret2
   exact⟨u5,-1,rfl,hbel,Or.inr ⟨X,by rw[HE.out],rfl,HIT.out,by omega⟩⟩
  ·have hne:((t.kind:Int) != 0)=true:=by simp;omega
   obtain⟨la,lc,hlv⟩:∃ a c,u5=.slice a X.length c:=ak HIT.out.own
   subst hlv
   go_wp2_with fail
   have hbox:Seg (wr.alloc (.cells #[.int .i64 0,.string ⟨#[]⟩,.int .i64 0,.slice none 0 0,.slice none 0 0,.string ⟨#[]⟩,.int .i64 0,.string ⟨#[]⟩,.int .i64 0] 135)) wr.heap.size 135 0 mY:=⟨_,heap_alloc_new wr _,by simp[mY],by simp[mY]⟩
   have hb2:Below wr.heap.size wr (wr.alloc (.cells #[.int .i64 0,.string ⟨#[]⟩,.int .i64 0,.slice none 0 0,.slice none 0 0,.string ⟨#[]⟩,.int .i64 0,.string ⟨#[]⟩,.int .i64 0] 135)):=(Below.refl _ _).alloc (Nat.le_refl _) _
   refine(UZ _ w.heap.size s t wr.heap.size (HP.out.below hb2) Iw.out hbox (by omega) (by omega) (by omega)).mono ?_;rintro e w3 ⟨rfl,hp3,hw3,hx3⟩
   have hz3:wr.heap.size<w3.heap.size:=Nat.lt_of_lt_of_le (by simp) hw3.size
   have hit3:=HIT.out.read hb2 hw3 (show w.heap.size<w.heap.size+1 by omega) rfl
   have qG:Below w.heap.size w w3:=(hbel.trans (hb2.mono (by omega))).trans (hw3.toBelow (Nat.le_refl _) (by omega) (by simp;omega))
   have c3:=hp3.seg.cell (j:=3) (v:=.int .i64 (bZ s t).2.1.at_) rfl
   simp only[Nat.zero_add] at c3
   have EW:=hid hp3
   have HI3:=hid hit3
   have HX3:=hid hx3
   have HTI:=hid (yG Iw.out)
   clear hp3 hit3 hx3 hw3 hbox c1
   cases hok:(bZ s t).1
   case' false=>
    have HE:=hid (show R=(none,(bZ s t).2.1) by rw[← HF.out];simp[kT,hk,hok])
    go_wp2_with fail
    go_quiet (fail)
    go_wp2_with fail
    go_ret2
    exact⟨.slice none 0 0,_,rfl,below_drewN qG _,Or.inl ⟨by rw[HE.out],rfl,by rw[HE.out]⟩⟩
   case' true=>
    obtain⟨x,hxi,hxs,hxn⟩:=HX3.out hok
    have hnm:=Kv s t
    rw[← hxi] at hnm
    have hat:=HTI.out.2 hok
    have HE:=hid (show kT s gk' (bZ s t).2.1 ((X++[x]).map (fun x=>x.it))=R by rw[← HF.out];simp[kT,hk,hok,hxi])
    obtain⟨fa,fc,hvf⟩:∃ a c,x.vf=.slice a x.it.fields.length c:=ak hxn.f
    obtain⟨na,nc,hvn⟩:∃ a c,x.vn=.slice a x.it.names.length c:=ak hxn.n
    have hlen:=IB hnm
    obtain⟨⟨bb,ba,hbb⟩,⟨ab,aa,hab⟩⟩:=hnm
    have hcells:iG x=[.int .i64 x.it.kind,.string x.it.name.text,.int .i64 x.it.name.at_,.slice fa x.it.fields.length fc,.slice na x.it.names.length nc,.string bb,.int .i64 ba,.string ab,.int .i64 aa]:=by
     simp[iG,hbb,hab,hvf,hvn,aA]
    have hxs':=hxs
    rw[hcells] at hxs'
    have e0:=hxs'.cell (j:=0) rfl
    have e1:=hxs'.cell (j:=1) rfl
    have e2:=hxs'.cell (j:=2) rfl
    have e3:=hxs'.cell (j:=3) rfl
    have e4:=hxs'.cell (j:=4) rfl
    have e5:=hxs'.cell (j:=5) rfl
    have e6:=hxs'.cell (j:=6) rfl
    have e7:=hxs'.cell (j:=7) rfl
    have e8:=hxs'.cell (j:=8) rfl
    simp only[Nat.zero_add] at e0 e1 e2 e3 e4 e5 e6 e7 e8
    have HXN:=hid (hxn.down (show w.heap.size+1≤_ by simp;omega))
    have HC:=hid hcells
    have HLN:=hid hlen
    have HT3:=hid HTI.out.1
    clear hxi hxs hxs' hxn hvf hvn hbb hab hcells hlen HX3 HTI HF c3
    go_wp2_with (at_builtin;refine wpList_append_lies _ rfl _ _ 61 rfl (w.heap.size+1) 135 iT _ 9 128 underlying61 hiT hT0 hT1 hT2 rfl (by decide) _ _ _ rfl (HI3.out.own.alloc _) ⟨w3.heap.size,0,none⟩ 1 1 (iG x) rfl HLN.out (by rw[HC.out];exact dh w3 _ rfl #[.int .i64 x.it.kind,.string x.it.name.text,.int .i64 x.it.name.at_,.slice fa x.it.fields.length fc,.slice na x.it.names.length nc,.string bb,.int .i64 ba,.string ab,.int .i64 aa] _) (by rw[HC.out];simp[Value.oneCell']) (by omega) (by unfold maxLen;omega) (by omega) (by simp;omega) _ rfl ?_)
    intro g5 cp5 w5 hown5 dw _ _
    have hb5:Below (w.heap.size+1) w3 w5:=((Below.refl _ w3).alloc (by omega) _).grown dw (by simp;omega) (fun k hk=>(HI3.out.own.lt k hk).1)
    have HI5:=hid (HI3.out.push HXN.out hown5 dw)
    have wZ:=hid (EW.out.Iu hb5 (by omega) (by omega) (by omega))
    have acs:=qG.trans (hb5.mono (Nat.le_succ _))
    have JD:=hb5.size
    clear hown5 dw hb5 e0 e1 e2 e3 e4 e5 e6 e7 e8
    go_wp2_with fail
    go_roundg gk'
    case rel=>exact⟨(bZ s t).2.1,X++[x],by omega,by simp;omega,HE,wZ,HT3,HI5,acs,by omega⟩
    case measure=>omega
def gZ (k:Nat):Bool:=(k==0)||(k==1)
theorem Am (k:Nat) (c1 c2 c3 c4 c5 c6 c7 c8:Value) (w:World) :
  Calls Tryz.prog 191 #[.agg #[.int .i64 k,c1,c2,c3,c4,c5,c6,c7,c8]] w fun e w'=>e=.returned (.bool (gZ k))∧Below w.heap.size w w':=by
 generalize hB:gZ k=b
 have HB:=hid hB
 clear hB
 have hi:((k:Int)==1)=(k==1):=by
  rw[Bool.eq_iff_iff];simp;omega
 have HI:=hid hi
 clear hi
 cases h0:((k:Int)==0)
 ·have hk:(k==0)=false:=by simp at h0 ⊢;omega
  have HK:=hid hk
  clear hk
  go_enter func191,ntmps191
  go_wp2
  go_ret
  exact⟨aG (by rw[← HB.out,gZ,HK.out,← HI.out];simp),(Below.refl _ _).alloc (Nat.le_refl _) _⟩
 ·have hk:(k==0)=true:=by simp at h0 ⊢;omega
  have HK:=hid hk
  clear hk
  go_enter func191,ntmps191
  go_wp2
  go_ret
  exact⟨aG (by rw[← HB.out,gZ,HK.out];rfl),(Below.refl _ _).alloc (Nat.le_refl _) _⟩
def iq (name:List UInt8) (p:iy):Bool:=gZ p.kind&&(p.name.text.toList==name)
def bT (X:List bY) (name:List UInt8):Int:=match X.findIdx? (fun x=>iq name x.it) with | some i=>i | none=>-1
theorem Dl {L:List bY} {name:List UInt8} {k:Nat} {x:bY} (hk:L[k]? = some x) (hm:iq name x.it=true) (hall:∀ j y,j<k→L[j]? = some y→iq name y.it=false):bT L name=k:=by
 have hlt:k<L.length:=by
  rcases Nat.lt_or_ge k L.length with h | h
  ·exact h
  ·rw[List.getElem?_eq_none h] at hk;cases hk
 have e:L[k]=x:=by rw[List.getElem?_eq_getElem hlt] at hk;simpa using hk
 unfold bT
 have:L.findIdx? (fun x=>iq name x.it)=some k:=by
  rw[List.findIdx?_eq_some_iff_getElem]
  refine⟨hlt,by rw[e];exact hm,fun j hj=>?_⟩
  have:=hall j L[j] hj (List.getElem?_eq_getElem (by omega))
  simp[this]
 rw[this]
theorem Kw {L:List bY} {name:List UInt8} (hall:∀ j y,j<L.length→L[j]? = some y→iq name y.it=false):bT L name = -1:=by
 unfold bT
 have:L.findIdx? (fun x=>iq name x.it)=none:=by
  rw[List.findIdx?_eq_none_iff]
  intro x hx
  obtain⟨j,hj,rfl⟩:=List.getElem_of_mem hx
  exact hall j _ hj (List.getElem?_eq_getElem hj)
 rw[this]
theorem Bl (k:Nat) (nm name:ByteArray) (c2 c5 c6 c7 c8:Value) (fa na:Option Addr) (fl fc nl nc cb:Nat) (w:World) (hc:w.cell? ⟨cb,0,none⟩=some (.string name)) (hcb:cb<w.heap.size) :
  Calls Tryz.prog 250 #[.agg #[.int .i64 k,.string nm,c2,.slice fa fl fc,.slice na nl nc,c5,c6,c7,c8],.pointer (some ⟨cb,0,none⟩)] w fun e w'=>e=.returned (.bool (gZ k&&(nm.toList==name.toList)))∧Below w.heap.size w w':=by
 go_enter func250,ntmps250
 go_wp2_with fail
 refine(Am _ _ _ _ _ _ _ _ _ _).mono ?_;rintro e w1 ⟨rfl,hb1⟩
 have hb0:Below w.heap.size w (w.alloc (.cells #[.int .i64 k,.string nm,c2,.slice fa fl fc,.slice na nl nc,c5,c6,c7,c8] 135)):=(Below.refl _ _).alloc (Nat.le_refl _) _
 have hbel:=hb0.trans (hb1.mono (by simp))
 have d0:w1.cell? ⟨cb,0,none⟩=some (.string name):=by rw[hbel.cell hcb];exact hc
 have d1:w1.cell? ⟨w.heap.size,1,none⟩=some (.string nm):=by rw[hb1.cell (by simp)];simp
 cases hty:gZ k
 all_goals
  go_wp2_with fail
  go_ret
  exact⟨aG (by simp[hty]),hbel⟩
def Oh (X:List bY):Prop:=∀ x∈X,yH x.it.base∧yH x.it.answer
theorem Oi (l:List bY) (hn:Oh l) (k:Nat) (x:bY) (h:l[k]? = some x):((l.flatMap iG).drop (k*9)).take 9=iG x:=by
 induction l generalizing k with
 | nil=>simp at h
 | cons a r ih=>
  have hl:=IB (hn a (by simp))
  rw[List.flatMap_cons]
  cases k with
  | zero=>
   simp at h;subst h
   rw[Nat.zero_mul,List.drop_zero,List.take_append,List.take_of_length_le (by omega),hl];simp
  | succ k=>
   simp at h
   rw[List.drop_append,List.drop_eq_nil_of_le (by omega),List.nil_append,show (k+1)*9-(iG a).length=k*9 from by omega]
   exact ih (fun y hy=>hn y (by simp[hy])) k h
theorem iR {α:Type} {l:List α} {k:Nat} {x:α} (h:l[k]? = some x):k<l.length:=by
 rcases Nat.lt_or_ge k l.length with h' | h'
 ·exact h'
 ·rw[List.getElem?_eq_none h'] at h;cases h
structure Ap where
 fa:Option Addr
 fc:Nat
 na:Option Addr
 nc:Nat
 bb:ByteArray
 ba:Nat
 ab:ByteArray
 aa:Nat
structure Yb (w:World) (lo:Nat) (x:bY) (g k:Nat) (n:Ap):Prop where
 vf:x.vf=.slice n.fa x.it.fields.length n.fc
 vn:x.vn=.slice n.na x.it.names.length n.nc
 base:x.it.base=[.string n.bb,.int .i64 n.ba]
 answer:x.it.answer=[.string n.ab,.int .i64 n.aa]
 seg:Seg w g 135 (k*9) [.int .i64 x.it.kind,.string x.it.name.text,.int .i64 x.it.name.at_,.slice n.fa x.it.fields.length n.fc,.slice n.na x.it.names.length n.nc,.string n.bb,.int .i64 n.ba,.string n.ab,.int .i64 n.aa]
theorem fQ.uM {w:World} {lo g cap:Nat} {X:List bY} (h:fQ w lo (.slice (some ⟨g,0,none⟩) X.length cap) X) (hn:Oh X) {k:Nat} {x:bY} (hk:X[k]? = some x):∃ n,Yb w lo x g k n:=by
 have hm:=List.mem_of_getElem? hk
 have hnm:=hn x hm
 obtain⟨fa,fc,hvf⟩:∃ a c,x.vf=.slice a x.it.fields.length c:=ak (h.nest x hm).f
 obtain⟨na,nc,hvn⟩:∃ a c,x.vn=.slice a x.it.names.length c:=ak (h.nest x hm).n
 have hlen:=IB hnm
 obtain⟨⟨bb,ba,hbb⟩,⟨ab,aa,hab⟩⟩:=hnm
 refine⟨⟨fa,fc,na,nc,bb,ba,ab,aa⟩,hvf,hvn,hbb,hab,?_⟩
 have hcells:iG x=[.int .i64 x.it.kind,.string x.it.name.text,.int .i64 x.it.name.at_,.slice fa x.it.fields.length fc,.slice na x.it.names.length nc,.string bb,.int .i64 ba,.string ab,.int .i64 aa]:=by
  simp[iG,hbb,hab,hvf,hvn,aA]
 have:=(qM h.own).part (k*9) 9 (iG x) (Oi X hn k x hk) hlen (by omega)
 rw[hcells] at this
 simpa using this
theorem Fe (w:World) (lo:Nat) (lv:Value) (X:List bY) (name:ByteArray) (cb:Nat) (h:fQ w lo lv X) (hn:Oh X) (hX:X.length≤400) (hc:w.cell? ⟨cb,0,none⟩=some (.string name)) (hcb:cb<w.heap.size) :
  Calls Tryz.prog 177 #[lv,.func (Fn.func 250) #[] #[.pointer (some ⟨cb,0,none⟩)]] w fun e w'=>e=.returned (.int .i64 (bT X name.toList))∧Below w.heap.size w w':=by
 obtain⟨la,lc,hlv⟩:∃ a c,lv=.slice a X.length c:=ak h.own
 subst hlv
 have H:=hid h
 have HN:=hid hn
 clear h hn
 go_enter func177,ntmps177
 go_wp2_with fail
 go_loopg [5,8] X.length (fun gk t i wr=>∃ k:Nat,k+gk=X.length∧i=.int .i64 k∧Hid (∀ j y,j<k→X[j]? = some y→iq name.toList y.it=false)∧Below w.heap.size w wr)
 case atStart=>exact⟨0,by omega,rfl,hid (fun j y hj=>by omega),Below.refl _ _⟩
 case round=>
  obtain⟨k,hk,rfl,HA,hbel⟩:=hrel
  by_cases hlt:k<X.length
  ·obtain⟨x,hx⟩:∃ x,X[k]? = some x:=⟨X[k],List.getElem?_eq_getElem hlt⟩
   obtain⟨g,cap,hv,hgl,hgs⟩:=dM H.out.own (by omega)
   obtain⟨rfl,rfl⟩:la=some ⟨g,0,none⟩∧lc=cap:=by simpa using hv
   obtain⟨n,hn⟩:=(H.out.below hbel).uM HN.out hx
   have hs:=hn.seg
   have HX:=hid hx
   clear hx hv hn
   have c0:=hs.cell (j:=0) rfl
   have c1:=hs.cell (j:=1) rfl
   have c2:=hs.cell (j:=2) rfl
   have c3:=hs.cell (j:=3) rfl
   have c4:=hs.cell (j:=4) rfl
   have c5:=hs.cell (j:=5) rfl
   have c6:=hs.cell (j:=6) rfl
   have c7:=hs.cell (j:=7) rfl
   have c8:=hs.cell (j:=8) rfl
   simp only[Nat.add_zero] at c0
   have hc':wr.cell? ⟨cb,0,none⟩=some (.string name):=by rw[hbel.cell hcb];exact hc
   have hcb':cb<wr.heap.size:=Nat.lt_of_lt_of_le hcb hbel.size
   clear hs
   go_wp2_with fail
   refine(Bl _ _ _ _ _ _ _ _ _ _ _ _ _ _ _ _ hc' hcb').mono ?_;rintro e w1 ⟨rfl,hb1⟩
   have hb2:=hbel.trans (hb1.mono hbel.size)
   clear c0 c1 c2 c3 c4 c5 c6 c7 c8 hb1 hc'
   have HM:=hid (show iq name.toList x.it=(gZ x.it.kind&&(x.it.name.text.toList==name.toList)) from rfl)
   cases hm:(gZ x.it.kind&&(x.it.name.text.toList==name.toList)) with
   | false=>
    go_wp2_with fail
    go_roundg (gk-1)
    case rel=>exact⟨k+1,by omega,by go_num,hid (fun j y hj hy=>by
     rcases Nat.lt_or_ge j k with h | h
     ·exact HA.out j y h hy
     ·rw[show j=k from by omega,HX.out] at hy;simp at hy;subst hy;exact HM.out.trans hm),hb2⟩
    case measure=>omega
   | true=>
    have HF:=hid (Dl HX.out (HM.out.trans hm) HA.out)
    go_wp2_with fail
    go_ret
    exact⟨o8 HF.out.symm,hb2⟩
  ·go_wp2_with fail
   go_ret
   exact⟨o8 (Kw (fun j y hj=>HA.out j y (by omega))).symm,hbel⟩
theorem sW (w:World) (lo:Nat) (lv:Value) (X:List bY) (name:ByteArray) (h:fQ w lo lv X) (hn:Oh X) (hX:X.length≤400) :
  Calls Tryz.prog 193 #[lv,.string name] w fun e w'=>e=.returned (.int .i64 (bT X name.toList))∧Below w.heap.size w w':=by
 obtain⟨la,lc,hlv⟩:∃ a c,lv=.slice a X.length c:=ak h.own
 subst hlv
 have H:=hid h
 clear h
 go_enter func193,ntmps193
 go_wp2_with fail
 have hb0:Below w.heap.size w (w.alloc (.cells #[.string name] 9)):=(Below.refl _ _).alloc (Nat.le_refl _) _
 refine(Fe _ lo _ X name w.heap.size (H.out.below hb0) hn hX (by simp) (by simp)).mono ?_;rintro e w1 ⟨rfl,hb1⟩
 have hb2:=hb0.trans (hb1.mono hb0.size)
 go_wp2_with fail
 go_ret
 exact⟨o8 rfl,hb2⟩
def fname (f:bD):aF:=⟨2,f.name,f.nameAt⟩
def jc (f:bD):aF:=⟨2,f.base,f.bV⟩
theorem RN (l:List bD) (k:Nat) (x:bD) (h:l[k]? = some x):((l.flatMap fJ).drop (k*7)).take 7=fJ x:=by
 induction l generalizing k with
 | nil=>simp at h
 | cons a r ih=>
  rw[List.flatMap_cons]
  cases k with
  | zero=>simp at h;subst h;simp[fJ]
  | succ k=>
   simp at h
   rw[List.drop_append,List.drop_eq_nil_of_le (by simp[fJ];omega),List.nil_append,show (k+1)*7-(fJ a).length=k*7 from by simp[fJ];omega]
   exact ih k h
theorem nU {w:World} {lo:Nat} {v:Value} {fs:List bD} (h:w.ownsRow lo 278 7 v fs.length (fs.flatMap fJ)) {j:Nat} {f:bD} (hj:fs[j]? = some f):∃ g c,v=.slice (some ⟨g,0,none⟩) fs.length c∧lo≤g∧g<w.heap.size∧Seg w g 278 (j*7) (fJ f):=by
 have hlt:=iR hj
 obtain⟨g,c,hv,hg,hs⟩:=h.form (by omega)
 rw[hv] at h
 have:=(qM h).part (j*7) 7 (fJ f) (RN _ j f hj) rfl (by omega)
 exact⟨g,c,hv,hg,hs,by simpa using this⟩
theorem kG {w wr w2:World} {lo:Nat} {e:TypeId} {size n:Nat} {v:Value} {xs:List Value} {o:Obj} {B:Nat} (hbel:Below B w wr) (hB:B≤wr.heap.size) (hown:wr.ownsRow lo e size v n xs) (hlo:B≤lo) (hg:(wr.alloc o).grownBy w2 v.ownBlock):Below B w w2 :=
 (hbel.alloc hB o).grown hg (by simp;omega) (fun k hk=>by have:=(hown.lt k hk).1;omega)
theorem Dn (w:World) (lo:Nat) (v:Value) (fs:List bD) (h:w.ownsRow lo 278 7 v fs.length (fs.flatMap fJ)) (hl:fs.length≤400) :
  Calls Tryz.prog 135 #[v] w fun e w'=>∃ nv,e=.returned nv∧w'.ownsRow w.heap.size 131 2 nv (fs.map fname).length ((fs.map fname).flatMap aA)∧Below w.heap.size w w':=by
 obtain⟨iN,hiN,hN0,hN1,Uf⟩:=info_parts Tryz.infoPName
 obtain⟨la,lc,hlv⟩:∃ a c,v=.slice a fs.length c:=ak h
 subst hlv
 have H:=hid h
 clear h
 go_enter func135,ntmps135
 go_wp2_with fail
 go_loopg [3,5,8] fs.length (fun gk nv f i wr=>∃ k:Nat,k+gk=fs.length∧i=.int .i64 k∧Hid (wr.ownsRow w.heap.size 131 2 nv k (((fs.take k).map fname).flatMap aA))∧Below w.heap.size w wr)
 case atStart=>exact⟨0,by omega,rfl,hid (World.ownsRow_nil _ _ _ _),Below.refl _ _⟩
 case round=>
  obtain⟨k,hk,rfl,HO,hbel⟩:=hrel
  have hsz:=hbel.size
  by_cases hlt:k<fs.length
  ·obtain⟨f,hf⟩:∃ f,fs[k]? = some f:=⟨fs[k],List.getElem?_eq_getElem hlt⟩
   obtain⟨na,nc,uy⟩:∃ a c,u3=.slice a k c:=ak HO.out
   subst uy
   obtain⟨g,cap,hv,hgl,hgs,hs⟩:=nU (au H.out (fun g hg=>hbel.block g (H.out.lt g hg).2)) hf
   obtain⟨rfl,rfl⟩:la=some ⟨g,0,none⟩∧lc=cap:=by simpa using hv
   have HF:=hid (show (fs.take (k+1)).map fname=(fs.take k).map fname++[fname f] by rw[List.take_add_one,hf];simp)
   have c0:wr.cell? ⟨g,k*7,none⟩=some (.int .i64 f.number):=hs.cell (j:=0) rfl
   have c1:wr.cell? ⟨g,k*7+1,none⟩=some (.int .i64 f.numberAt):=hs.cell (j:=1) rfl
   have c2:wr.cell? ⟨g,k*7+2,none⟩=some (.string f.name):=hs.cell (j:=2) rfl
   have c3:wr.cell? ⟨g,k*7+3,none⟩=some (.int .i64 f.nameAt):=hs.cell (j:=3) rfl
   have c4:wr.cell? ⟨g,k*7+4,none⟩=some (.int .i64 f.shape):=hs.cell (j:=4) rfl
   have c5:wr.cell? ⟨g,k*7+5,none⟩=some (.string f.base):=hs.cell (j:=5) rfl
   have c6:wr.cell? ⟨g,k*7+6,none⟩=some (.int .i64 f.bV):=hs.cell (j:=6) rfl
   clear hs hv hf
   go_wp2_with (at_builtin;refine wpList_append_lies _ rfl _ _ 133 rfl w.heap.size 131 iN _ 2 24 underlying133 hiN hN0 hN1 Uf rfl (by decide) _ _ _ rfl ((HO.out.alloc _).alloc _) ⟨_,0,none⟩ 1 1 (aA (fname f)) rfl rfl (dh _ _ (by simp) #[.string f.name,.int .i64 f.nameAt] _) (by simp[aA,Value.oneCell']) (by omega) (by unfold maxLen;omega) (by omega) (by simp;omega) _ rfl ?_)
   intro g5 cp5 w5 hown5 dw _ _
   have hb5:=kG (hbel.alloc hbel.size _) (by simp;omega) (HO.out.alloc _) (Nat.le_refl _) dw
   clear dw
   go_wp2_with fail
   go_roundg (gk-1)
   case rel=>exact⟨k+1,by omega,by go_num,hid (by rw[HF.out,List.flatMap_append];simpa using hown5),hb5⟩
   case measure=>omega
  ·have HE:=hid (show fs.take k=fs from List.take_of_length_le (by omega))
   go_wp2_with fail
   go_ret
   exact⟨_,rfl,by have:=HO.out;rw[HE.out] at this;rw[show (fs.map fname).length=k by simp;omega];exact this,hbel⟩
def mZ (p:iy) (n:Ap):List aF:=if p.kind=2 then [⟨2,n.bb,n.ba⟩] else if p.kind=3 then [⟨2,n.bb,n.ba⟩,⟨2,n.ab,n.aa⟩] else p.fields.map jc
theorem RP (w:World) (lo:Nat) (p:iy) (n:Ap) (h:w.ownsRow lo 278 7 (.slice n.fa p.fields.length n.fc) p.fields.length (p.fields.flatMap fJ)) (hl:p.fields.length≤400) :
  Calls Tryz.prog 192 #[.agg #[.int .i64 p.kind,.string p.name.text,.int .i64 p.name.at_,.slice n.fa p.fields.length n.fc,.slice n.na p.names.length n.nc,.string n.bb,.int .i64 n.ba,.string n.ab,.int .i64 n.aa]] w fun e w'=>∃ nv,e=.returned nv∧w'.ownsRow w.heap.size 131 2 nv (mZ p n).length ((mZ p n).flatMap aA)∧Below w.heap.size w w':=by
 obtain⟨iN,hiN,hN0,hN1,Uf⟩:=info_parts Tryz.infoPName
 have H:=hid h
 clear h
 by_cases h2:p.kind=2
 ·have hk2:((p.kind:Int)==2)=true:=by simp;omega
  have HP:=hid (show mZ p n=[⟨2,n.bb,n.ba⟩] by simp[mZ,h2])
  go_enter func192,ntmps192
  go_wp2_with fail
  go_ret
  refine⟨_,rfl,?_,((Below.refl _ _).alloc (Nat.le_refl _) _).alloc (by simp) _⟩
  rw[HP.out]
  have:=World.ownsRow_lit (base:=w.heap.size) (e:=131) (size:=2) (w.alloc (.cells #[.int .i64 2,.string p.name.text,.int .i64 p.name.at_,.slice n.fa p.fields.length n.fc,.slice n.na p.names.length n.nc,.string n.bb,.int .i64 n.ba,.string n.ab,.int .i64 n.aa] 135)) #[.string n.bb,.int .i64 n.ba] 1 (by simp) (by unfold maxLen;omega) rfl
  simpa[aA] using this
 ·by_cases h3:p.kind=3
  ·have hk2:((p.kind:Int)==2)=false:=by simp;omega
   have hk3:((p.kind:Int)==3)=true:=by simp;omega
   have HP:=hid (show mZ p n=[⟨2,n.bb,n.ba⟩,⟨2,n.ab,n.aa⟩] by simp[mZ,h3])
   go_enter func192,ntmps192
   go_wp2_with fail
   go_ret
   refine⟨_,rfl,?_,((Below.refl _ _).alloc (Nat.le_refl _) _).alloc (by simp) _⟩
   rw[HP.out]
   have:=World.ownsRow_lit (base:=w.heap.size) (e:=131) (size:=2) (w.alloc (.cells #[.int .i64 3,.string p.name.text,.int .i64 p.name.at_,.slice n.fa p.fields.length n.fc,.slice n.na p.names.length n.nc,.string n.bb,.int .i64 n.ba,.string n.ab,.int .i64 n.aa] 135)) #[.string n.bb,.int .i64 n.ba,.string n.ab,.int .i64 n.aa] 2 (by simp) (by unfold maxLen;omega) rfl
   simpa[aA] using this
  ·have hk2:((p.kind:Int)==2)=false:=by simp;omega
   have hk3:((p.kind:Int)==3)=false:=by simp;omega
   have HP:=hid (show mZ p n=p.fields.map jc by simp[mZ,h2,h3])
   generalize hfs:p.fields=fs at *
   clear hfs
   obtain⟨ifa,ifc,ina,inc,ibb,iba,iab,iaa⟩:=n
   dsimp only at *
   go_enter func192,ntmps192
   go_wp2_with fail
   have hb0:Below w.heap.size w (w.alloc (.cells #[.int .i64 p.kind,.string p.name.text,.int .i64 p.name.at_,.slice ifa fs.length ifc,.slice ina p.names.length inc,.string ibb,.int .i64 iba,.string iab,.int .i64 iaa] 135)):=(Below.refl _ _).alloc (Nat.le_refl _) _
   go_loopg [3,5,23] fs.length (fun gk nv f i wr=>∃ k:Nat,k+gk=fs.length∧i=.int .i64 k∧Hid (wr.ownsRow w.heap.size 131 2 nv k (((fs.take k).map jc).flatMap aA))∧Below w.heap.size w wr)
   case atStart=>exact⟨0,by omega,rfl,hid (World.ownsRow_nil _ _ _ _),hb0⟩
   case round=>
    obtain⟨k,hk,rfl,HO,hbel⟩:=hrel
    have hsz:=hbel.size
    by_cases hlt:k<fs.length
    ·obtain⟨f,hf⟩:∃ f,fs[k]? = some f:=⟨fs[k],List.getElem?_eq_getElem hlt⟩
     obtain⟨na,nc,uy⟩:∃ a c,u3=.slice a k c:=ak HO.out
     subst uy
     obtain⟨g,cap,hv,hgl,hgs,hs⟩:=nU (au H.out (fun g hg=>hbel.block g (H.out.lt g hg).2)) hf
     obtain⟨rfl,rfl⟩:ifa=some ⟨g,0,none⟩∧ifc=cap:=by simpa using hv
     have HF:=hid (show (fs.take (k+1)).map jc=(fs.take k).map jc++[jc f] by rw[List.take_add_one,hf];simp)
     have c0:wr.cell? ⟨g,k*7,none⟩=some (.int .i64 f.number):=hs.cell (j:=0) rfl
     have c1:wr.cell? ⟨g,k*7+1,none⟩=some (.int .i64 f.numberAt):=hs.cell (j:=1) rfl
     have c2:wr.cell? ⟨g,k*7+2,none⟩=some (.string f.name):=hs.cell (j:=2) rfl
     have c3:wr.cell? ⟨g,k*7+3,none⟩=some (.int .i64 f.nameAt):=hs.cell (j:=3) rfl
     have c4:wr.cell? ⟨g,k*7+4,none⟩=some (.int .i64 f.shape):=hs.cell (j:=4) rfl
     have c5:wr.cell? ⟨g,k*7+5,none⟩=some (.string f.base):=hs.cell (j:=5) rfl
     have c6:wr.cell? ⟨g,k*7+6,none⟩=some (.int .i64 f.bV):=hs.cell (j:=6) rfl
     clear hs hv hf
     go_wp2_with (at_builtin;refine wpList_append_lies _ rfl _ _ 133 rfl w.heap.size 131 iN _ 2 24 underlying133 hiN hN0 hN1 Uf rfl (by decide) _ _ _ rfl ((HO.out.alloc _).alloc _) ⟨_,0,none⟩ 1 1 (aA (jc f)) rfl rfl (dh _ _ (by simp) #[.string f.base,.int .i64 f.bV] _) (by simp[aA,Value.oneCell']) (by omega) (by unfold maxLen;omega) (by omega) (by simp;omega) _ rfl ?_)
     intro g5 cp5 w5 hown5 dw _ _
     have hb5:=kG (hbel.alloc hbel.size _) (by simp;omega) (HO.out.alloc _) (Nat.le_refl _) dw
     clear dw
     go_wp2_with fail
     go_roundg (gk-1)
     case rel=>exact⟨k+1,by omega,by go_num,hid (by rw[HF.out,List.flatMap_append];simpa using hown5),hb5⟩
     case measure=>omega
    ·have HE:=hid (show fs.take k=fs from List.take_of_length_le (by omega))
     go_wp2_with fail
     go_ret
     exact⟨_,rfl,by have:=HO.out;rw[HE.out] at this;rw[HP.out,show (fs.map jc).length=k by simp;omega];exact this,hbel⟩
end Go.Proofs.YtgalebcpagmohaaGreatDoor
