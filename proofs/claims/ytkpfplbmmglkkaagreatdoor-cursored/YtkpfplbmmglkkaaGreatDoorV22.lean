/- What an end was made with stays: the items of its schema, the library's variables; what bytes are decoded to. -/
import Derived.Test.YtkpfplbmmglkkaaGreatDoorV19
import Derived.Test.YtkpfplbmmglkkaaGreatDoorV21
set_option linter.all false
namespace Go.Proofs.YtkpfplbmmglkkaaGreatDoor
open Go.Proofs.Tryz
variable {lo pl:Nat}{w w':World}{G:List fm}{X:List PIV}{iv:Value}{base:ByteArray}{d:List UInt8}
open Go.RowKit Go.Conc
structure oU(lo:Nat)(w:World)(iv:Value)(X:List PIV):Prop where
 i:∃ pl,PIts w pl iv X
 xo:M0 X
 pl:DE X
 ty:Pq (nJ X)
 WQ:mR w
 own:∀ k,lo≤k→KK k
theorem wu{e:TypeId}{size n:Nat}{v:Value}{xs:List Value}(ho:w.ownsRow pl e size v n xs)(hH:cE lo w G)(hc:aQ (aL G) w w')(he:e+2∈[117+2,246+2,113+2]):w'.ownsRow pl e size v n xs :=
 hc.own ho (fun g hg hk=>by
  obtain⟨cur,fF⟩:=gB ho hg;obtain⟨p,hp,rfl⟩:=hk;obtain⟨_,o,h1,_,h2⟩:=hH.all p hp;rw[fF] at h1;cases h1
  exact h2 he)
theorem PIts.Tw{lv:Value}(h:PIts w pl lv X)(hH:cE lo w G)(hc:aQ (aL G) w w'):PIts w' pl lv X :=
 ⟨wu h.own hH hc (by decide),fun x hx=>⟨wu (h.nest x hx).f hH hc (by decide),wu (h.nest x hx).n hH hc (by decide)⟩⟩
theorem mR.Tw{F:Nat→Prop}(h:mR w)(hc:aQ F w w')(hF:∀ k,F k→KK k):mR w':=by
 have hv:=h.v;obtain⟨te,pe,h1⟩:=hv.sx;obtain⟨tf,pf,h2⟩:=hv.rg;have l1:=hv.lt1;have l2:=hv.lt2;refine⟨⟨⟨te,pe,(hc.cell l1 (fun e=>(hF _ e).1 rfl)).trans h1⟩,⟨tf,pf,(hc.cell l2 (fun e=>(hF _ e).2.1 rfl)).trans h2⟩,Nat.lt_of_lt_of_le l1 hc.size,Nat.lt_of_lt_of_le l2 hc.size⟩,?_,Nat.lt_of_lt_of_le h.lt hc.size⟩;have:=h.t;unfold Lib.TabIs World.var? at this ⊢;rw[V5] at this ⊢;simp only[Option.bind_some] at this ⊢;rw[hc.block _ h.lt (fun e=>(hF _ e).2.2 rfl)];exact this
theorem oU.nO(h:oU lo w iv X)(hH:cE lo w G)(hc:aQ (aL G) w w'):oU lo w' iv X:=by
 obtain⟨pl,hp⟩:=h.i;exact⟨⟨pl,hp.Tw hH hc⟩,h.xo,h.pl,h.ty,h.WQ.Tw hc (fun k hk=>h.own k (hH.lt hk).1),h.own⟩
theorem oU.below(h:oU lo w iv X)(hb:Below w.heap.size w w'):oU lo w' iv X :=
 h.nO (lo:=lo) (cE.nil lo w) (aQ.aI hb)
theorem fW.alG{g g':CG}{p:CP}(h:fW lo w g p w' g')(hc:eH lo w g)(hs:oU lo w iv X):oU lo w' iv X:=hs.nO hc.dR h.grow.c
def dY(X:List PIV):vh:=fun base d=>if hasB X base=true∧d.length≤64 then match (kX X 6).1 base.toList d with
  | some s=>if s.length≤400 then some ⟨s.toArray⟩ else none
  | none=>none
 else none
theorem Le{E:Int}{s:List UInt8}(h:Tv X base d E s)(hE:E≠0):dY X base d=none:=by
 unfold dY
 rcases h with⟨_,_,h⟩ | ⟨h,⟨_,_,h2⟩ | ⟨h2,_⟩⟩
 ·rw[if_neg (by simp[h])]
 ·split
  ·rename_i hh
   rcases h2 with h2 | h2
   ·omega
   ·split
    ·rename_i t ht
     rw[if_neg (by have:=h2 t ht;omega)]
    ·rfl
  ·rfl
 ·exact absurd h2 hE
theorem Lf{t:ByteArray}(h:Tv X base d 0 t.toList):dY X base d=some t:=by
 unfold dY
 rcases h with⟨h,_⟩ | ⟨h,⟨h2,_⟩ | ⟨_,h3,h4,h5⟩⟩
 ·cases h
 ·cases h2
 ·rw[if_pos ⟨h,h3⟩,h4]
  show (if t.toList.length≤400 then some (⟨t.toList.toArray⟩:ByteArray) else none)=some t;rw[if_pos h5,ByteArray.toList_eq]
theorem WR(s:ByteArray)(w:World):(convert 9 103 (.string s)).run Tryz.prog w=.ok (.slice (some (aj w.heap.size 0)) s.size (grownCap w s.size 0 5)) (Lib.bytesWorld w 5 s) :=
 Lib.run_convert_string_bytes w 9 103 5 s underlying9 underlying103 underlying5
theorem PD(w:World)(s:ByteArray):om (Lib.bytesWorld w 5 s) (.slice (some (aj w.heap.size 0)) s.size (grownCap w s.size 0 5)) s.toList:=by
 have vQ:s.toList.length=s.size:=by rw[ByteArray.toList_eq];rfl
 refine⟨Or.inr ⟨(aj w.heap.size 0),_,by rw[vQ],fun j u hu=>?_⟩,⟨_,_,by rw[vQ],by rw[vQ];exact grownCap_ge _ _ _ _⟩⟩
 have hj:j<s.size:=by
  rcases Nat.lt_or_ge j s.size with h | h
  ·exact h
  ·rw[List.getElem?_eq_none (by simp;omega)] at hu;cases hu
 rw[dF _ _ rfl,Nat.zero_add,Lib.bytesWorld_cell w _ s j hj];rw[List.getElem?_map,ByteArray.toList_eq,List.getElem?_eq_getElem (by rw[← ByteArray.toList_eq];omega)] at hu;simp only[Option.map_some,Option.some.injEq] at hu;rw[← hu];simp only[bJ,List.getD_eq_getElem?_getD];rw[List.getElem?_eq_getElem (by rw[← ByteArray.toList_eq];omega)];rfl
theorem xE(w:World)(s:ByteArray):Below w.heap.size w (Lib.bytesWorld w 5 s):=⟨rfl,rfl,rfl,by rw[Lib.bytesWorld_size];omega,fun k hk=>Lib.bytesWorld_at_old w _ s k hk⟩
theorem Lg{W:World}{la:Option Addr}{ll lc:Nat}(hs:oU lo w (.slice la ll lc) X)(hb:Below w.heap.size w W)(base data:ByteArray)(hd:data.size≤1000):
  aT 237 #[.slice la ll lc,.string base,.slice (some (aj W.heap.size 0)) data.size (grownCap W data.size 0 5)] (Lib.bytesWorld W 5 data) (fun e w'=>∃ (t:ByteArray) (E:Int),e=.returned (.tuple #[.string t,vI E])∧Below w.heap.size w w'∧((E≠0∧dY X base data.toList=none)∨(E=0∧dY X base data.toList=some t))):=by
 have aW:=hb.trans ((xE W data).mono hb.size);have il:=hs.below aW;obtain⟨pl,hp⟩:=il.i;refine(Ip _ pl la ll lc X base _ data.toList hp il.xo il.pl il.ty il.WQ (PD W data) (by rw[ByteArray.toList_eq];show data.size≤_;unfold maxLen;omega)).mono ?_;rintro e w' ⟨t,E,rfl,bP,hA⟩;refine⟨t,E,rfl,aW.trans (bP.mono aW.size),?_⟩
 by_cases hE:E=0
 ·subst hE;exact Or.inr ⟨rfl,Lf hA⟩
 ·exact Or.inl ⟨hE,Le hA hE⟩
end Go.Proofs.YtkpfplbmmglkkaaGreatDoor
