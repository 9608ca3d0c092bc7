/- The deframer that looks at all bytes each time, on plain lists: it comes to the same. -/
import Derived.Test.YtgalebcpagmohaaGreatDoorMFrA
set_option maxHeartbeats 2000000
set_option maxRecDepth 100000
namespace Go.Proofs.YtgalebcpagmohaaGreatDoor
open Go.Proofs.Tryz
def kY (sm:List UInt8→List UInt8):Nat→List UInt8→List (List UInt8) × Bool
 | 0,_=>([],true)
 | _+1,[]=>([],true)
 | f+1,c::r=>
  if okB c.toNat=true then
   if (c::r).length<c.toNat+5 then([],true)
   else if aS sm (r.take c.toNat)=(c::r).take (c.toNat+5) then(r.take c.toNat::(kY sm f ((c::r).drop (c.toNat+5))).1,(kY sm f ((c::r).drop (c.toNat+5))).2)
   else([],false)
  else([],false)
def jR (sm:List UInt8→List UInt8) (L:List UInt8):List (List UInt8) × Bool:=kY sm L.length L
def zT:St→Bool
 | none=>true
 | some _=>false
section
variable {sm:List UInt8→List UInt8}
theorem zU (c:UInt8) (r:List UInt8) (h:okB c.toNat=true):∀ k,k≤(c::r).length→k<5+c.toNat→bP sm (some []) ((c::r).take k)=([],some ((c::r).take k))
 | 0,_,_=>rfl
 | k+1,hk,hl=>by
  have ih:=zU c r h k (by omega) (by omega)
  have hlt:k<(c::r).length:=by omega
  have e:(c::r).take (k+1)=(c::r).take k++[(c::r)[k]]:=List.take_succ_eq_append_getElem hlt
  rw[e,vK,ih]
  have hd:((c::r).take k++[(c::r)[k]]).headD 0=c:=by rw[← e];rfl
  have hlen:((c::r).take k++[(c::r)[k]]).length=k+1:=by rw[← e,List.length_take];omega
  simp only[jw,JG]
  rw[hd,if_pos h,hlen,if_pos (by omega)]
  rfl
theorem Xf (c:UInt8) (r:List UInt8) (h:okB c.toNat=true) (hl:c.toNat+5≤(c::r).length) :
  bP sm (some []) ((c::r).take (c.toNat+5))=if aS sm (r.take c.toNat)=(c::r).take (c.toNat+5) then([r.take c.toNat],some []) else([],none):=by
 have ih:=zU (sm:=sm) c r h (c.toNat+4) (by omega) (by omega)
 have hlt:c.toNat+4<(c::r).length:=by omega
 have e:(c::r).take (c.toNat+5)=(c::r).take (c.toNat+4)++[(c::r)[c.toNat+4]]:=List.take_succ_eq_append_getElem hlt
 have hd:((c::r).take (c.toNat+5)).headD 0=c:=rfl
 have hlen:((c::r).take (c.toNat+5)).length=c.toNat+5:=by rw[List.length_take];omega
 have hpay:(((c::r).take (c.toNat+5)).drop 1).take (c.toNat+5-5)=r.take c.toNat:=by
  rw[show c.toNat+5=(c.toNat+4)+1 by omega,List.take_succ_cons,List.drop_succ_cons,List.drop_zero,List.take_take]
  congr 1;omega
 have key:bP sm (some []) ((c::r).take (c.toNat+4)++[(c::r)[c.toNat+4]])=if aS sm (r.take c.toNat)=(c::r).take (c.toNat+5) then([r.take c.toNat],some []) else([],none):=by
  rw[vK,ih]
  simp only[jw,JG]
  rw[← e,hd,if_pos h,hlen,if_neg (by omega)]
  unfold iO
  rw[hlen,hpay]
  by_cases hf:aS sm (r.take c.toNat)=(c::r).take (c.toNat+5)
  ·rw[if_pos ⟨by omega,by rw[show c.toNat+5-5=c.toNat by omega];exact h,hf⟩,if_pos hf];rfl
  ·rw[if_neg (fun hh=>hf hh.2.2),if_neg hf];rfl
 rw[← e] at key
 exact key
theorem xH:∀ (f:Nat) (L:List UInt8),L.length≤f→kY sm f L=((bP sm (some []) L).1,!zT (bP sm (some []) L).2)
 | 0,L,h=>by
  have:L=[]:=List.eq_nil_of_length_eq_zero (by omega)
  subst this;rfl
 | f+1,[],_=>rfl
 | f+1,c::r,h=>by
  unfold kY
  by_cases hok:okB c.toNat=true
  ·rw[if_pos hok]
   by_cases hs:(c::r).length<c.toNat+5
   ·rw[if_pos hs]
    have:=zU (sm:=sm) c r hok (c::r).length (Nat.le_refl _) (by omega)
    rw[List.take_length] at this
    rw[this];rfl
   ·rw[if_neg hs]
    have h1:=Xf (sm:=sm) c r hok (by omega)
    have e:bP sm (some []) (c::r)=bP sm (some []) ((c::r).take (c.toNat+5)++(c::r).drop (c.toNat+5)):=by rw[List.take_append_drop]
    rw[e,zW,h1]
    by_cases hf:aS sm (r.take c.toNat)=(c::r).take (c.toNat+5)
    ·rw[if_pos hf,if_pos hf]
     have ih:=xH f ((c::r).drop (c.toNat+5)) (by rw[List.length_drop];simp at h ⊢;omega)
     rw[ih]
     simp
    ·rw[if_neg hf,if_neg hf,feed_bad]
     rfl
  ·rw[if_neg hok]
   have h1:bP sm (some []) (c::r)=([],none):=by
    show r.foldl (jw sm) (jw sm ([],some []) c)=_
    have:jw sm ([],some []) c=([],none):=by
     have ha:JG sm [] c=(none,none):=by
      unfold JG
      exact if_neg hok
     simp only[jw,ha]
     rfl
    rw[this]
    exact feed_bad r
   rw[h1];rfl
theorem Bc (L:List UInt8):jR sm L=((bP sm (some []) L).1,!zT (bP sm (some []) L).2):=xH _ L (Nat.le_refl _)
theorem PL (f:Nat) (L:List UInt8) (h:L.length≤f):kY sm f L=jR sm L:=by rw[xH f L h,Bc]
theorem PN:jR sm []=([],true):=rfl
theorem PO {c:UInt8} {r:List UInt8} (h:¬ okB c.toNat=true):jR sm (c::r)=([],false):=by
 show kY sm (r.length+1) (c::r)=_
 unfold kY;rw[if_neg h]
theorem Jw {c:UInt8} {r:List UInt8} (h:okB c.toNat=true) (hl:(c::r).length<c.toNat+5):jR sm (c::r)=([],true):=by
 show kY sm (r.length+1) (c::r)=_
 unfold kY;rw[if_pos h,if_pos hl]
theorem TQ {c:UInt8} {r:List UInt8} (h:okB c.toNat=true) (hl:¬ (c::r).length<c.toNat+5) (hf:¬ aS sm (r.take c.toNat)=(c::r).take (c.toNat+5)):jR sm (c::r)=([],false):=by
 show kY sm (r.length+1) (c::r)=_
 unfold kY;rw[if_pos h,if_neg hl,if_neg hf]
theorem PS {c:UInt8} {r:List UInt8} (h:okB c.toNat=true) (hl:¬ (c::r).length<c.toNat+5) (hf:aS sm (r.take c.toNat)=(c::r).take (c.toNat+5)):jR sm (c::r)=(r.take c.toNat::(jR sm ((c::r).drop (c.toNat+5))).1,(jR sm ((c::r).drop (c.toNat+5))).2):=by
 have e:jR sm (c::r)=(r.take c.toNat::(kY sm r.length ((c::r).drop (c.toNat+5))).1,(kY sm r.length ((c::r).drop (c.toNat+5))).2):=by
  show kY sm (r.length+1) (c::r)=_
  conv=>lhs;unfold kY
  rw[if_pos h,if_neg hl,if_pos hf]
 rw[e,PL _ _ (by rw[List.length_drop,List.length_cons];omega)]
end
end Go.Proofs.YtgalebcpagmohaaGreatDoor
namespace Go.Proofs.YtgalebcpagmohaaGreatDoor
open Go.Proofs.Tryz
open Go.RowKit
structure Xg (w:World) (lo B:Nat) (v:Value) (vs:List Value) (Ls:List (List UInt8)):Prop where
 own:w.ownsRow lo 97 1 v Ls.length vs
 each:∀ (i:Nat) (u:Value) (L:List UInt8),vs[i]? = some u→Ls[i]? = some L→Rd w u L∧∀ k,u.ownBlock=some k→0<L.length→k<B
theorem Xg.nil (w:World) (lo B:Nat):Xg w lo B (.slice none 0 0) [] []:=⟨World.ownsRow_nil _ _ _ _,fun i u L h=>by simp at h⟩
theorem Xg.push {w w2:World} {lo B:Nat} {v v' u:Value} {vs:List Value} {Ls:List (List UInt8)} {P:List UInt8} (h:Xg w lo B v vs Ls) (hB:B≤lo) (hu:Rd w u P∧∀ k,u.ownBlock=some k→0<P.length→k<B)
  (hown:w2.ownsRow lo 97 1 v' (Ls.length+1) (vs++[u])) (hb:Below lo w w2):Xg w2 lo B v' (vs++[u]) (Ls++[P]):=by
 have hl:vs.length=Ls.length:=by have:=h.own.1;omega
 refine⟨by rw[List.length_append];exact hown,fun i q L hq hL=>?_⟩
 rcases Nat.lt_or_ge i vs.length with hi | hi
 ·rw[List.getElem?_append_left hi] at hq
  rw[List.getElem?_append_left (by omega)] at hL
  obtain⟨h1,h2⟩:=h.each i q L hq hL
  exact⟨h1.same hb (fun k hk h0=>by have:=h2 k hk h0;omega),h2⟩
 ·rw[List.getElem?_append_right hi] at hq
  rw[List.getElem?_append_right (by omega)] at hL
  have hi0:i-vs.length=0:=by
   rcases Nat.eq_zero_or_pos (i-vs.length) with e | e
   ·exact e
   ·rw[List.getElem?_eq_none (by simp;omega)] at hq;cases hq
  rw[hi0] at hq
  rw[show i-Ls.length=0 by omega] at hL
  simp at hq hL
  subst hq hL
  exact⟨hu.1.same hb (fun k hk h0=>by have:=hu.2 k hk h0;omega),hu.2⟩
def TR (w:World) (W:List (List UInt8) × Bool) (e:Ending) (w':World):Prop :=
 ∃ la lc vs,e=.returned (.tuple #[.slice la W.1.length lc,.bool W.2])∧Below w.heap.size w w'∧Xg w' w.heap.size w.heap.size (.slice la W.1.length lc) vs W.1
theorem TS (w:World) (a:Option Addr) (c:Nat) (L:List UInt8) (h:Rd w (.slice a L.length c) L) (hcap:L.length≤c) (hl:L.length≤1000000000) :
  Calls Tryz.prog 75 #[.slice a L.length c] w (TR w (jR bK L)):=by
 have H:=hid h
 clear h
 obtain⟨W,HW⟩:∃ W,Hid (jR bK L=W):=⟨_,hid rfl⟩
 rw[HW.out]
 go_enter func75,ntmps75
 go_wp2_with fail
 go_loopg [0,4,5,6,7,8] L.length (fun gk bv lv x5 x6 x7 x8 wr=>∃ (R:List UInt8) (a':Option Addr) (c':Nat) (la:Option Addr) (lc:Nat) (vs:List Value) (Ls:List (List UInt8)),bv=.slice a' R.length c'∧R.length≤gk∧gk≤L.length∧R.length≤c'∧lv=.slice la Ls.length lc∧Ls.length+R.length≤L.length ∧
   Hid (Rd wr bv R∧∀ k,bv.ownBlock=some k→0<R.length→k<w.heap.size)∧Hid (W=(Ls++(jR bK R).1,(jR bK R).2))∧Hid (Xg wr w.heap.size w.heap.size lv vs Ls)∧Below w.heap.size w wr)
 case atStart=>exact⟨L,a,c,none,0,[],[],rfl,Nat.le_refl _,Nat.le_refl _,hcap,rfl,by simp,hid ⟨H.out,H.out.lt⟩,hid (by rw[← HW.out];rfl),hid (Xg.nil _ _ _),Below.refl _ _⟩
 case round=>
  obtain⟨R,a',c',la,lc,vs,Ls,rfl,hRg,hgL,hRc,rfl,hLR,HR,Xh,Jy,hbel⟩:=hrel
  have hzr:=hbel.size
  cases R with
  | nil=>
   have Xi:=hid (show W=(Ls,true) by rw[Xh.out,PN];simp)
   go_wp2_with fail
   go_ret2
   exact⟨la,lc,vs,by rw[Xi.out];rfl,hbel,by rw[Xi.out];exact Jy.out⟩
  | cons x r=>
   obtain⟨b,o,c'',hv,hb,hc⟩:=HR.out.1.at (by simp)
   obtain⟨rfl,rfl⟩:a'=some ⟨b,o,none⟩∧c'=c'':=by simpa using hv
   have hbw:b<w.heap.size:=HR.out.2 b rfl (by simp)
   have hc0:wr.cell? ⟨b,o,none⟩=some (.int .u8 (x.toNat:Int)):=by have:=hc 0 (by simp);simpa using this
   have hx255:x.toNat≤255:=by have:=x.toNat_lt;omega
   have HC:=hid hc
   have abk:=hid (fun h=>PO (sm:=bK) (c:=x) (r:=r) h)
   have PU:=hid (fun h1 h2=>Jw (sm:=bK) (c:=x) (r:=r) h1 h2)
   have ZU:=hid (fun h1 h2 h3=>TQ (sm:=bK) (c:=x) (r:=r) h1 h2 h3)
   have NP:=hid (fun h1 h2 h3=>PS (sm:=bK) (c:=x) (r:=r) h1 h2 h3)
   obtain⟨n,HN⟩:∃ n,Hid (x.toNat=n):=⟨_,hid rfl⟩
   rw[HN.out] at hc0 hx255 abk PU ZU NP
   obtain⟨R,HRe⟩:∃ R,Hid (x::r=R):=⟨_,hid rfl⟩
   have HRt:Hid (r=R.drop 1):=by rw[← HRe.out];exact hid rfl
   rw[HRe.out] at abk PU ZU NP
   rw[HRt.out] at ZU NP
   rw[HRe.out] at HR Xh HC hRg hRc hLR ⊢
   have hR0:0<R.length:=by rw[← HRe.out];simp
   clear hc hv
   by_cases hok:okB n=true
   ·have hnb:=jk.1 hok
    have h1:¬ (n:Int)<1:=by omega
    have h2:¬ (120:Int)<(n:Int):=by omega
    have BX:=hid hok
    clear hok
    by_cases hsh:R.length<n+5
    ·have aam:(R.length:Int)<(n:Int)+5:=by omega
     have Xi:=hid (show W=(Ls,true) by rw[Xh.out,PU.out BX.out hsh];simp)
     go_wp2_with fail
     go_ret2
     exact⟨la,lc,vs,by rw[Xi.out];rfl,hbel,by rw[Xi.out];exact Jy.out⟩
    ·have aam:¬ (R.length:Int)<(n:Int)+5:=by omega
     have hcI:(n:Int)+1≤(c':Int):=by omega
     have aky:(n:Int)+5≤(c':Int):=by omega
     have hc1:¬ c'=1:=by omega
     have qo:=hid (Rd.piece HC.out 1 n (c'-1) (by omega))
     have HP2:=hid (Rd.piece HC.out 0 (n+5) c' (by omega))
     go_wp2_with fail
     have hnn:((n:Int)+1).toNat-1=n:=by omega
     first | rw[hnn] | skip
     have hPl:((R.drop 1).take n).length=n:=by rw[List.length_take,List.length_drop];omega
     have HPl:=hid hPl
     refine(Ig _ _ ((R.drop 1).take n) qo.out (by rw[hPl];unfold maxLen;omega)).mono ?_;rintro e w1 ⟨lW,hq1⟩
     rw[hPl,BX.out] at hq1
     obtain⟨a1,c1,rfl,hB1⟩:=hq1
     have HB1:=hid hB1
     have hfl:=nR rF ((R.drop 1).take n)
     rw[hPl] at hfl
     have Xj:=hbel.trans (lW.mono hzr)
     have agK:=hid (HP2.out.later lW)
     have agL:=hid (qo.out.later lW)
     have hz1:=lW.size
     have HR1:=hid (HR.out.1.later lW)
     have Xk:=hid (show Xg w1 w.heap.size w.heap.size (.slice la Ls.length lc) vs Ls from⟨au Jy.out.own (fun g hg=>lW.block g (Jy.out.own.lt g hg).2),fun i u P hu hP=>⟨(Jy.out.each i u P hu hP).1.later lW,(Jy.out.each i u P hu hP).2⟩⟩)
     obtain⟨G,HG⟩:∃ G,Hid (aS bK ((R.drop 1).take n)=G):=⟨_,hid rfl⟩
     rw[HG.out] at HB1 hfl ZU NP ⊢
     have hGl:G.length≤125:=by omega
     have hT5:((R.drop 0).take (n+5)).length≤125:=by rw[List.length_take];omega
     clear hB1 hPl hfl
     go_wp2_with fail
     have agM:((n:Int)+5).toNat=n+5:=by omega
     first | rw[agM] | skip
     refine(E5 _ _ _ G ((R.drop 0).take (n+5)) HB1.out.rd agK.out (by omega) (by omega)).mono ?_;rintro e w2 ⟨rfl,q2,rfl⟩
     rw[List.drop_zero] at *
     by_cases hE:G=R.take (n+5)
     ·have HE:=hid hE
      have hd:decide (G=R.take (n+5))=true:=by simp[hE]
      rw[hd]
      clear hd hE
      have iQ:=below_drewN Xj q2
      have Xl:=hid (show Xg ((w1.drewN q2).alloc (.cells #[.slice (some ⟨b,o+1,none⟩) n (c'-1)] 97)) w.heap.size w.heap.size (.slice la Ls.length lc) vs Ls from
       ⟨World.ownsRow.alloc Xk.out.own _,fun i u P hu hP=>⟨(Xk.out.each i u P hu hP).1.later (((below_drewN (Below.refl _ _) q2)).alloc (Nat.le_refl _) _),(Xk.out.each i u P hu hP).2⟩⟩)
      have agN:=hid (show Rd ((w1.drewN q2).alloc (.cells #[.slice (some ⟨b,o+1,none⟩) n (c'-1)] 97)) (.slice (some ⟨b,o+1,none⟩) n (c'-1)) ((R.drop 1).take n)∧∀ k,(Value.slice (some ⟨b,o+1,none⟩) n (c'-1)).ownBlock=some k→0<((R.drop 1).take n).length→k<w.heap.size from
       ⟨agL.out.later (((below_drewN (Below.refl _ _) q2)).alloc (Nat.le_refl _) _),fun k hk _=>by simp[Value.ownBlock] at hk;omega⟩)
      obtain⟨A,hA,HRA,hAb⟩:∃ A,(if c'=n+5 then some (⟨b,o,none⟩:Addr) else some ⟨b,o+(n+5),none⟩)=A∧Hid (Rd w1 (.slice A (R.drop (n+5)).length (c'-(n+5))) (R.drop (n+5)))∧∀ k,(Value.slice A (R.drop (n+5)).length (c'-(n+5))).ownBlock=some k→k=b:=by
       by_cases hce:c'=n+5
       ·have h0:R.drop (n+5)=[]:=List.drop_eq_nil_of_le (by omega)
        refine⟨_,if_pos hce,?_,fun k hk=>by simp[Value.ownBlock] at hk;omega⟩
        rw[h0];exact Or.inr ⟨_,_,rfl,fun j u hu=>by simp at hu⟩
       ·refine⟨_,if_neg hce,?_,fun k hk=>by simp[Value.ownBlock] at hk;omega⟩
        have:=Rd.piece (w:=w1) (b:=b) (o:=o) (L:=R) (fun j hj=>(lW.cell (p:=⟨b,o+j,none⟩) (by show b<_;omega)).trans (HC.out j hj)) (n+5) (R.length-(n+5)) (c'-(n+5)) (by omega)
        have e:(R.drop (n+5)).take (R.length-(n+5))=R.drop (n+5):=List.take_of_length_le (by rw[List.length_drop];omega)
        rw[e] at this
        rw[List.length_drop];exact this
      have hdl:(R.drop (n+5)).length=R.length-(n+5):=List.length_drop
      have HWn:=hid (show W=((Ls++[(R.drop 1).take n])++(jR bK (R.drop (n+5))).1,(jR bK (R.drop (n+5))).2) by rw[Xh.out,NP.out BX.out hsh HE.out];simp)
      obtain⟨R2,HR2⟩:∃ R2,Hid (R.drop (n+5)=R2):=⟨_,hid rfl⟩
      rw[HR2.out] at HWn HRA hAb hdl
      have HDl:=hid hdl
      have HAb:=hid hAb
      clear hdl hAb
      go_wp2_with (at_builtin;refine fB _ rfl (.tmp 46) (.tmp 51) 103 97 _ 1 24 rfl underlying103 Tryz.infoBytes rfl (by decide) _ Ls.length vs w.heap.size rfl Xl.out.own _ 1 1 [.slice (some ⟨b,o+1,none⟩) n (c'-1)] rfl rfl (Un _ _ _) FQ (Ls.length+1) rfl _ rfl (by unfold maxLen;omega) (by omega) (by simp;omega) ?_)
      intro a3 c3 w3 ho3 hg3
      have iV:Below w.heap.size ((w1.drewN q2).alloc (.cells #[.slice (some ⟨b,o+1,none⟩) n (c'-1)] 97)) w3:=hg3.below (fun q hq=>(Xl.out.own.lt q hq).1) (by simp;omega)
      have agP:=hid (Xl.out.push (Nat.le_refl _) agN.out ho3 iV)
      have qG:Below w.heap.size w w3:=(iQ.alloc (by simp;omega) _).trans iV
      have agQ:=hid (show Rd w3 (.slice A R2.length (c'-(n+5))) R2 from(HRA.out.later (((below_drewN (Below.refl _ _) q2)).alloc (Nat.le_refl _) _)).same iV (fun k hk _=>by have:=HAb.out k hk;omega))
      clear ho3 hg3
      have hsb:(0:Int)≤(n:Int)+5:=by omega
      have akz:(n:Int)+5≤(R.length:Int):=by omega
      go_wp2_with fail
      go_roundg (gk-1)
      case rel=>
       have hdl:=HDl.out
       refine⟨R2,A,c'-(n+5),a3,c3,vs++[.slice (some ⟨b,o+1,none⟩) n (c'-1)],Ls++[(R.drop 1).take n],by rw[hdl],by omega,by omega,by omega,by rw[List.length_append];rfl,by rw[List.length_append,List.length_singleton];omega,hid ⟨by have:=agQ.out;rwa [hdl] at this,fun k hk _=>by have:=HAb.out k (by rw[hdl];exact hk);omega⟩,HWn,?_,qG⟩
       have:=agP.out
       exact hid this
      case measure=>omega
     ·have Xi:=hid (show W=(Ls,false) by rw[Xh.out,ZU.out BX.out hsh hE];simp)
      have hd:decide (G=R.take (n+5))=false:=by simp[hE]
      rw[hd]
      have iQ:=below_drewN Xj q2
      have Xl:=hid (show Xg (w1.drewN q2) w.heap.size w.heap.size (.slice la Ls.length lc) vs Ls from⟨Xk.out.own,Xk.out.each⟩)
      clear hd hE
      go_wp2_with fail
      go_ret2
      exact⟨la,lc,vs,by rw[Xi.out];rfl,iQ,by rw[Xi.out];exact Xl.out⟩
   ·have hcond:((n:Int)<1)∨(¬ (n:Int)<1∧(120:Int)<(n:Int)):=by
     have h1:¬ (1≤n∧n≤120):=fun h=>hok (jk.2 h)
     omega
    have Xi:=hid (show W=(Ls,false) by rw[Xh.out,abk.out hok];simp)
    clear hok
    rcases hcond with h1 | ⟨h1,h2⟩
    all_goals
     go_wp2_with fail
     go_ret2
     exact⟨la,lc,vs,by rw[Xi.out];rfl,hbel,by rw[Xi.out];exact Jy.out⟩
def Y5 (w:World) (lo eb:Nat) (av:Value) (A:List UInt8):Prop :=
 w.heap[eb]? = some (.cells #[av,.int .i64 ((bP bK (some []) A).1.length:Int),.bool (zT (bP bK (some []) A).2)] 107 (0,0))∧gB w lo av A
def RdL (w:World) (v:Value) (Ls:List (List UInt8)):Prop :=
 ∃ a c,v=.slice a Ls.length c∧(0<Ls.length→∃ b o,a=some ⟨b,o,none⟩∧b<w.heap.size∧∀ i (hi:i<Ls.length),∃ u,w.cell? ⟨b,o+i,none⟩=some u∧Rd w u Ls[i])
theorem Turn.trans' {w w1 w2:World} {S S':Nat→Prop} (h:Turn w w1 S) (k:Turn w1 w2 S'):Turn w w2 (fun q=>S' q∨S q) :=
 ⟨k.os.trans h.os,k.tape.trans h.tape,k.output.trans h.output,Nat.le_trans h.size k.size,fun q hq hn=>(k.block q (Nat.lt_of_lt_of_le hq h.size) (fun hs=>hn (Or.inl hs))).trans (h.block q hq (fun hs=>hn (Or.inr hs)))⟩
theorem Na {w:World} {lo:Nat} {e:TypeId} {size n m c:Nat} {a:Option Addr} {xs:List Value} (h:w.ownsRow lo e size (.slice a m c) n xs):m=n∧n≤c:=by
 rcases h.2 with⟨h1,rfl⟩ | ⟨g,cap,cur,h1,_,_,h2,_⟩
 ·simp at h1;omega
 ·simp at h1;omega
theorem adG {w:World} {v:Value} {L:List UInt8} (h:Rd w v L) (h0:0<L.length) {eb:Nat} {av:Value} {g:Int} {o:Bool} {T:TypeId} (he:w.heap[eb]? = some (.cells #[av,.int .i64 g,.bool o] T (0,0))) (ha:∀ n,av≠.int .u8 n):∀ k,v.ownBlock=some k→k≠eb:=by
 intro k hk e
 subst e
 obtain⟨b,off,c,rfl,_,hc⟩:=h.at h0
 simp[Value.ownBlock] at hk
 subst hk
 have h1:=hc 0 h0
 rw[oC he] at h1
 have hoff:off+0=0∨off+0=1∨off+0=2∨3≤off+0:=by omega
 rcases hoff with h | h | h | h
 ·rw[h] at h1;simp at h1;exact ha _ h1
 ·rw[h] at h1;simp at h1
 ·rw[h] at h1;simp at h1
 ·rw[List.getElem?_eq_none (by simpa using h)] at h1;simp at h1
def Hl (w:World) (lo eb:Nat) (av:Value) (A V:List UInt8) (e:Ending) (w':World):Prop :=
 ∃ v av' A',e=.returned (.tuple #[v,.int .i64 (BG (bP bK (bP bK (some []) A).2 V).2)])∧RdL w' v (bP bK (bP bK (some []) A).2 V).1∧Y5 w' lo eb av' A'∧(bP bK (some []) A').2=(bP bK (bP bK (some []) A).2 V).2∧A'.length≤A.length+V.length ∧
  Turn w w' (fun k=>k=eb∨av.ownBlock=some k)∧∀ k,av'.ownBlock=some k→av.ownBlock=some k∨w.heap.size≤k
theorem Bd (w:World) (lo eb:Nat) (av v:Value) (A V:List UInt8) (h:Y5 w lo eb av A) (hr:Rd w v V) (hl:A.length+V.length≤1000000000) (hlo:lo≤w.heap.size) :
  Calls Tryz.prog 40 #[.pointer (some ⟨eb,0,none⟩),v] w (Hl w lo eb av A V):=by
 obtain⟨he,hA⟩:=h
 have heb:eb<w.heap.size:=(Array.getElem?_eq_some_iff.1 he).1
 obtain⟨aa,ac,rfl⟩:=ak hA
 have hc0:w.cell? ⟨eb,0,none⟩=some (.slice aa A.length ac):=by rw[oC he];rfl
 have hc1:w.cell? ⟨eb,1,none⟩=some (.int .i64 ((bP bK (some []) A).1.length:Int)):=by rw[oC he];rfl
 have hc2:w.cell? ⟨eb,2,none⟩=some (.bool (zT (bP bK (some []) A).2)):=by rw[oC he];rfl
 have HE:=hid he
 have HA:=hid hA
 have HR:=hid hr
 clear he hA hr
 cases hst:(bP bK (some []) A).2 with
 | none =>
  have HST:=hid hst
  rw[hst] at hc2
  have hc2':w.cell? ⟨eb,2,none⟩=some (.bool true):=hc2
  clear hst hc2 hc1 hc0
  go_enter func40,ntmps40
  go_wp2_with fail
  go_ret2
  refine⟨.slice none 0 0,_,A,?_,?_,⟨HE.out,HA.out⟩,?_,by omega,Turn.refl _ _,fun k hk=>Or.inl hk⟩
  ·rw[HST.out,feed_bad];rfl
  ·rw[HST.out,feed_bad];exact⟨none,0,rfl,fun h0=>absurd h0 (by simp)⟩
  ·rw[HST.out,feed_bad]
 | some H =>
  have HST:=hid hst
  rw[hst] at hc2
  have hc2':w.cell? ⟨eb,2,none⟩=some (.bool false):=hc2
  clear hst hc2
  have hf0:w.frozen? ⟨eb,0,none⟩=false:=pY HE.out _
  obtain⟨A',HA'⟩:∃ A',Hid (A++V=A'):=⟨_,hid rfl⟩
  have hl':A'.length=A.length+V.length:=by rw[← HA'.out,List.length_append]
  have HY:=hid (show bP bK (some []) A'=((bP bK (some []) A).1++(bP bK (some H) V).1,(bP bK (some H) V).2) by rw[← HA'.out,zW,HST.out])
  have hl2:A'.length≤1000000000:=by omega
  have HL':=hid hl'
  clear hl'
  go_enter func40,ntmps40
  go_wp2_with (at_builtin;refine eH _ rfl (.tmp 17) (.tmp 18) rfl _ A lo rfl HA.out _ V rfl HR.out A' HA'.out (by omega) hlo ?_)
  intro a1 c1 w1 hb1 hg1
  have hne:(Value.slice aa A.length ac).ownBlock≠some eb:=fun e=>by
   obtain⟨cur,hcur⟩:=jZ HA.out e
   rw[HE.out] at hcur
   simp at hcur
  have he1:=(hg1.g.block eb heb (fun e=>hne e.symm)).trans HE.out
  have hd0:w1.cell? ⟨eb,0,none⟩=some (.slice aa A.length ac):=by rw[oC he1];rfl
  have agR:w1.frozen? ⟨eb,0,none⟩=false:=pY he1 _
  have U7:=hid he1
  have HB1:=hid hb1
  have ET:=hid hg1
  clear hb1 hg1 he1
  go_wp2_with fail
  obtain⟨w2,hw2⟩:∃ w2,w2=w1.setCell ⟨eb,0,none⟩ (.slice a1 A'.length c1):=⟨_,rfl⟩
  rw[← hw2]
  obtain⟨G,HGn⟩:∃ G,Hid ((bP bK (some []) A).1.length=G):=⟨_,hid rfl⟩
  have he2:w2.heap[eb]? = some (.cells #[.slice a1 A'.length c1,.int .i64 (G:Int),.bool false] 107 (0,0)):=by
   rw[hw2,heap_setCell_same w1 eb 0 _ _ _ U7.out,HST.out,HGn.out];rfl
  have hT2:Turn w w2 (fun k=>k=eb∨(Value.slice aa A.length ac).ownBlock=some k):=by
   rw[hw2]
   exact((Turn.XW ET.out).trans (S':=fun k=>(Value.slice aa A.length ac).ownBlock=some k) (Turn.refl _ _) (fun _ _ h=>h)).trans' (Turn.setCell w1 eb 0 _)
  have hne1:(Value.slice a1 A'.length c1).ownBlock≠some eb:=fun e=>by
   obtain⟨cur,hcur⟩:=jZ HB1.out e
   rw[U7.out] at hcur
   simp at hcur
  have HB2:=hid (show gB w2 lo (.slice a1 A'.length c1) A' from au HB1.out (fun g hg=>by rw[hw2];exact Below.heap_setCell _ _ _ _ (fun e=>hne1 (by rw[hg,e]))))
  have agS:eb<w2.heap.size:=(Array.getElem?_eq_some_iff.1 he2).1
  have HW:=hid (Bc (sm:=bK) A')
  have HE2:=hid he2
  have HT2:=hid hT2
  clear hw2 he2 hT2 hd0 agR hc0 hc1 hc2' hf0
  refine(TS _ a1 c1 A' HB2.out.rd (Na HB2.out).2 (by omega)).mono ?_;rintro e w3 ⟨la,lc,vs,rfl,qG,hLs⟩
  have he3:=(qG.block eb agS).trans HE2.out
  have d1:w3.cell? ⟨eb,1,none⟩=some (.int .i64 (G:Int)):=by rw[oC he3];rfl
  have d2:w3.cell? ⟨eb,2,none⟩=some (.bool false):=by rw[oC he3];rfl
  have df1:w3.frozen? ⟨eb,1,none⟩=false:=pY he3 _
  have df2:w3.frozen? ⟨eb,2,none⟩=false:=pY he3 _
  have hW1:(jR bK A').1=(bP bK (some []) A).1++(bP bK (some H) V).1:=by rw[HW.out,HY.out]
  have hW2:(jR bK A').2 = !zT (bP bK (some H) V).2:=by rw[HW.out,HY.out]
  rw[hW1] at hLs
  rw[hW1,hW2]
  have HN:=hid (show ((bP bK (some []) A).1++(bP bK (some H) V).1).length=G+(bP bK (some H) V).1.length by rw[List.length_append,HGn.out])
  generalize hLL:(bP bK (some []) A).1++(bP bK (some H) V).1=LL at *
  have akC:LL.length≤lc:=(Na hLs.own).2
  have hGn:G≤LL.length:=by rw[HN.out];omega
  have HE3:=hid he3
  have Jy:=hid hLs
  have HLL:=hid hLL
  clear he3 hLs hW1 hW2 hLL
  have hs1:(G:Int)≤(LL.length:Int):=by omega
  obtain⟨Q,hQ⟩:∃ Q,(if lc=G then la else Option.map (fun x=>x.add G) la)=Q:=⟨_,rfl⟩
  generalize hbq:zT (bP bK (some H) V).2=bq at *
  have KX:=hid hbq
  have fin:∀ w5,w5.heap[eb]? = some (.cells #[.slice a1 A'.length c1,.int .i64 (LL.length:Int),.bool bq] 107 (0,0))→Turn w3 w5 (fun k=>k=eb) →
    Hl w lo eb (.slice aa A.length ac) A V (.returned (.tuple #[.slice Q (LL.length-G) (lc-G),.int .i64 (bif bq then 7 else 0)])) w5:=by
   intro w5 h5 t5
   have hXl:(bP bK (some H) V).1.length=LL.length-G:=by rw[HN.out];omega
   have hY1:(bP bK (some []) A').1=LL:=by rw[HY.out]
   refine⟨.slice Q (LL.length-G) (lc-G),.slice a1 A'.length c1,A',?_,?_,⟨?_,?_⟩,?_,by rw[HL'.out];exact Nat.le_refl _,?_,?_⟩
   ·rw[HST.out]
    have:BG (bP bK (some H) V).2=bif bq then 7 else 0:=by rw[← KX.out];cases (bP bK (some H) V).2<;>rfl
    rw[this]
   ·rw[HST.out]
    refine⟨Q,lc-G,by rw[hXl],fun h0=>?_⟩
    have hvl:vs.length=LL.length:=by have:=Jy.out.own.1;omega
    obtain⟨g,hla⟩:∃ g,la=some ⟨g,0,none⟩:=by
     rcases Jy.out.own.2 with⟨_,e⟩ | ⟨g,cap,cur,hv,_⟩
     ·omega
     ·simp at hv;exact⟨g,hv.1⟩
    have hlg:=Jy.out.own.lt g (by rw[hla];rfl)
    have agT:g≠eb:=by omega
    have hQ2:Q=some ⟨g,G,none⟩:=by
     rw[← hQ,if_neg (by omega),hla,Option.map_some,jO _ _ rfl];first | rfl | simp
    refine⟨g,G,hQ2,Nat.lt_of_lt_of_le hlg.2 t5.size,fun i hi=>?_⟩
    have hiL:G+i<LL.length:=by omega
    have hLi:LL[G+i]? = some (bP bK (some H) V).1[i]:=by
     rw[← HLL.out,List.getElem?_append_right (by rw[HGn.out];omega),HGn.out,show G+i-G=i by omega,List.getElem?_eq_getElem hi]
    have ZH:vs[G+i]? = some vs[G+i]:=List.getElem?_eq_getElem (by omega)
    obtain⟨hr,_⟩:=Jy.out.each (G+i) _ _ ZH hLi
    refine⟨vs[G+i],?_,hr.turn (fun k hk hl0=>t5.block k ?_ (adG hr hl0 HE3.out (fun n=>by simp) k hk))⟩
    ·have hcell:=Jy.out.own.cells (g:=g) (by rw[hla];rfl) (G+i) _ ZH
     rw[jO _ _ rfl] at hcell
     rw[World.cell?_of_block (w:=w3) (w':=w5) (a:=⟨g,G+i,none⟩) (t5.block g hlg.2 agT)]
     simpa using hcell
    ·exact hr.lt k hk hl0
   ·rw[hY1,h5,HY.out,KX.out]
   ·exact au HB2.out (fun g hg=>(t5.block g (Nat.lt_of_lt_of_le (HB2.out.lt g hg).2 qG.size) (fun e=>hne1 (by rw[← e];exact hg))).trans (qG.block g (HB2.out.lt g hg).2))
   ·rw[HY.out,HST.out]
   ·exact(HT2.out.trans (Turn.of_below (S:=fun _=>False) qG) (fun _ _ h=>h.elim)).trans t5 (fun q _ h=>Or.inl h)
   ·intro k hk
    exact ET.out.b k hk
  have he4:(w3.setCell ⟨eb,1,none⟩ (.int .i64 (LL.length:Int))).heap[eb]? = some (.cells #[.slice a1 A'.length c1,.int .i64 (LL.length:Int),.bool false] 107 (0,0)):=by
   rw[heap_setCell_same w3 eb 1 _ _ _ HE3.out];rfl
  have FIN:=hid fin
  have HE4:=hid he4
  clear fin he4 hbq
  cases bq with
  | true=>
   have HE5:=hid (show ((w3.setCell ⟨eb,1,none⟩ (.int .i64 (LL.length:Int))).setCell ⟨eb,2,none⟩ (.bool true)).heap[eb]? = some (.cells #[.slice a1 A'.length c1,.int .i64 (LL.length:Int),.bool true] 107 (0,0)) from by
    rw[heap_setCell_same _ eb 2 _ _ _ HE4.out];rfl)
   go_wp2_with fail
   go_ret2
   exact FIN.out _ HE5.out ((Turn.setCell _ _ _ _).trans (Turn.setCell _ _ _ _) (fun _ _ h=>h))
  | false=>
   go_wp2_with fail
   go_ret2
   exact FIN.out _ HE4.out (Turn.setCell _ _ _ _)
end Go.Proofs.YtgalebcpagmohaaGreatDoor
