/- Package courierref's cursor: text. -/
import Derived.Test.YtgalebcpagmohaaGreatDoorMEncA
set_option maxHeartbeats 4000000
set_option maxRecDepth 100000
namespace Go.Proofs.YtgalebcpagmohaaGreatDoor
open Go.Proofs.Tryz
open Go.RowKit
def jq (spec:List UInt8→Got) (w:World) (cb:Nat) (lv:Value) (s:ByteArray) (i:Nat) (d:Int) (K:Nat) (e:Ending) (w':World):Prop :=
 ∃ (a:Option Addr) (c:Nat) (out:List UInt8) (i':Nat) (ok:Bool),e=.returned (.slice a out.length c)∧gB w' w.heap.size (.slice a out.length c) out∧But cb w w'∧Cu w' cb lv s i' ok d∧i≤i'∧(ok=true→out.length≤2*(i'-i))∧out.length≤2*(i'-i)+K ∧
  spec (aC s i)=(match ok with | true=>some (out,aC s i') | false=>none)
theorem zM (s:ByteArray) (k:Nat) (q:UInt8):(aK [q] (aC s k)).isSome=true↔∃ h:k<s.size,s[k]'h=q:=by
 unfold aK
 by_cases hk:k<s.size
 ·rw[tail_cons s k hk]
  by_cases e:q=s[k]'hk
  ·subst e;simp[List.isPrefixOf,hk]
  ·have:([q].isPrefixOf (s[k]'hk::aC s (k+1)))=false:=by simp[List.isPrefixOf,e]
   rw[this];simp[hk];exact fun h=>e h.symm
 ·rw[tail_nil s k (by omega)];simp[List.isPrefixOf,hk]
theorem nY {s:ByteArray} {k:Nat} {q:UInt8} (h:(aK [q] (aC s k)).isSome=false):aK [q] (aC s k)=none:=by
 cases e:aK [q] (aC s k) with
 | none=>rfl
 | some r=>rw[e] at h;cases h
theorem nZ {s:ByteArray} {k:Nat} {q:UInt8} (h:(aK [q] (aC s k)).isSome=true):aK [q] (aC s k)=some (aC s (k+1)):=by
 cases e:aK [q] (aC s k) with
 | none=>rw[e] at h;cases h
 | some r=>
  have:=vZ e
  obtain⟨hk,_⟩:=(zM s k q).1 h
  rw[tail_cons s k hk] at this
  simp only[List.cons_append,List.nil_append,List.cons.injEq] at this
  rw[this.2]
theorem uZ:(ByteArray.mk #[34]).toList=[34]:=by rw[ByteArray.toList_eq]
def Np (G:Got) (s:ByteArray) (k:Nat) (out:List UInt8) (ok:Bool):Prop:=match ok with
 | true=>G=(dF (aC s k)).map fun x=>(out++x.1,x.2)
 | false=>G=none
theorem Np.last {G:Got} {s:ByteArray} {k:Nat} {out:List UInt8} {ok:Bool} (h:Np G s k out ok) (he:ok=true→s.size≤k∨∃ h:k<s.size,s[k]'h=34) {r:Bool} (hr:(aK [34] (aC s k)).isSome=r):G=(match (ok&&r) with | true=>some (out,aC s (upTo r k 1)) | false=>none):=by
 cases ok with
 | false=>exact h
 | true=>
  have h':G=(dF (aC s k)).map fun x=>(out++x.1,x.2):=h
  rcases he rfl with hk | ⟨hk,e⟩
  ·have:r=false:=by
    cases r with
    | false=>rfl
    | true=>obtain⟨q,_⟩:=(zM s k 34).1 hr;omega
   subst this
   rw[h',tail_nil s k hk,yP];rfl
  ·have:r=true:=by rw[← hr];exact(zM s k 34).2 ⟨hk,e⟩
   subst this
   rw[h',tail_cons s k hk,e,yQ]
   simp[upTo]
theorem Np.plain {G:Got} {s:ByteArray} {k:Nat} {out:List UInt8} (h:Np G s k out true) (hk:k<s.size) (hp:jE (s[k]'hk)=true):Np G s (k+1) (out++[s[k]'hk]) true:=by
 have h':G=(dF (aC s k)).map fun x=>(out++x.1,x.2):=h
 show G=_
 rw[h',tail_cons s k hk,uY _ hp,Option.map_map]
 congr 1
 funext x
 simp
theorem Np.bad {G:Got} {s:ByteArray} {k:Nat} {out:List UInt8} (h:Np G s k out true) (hk:k<s.size) (hp:jE (s[k]'hk)=false) (Ui:s[k]'hk≠34) (D9:s[k]'hk≠92):G=none:=by
 have h':G=(dF (aC s k)).map fun x=>(out++x.1,x.2):=h
 rw[h',tail_cons s k hk,yR _ hp Ui D9];rfl
theorem VL (s:ByteArray) (k:Nat):(aC s k).length=s.size-k:=by unfold aC;rw[List.length_drop,aB]
theorem Np.short {G:Got} {s:ByteArray} {k:Nat} {out:List UInt8} (h:Np G s k out true) (hk:k<s.size) (D9:s[k]'hk=92) (hl:s.size-k<3):G=none:=by
 have h':G=(dF (aC s k)).map fun x=>(out++x.1,x.2):=h
 rw[h',tail_cons s k hk,D9,qy _ (by rw[VL];omega)];rfl
theorem Np.hex {G:Got} {s:ByteArray} {k:Nat} {out:List UInt8} (h:Np G s k out true) (hk:k+2<s.size) (D9:s[k]'(by omega)=92) {a b:Int} (ha:a=oJ ((s[k+1]'(by omega)).toNat:Int)) (hb:b=oJ ((s[k+2]'hk).toNat:Int)) {v:UInt8} (hv:0≤a→0≤b→(v.toNat:Int)=16*a+b) :
  Np G s (k+3) (out++[v]) (decide (0≤a)&&(decide (0≤b) && !rC (v.toNat:Int))):=by
 have h':G=(dF (aC s k)).map fun x=>(out++x.1,x.2):=h
 rw[tail_cons s k (by omega),tail_cons s (k+1) (by omega),tail_cons s (k+1+1) (by omega),D9,yS] at h'
 have e1:=IU (s[k+1]'(by omega))
 have e2:=IU (s[k+1+1]'(by omega))
 rw[← ha] at e1
 have hb':b=oJ ((s[k+1+1]'(by omega)).toNat:Int):=hb
 rw[← hb'] at e2
 cases g1:hexV (s[k+1]'(by omega)) with
 | none=>
  rw[g1] at e1 h'
  simp only at e1 h'
  have:decide (0≤a)=false:=by simp;omega
  rw[this];exact h'
 | some x=>
  rw[g1] at e1 h'
  simp only at e1
  have da:decide (0≤a)=true:=by simp;omega
  cases g2:hexV (s[k+1+1]'(by omega)) with
  | none=>
   rw[g2] at e2 h'
   simp only at e2 h'
   have:decide (0≤b)=false:=by simp;omega
   rw[da,this];exact h'
  | some y=>
   rw[g2] at e2 h'
   simp only at e2 h'
   have db:decide (0≤b)=true:=by simp;omega
   have hv':=hv (by omega) (by omega)
   have ev:(16*x+y).toUInt8=v:=by
    apply UInt8.toNat.inj
    have hlt:=v.toNat_lt
    have:(16*x+y).toUInt8.toNat=16*x+y:=by
     have:=Gz (m:=16*x+y) (by omega)
     omega
    omega
   rw[ev] at h'
   rw[da,db,← uX]
   cases hp:jE v with
   | true=>rw[hp] at h';show G=none;simpa using h'
   | false=>
    rw[hp] at h'
    show G=_
    simp only[Bool.false_eq_true,if_false] at h'
    rw[h',Option.map_map]
    congr 1
    funext z
    simp
theorem gB.but {w w':World} {lo cb o:Nat} {v:Value} {L:List UInt8} {T:TypeId} {ys:List Value} (h:gB w lo v L) (hc:Seg w cb T o ys) (hT:5 ≠ T) (hb:But cb w w'):gB w' lo v L :=
 au h (fun g hg=>hb.block g (h.lt g hg).2 (gK h hc hT hg))
theorem Ea (w:World) {ops:Array Oper} {o:Oper} {a:Act} {K:Act→World→Prop} {Q:Exit→Act→World→Prop} {E:Prop} (hgd:o.guard=none) (s x:Operand)
  (ho:o.op=.call { callee:=.builtin .append,args:=#[s,x],argTypes:=#[97,97] })
  (v:Value) (L:List UInt8) (lo:Nat) (hs:a.eval s=v) (hP:gB w lo v L) (v2:Value) (L2:List UInt8) (lo2:Nat) (hx:a.eval x=v2) (hP2:gB w lo2 v2 L2)
  (hlen:L.length+L2.length≤100000000000) (hlo:lo≤w.heap.size)
  (h:∀ a' c' w',gB w' lo (.slice a' (L++L2).length c') (L++L2)→Grew w w' v (.slice a' (L++L2).length c')→K (a.put o.dst (.slice a' (L++L2).length c')) w') :
  if Region.wanted o (yielded ops a.tmps)=true then Oper.wp Tryz.prog o a w K Q else E:=by
 have hw:Region.wanted o (yielded ops a.tmps)=true:=by simp[Region.wanted,hgd]
 rw[if_pos hw]
 exact xM w s x ho v L lo hs hP v2 L2 lo2 hx hP2 hlen hlo h
theorem Cu.grew {w wx w':World} {cb:Nat} {lv:Value} {s:ByteArray} {i:Nat} {ok:Bool} {d:Int} {lo:Nat} {v v':Value} {L:List UInt8} (h:Cu w cb lv s i ok d) (hb:Below w.heap.size w wx) (hB:gB w lo v L) (hg:Grew wx w' v v'):Cu w' cb lv s i ok d :=
 h.same ((hg.g.block cb (Nat.lt_of_lt_of_le h.seg.lt hb.size) (fun e=>gK hB h.seg (by decide) e.symm rfl)).trans (hb.block cb h.seg.lt))
theorem But.grew {w0 w wx w':World} {cb:Nat} {v v':Value} {L:List UInt8} (h:But cb w0 w) (hb:Below w.heap.size w wx) (hB:gB w w0.heap.size v L) (hg:Grew wx w' v v'):But cb w0 w':=by
 have h1:=h.trans (But.dJ hb)
 refine⟨hg.g.os.trans h1.os,hg.g.tape.trans h1.tape,hg.g.output.trans h1.output,Nat.le_trans h1.size hg.g.size,fun k hk hne=>?_⟩
 rw[hg.g.block k (Nat.lt_of_lt_of_le hk h1.size) (fun e=>by have:=(hB.lt k e.symm).1;omega)]
 exact h1.block k hk hne
theorem zN (w:World) (H:Nat) (hH:w.heap.size=H) (c:UInt8) (z:Int) (hz:z=(c.toNat:Int)):gB (w.alloc (.cells #[.int .u8 z] 5)) H (.slice (some ⟨H,0,none⟩) 1 1) [c]:=by
 subst hH;exact mP w c z hz
theorem yT (b:Bool) (i n:Nat):i≤upTo b i n:=by cases b<;>simp[upTo]
theorem VN (w:World) (cb:Nat) (la:Option Addr) (ll lc:Nat) (s:ByteArray) (i:Nat) (d:Int) (h:Cu w cb (.slice la ll lc) s i true d) (hs:s.size≤400) :
  Calls Tryz.prog 174 #[.pointer (some ⟨cb,0,none⟩)] w (jq uV w cb (.slice la ll lc) s i d 1):=by
 unfold jq
 have H:=hid h
 have hle:=h.le
 clear h
 go_enter func174,ntmps174
 go_wp2_with fail
 refine(iK w cb la ll lc s _ i true d H.out hs (by decide)).mono ?_;rintro e w1 ⟨⟨v,rfl⟩,hb1,hc1⟩
 rw[uZ] at hc1
 simp only[Bool.true_and] at hc1
 generalize hr:(aK [34] (aC s i)).isSome=r at *
 have HR:=hid hr
 clear hr
 have hz1:(ByteArray.mk #[34]).size=1:=rfl
 rw[hz1] at hc1
 obtain⟨k0,hk0⟩:∃ k0,k0=upTo r i 1:=⟨_,rfl⟩
 rw[← hk0] at hc1
 have hk0':i≤k0∧k0≤i+1∧(r=true→k0=i+1):=by rw[hk0];cases r<;>simp[upTo]
 have wP:=hid hc1
 have hle0:=hc1.le
 generalize hG:uV (aC s i)=G
 have HG:=hid hG
 have HT0:=hid (show Np G s k0 [] r from by
  cases r with
  | true=>
   show G=_
   rw[← hG,Lm,nZ HR.out,hk0'.2.2 rfl];simp
  | false=>
   show G=none
   rw[← hG,Lm,nY HR.out];rfl)
 clear hc1 hk0 hG
 have hz:=hb1.size
 go_wp2_with fail
 go_loopg [3,4,5,6,7] (s.size+1) (fun gk o3 p4 a5 b6 v7 wr=>∃ (k:Nat) (out:List UInt8) (ok:Bool),i≤k∧k≤s.size∧(s.size-k)+(bif ok then 1 else 0)≤gk∧Hid (Cu wr cb (.slice la ll lc) s k ok d)∧Hid (gB wr w.heap.size o3 out)∧out.length≤k-i∧Hid (Np G s k out ok)∧But cb w wr)
 case atStart=>exact⟨k0,[],r,hk0'.1,hle0,by cases r<;>simp<;>omega,hid wP.out,hid (World.ownsRow_nil _ _ _ _),by simp,hid HT0.out,hb1⟩
 case round=>
  obtain⟨k,out,ok,hik,hks,hgk,HC,HB,hol,HT,jI⟩:=hrel
  obtain⟨oa,oc,hov⟩:∃ a c,u3=.slice a out.length c:=ak HB.out
  subst hov
  have e1:=HC.out.seg.cell (j:=1) rfl
  have e2:=HC.out.seg.cell (j:=2) rfl
  have e3:=HC.out.seg.cell (j:=3) rfl
  have ef:=HC.out.seg.frozen 2
  have ef3:=HC.out.seg.frozen 3
  simp only[Nat.zero_add] at e1 e2 e3
  cases ok with
  | false=>
   go_wp2_with fail
   go_quiet (fail)
   go_wp2_with fail
   refine(iK _ cb la ll lc s _ k false d (HC.out.drew nq) hs (by decide)).mono ?_;rintro e w2 ⟨⟨v2,rfl⟩,hb2,hc2⟩
   rw[uZ] at hc2
   generalize hr2:(aK [34] (aC s k)).isSome=r2 at *
   have HF:=hid (HT.out.last (fun e=>by cases e) hr2)
   have HC2:=hid hc2
   have nM:But cb w w2:=(jI.trans (But.drewN _ _)).trans hb2
   have HB2:=hid ((HB.out.same (below_drewN (Below.refl _ _) _)).but (HC.out.drew nq).seg (by decide) hb2)
   have hup:=yT r2 k 1
   clear hr2 hc2 hb2
   go_wp2_with fail
   go_ret
   exact⟨oa,oc,out,upTo r2 k 1,false&&r2,rfl,HB2.out,nM,HC2.out,by omega,fun _=>by omega,by omega,by rw[HG.out];exact HF.out⟩
  | true=>
   by_cases hlt:k<s.size
   ·have oM:(k:Int)<(s.size:Int):=by omega
    have h0I:(0:Int)≤(k:Int):=by omega
    by_cases Ui:((s[k]'hlt).toNat:Int)=34
    ·have hq:s[k]'hlt=34:=by apply UInt8.toNat.inj;have:(34:UInt8).toNat=34:=rfl;omega
     have afu:(((s[k]'hlt).toNat:Int)==34)=true:=by rw[Ui];rfl
     have HQ:=hid hq
     clear hq
     go_wp2_with fail
     go_quiet (fail)
     go_wp2_with fail
     refine(iK _ cb la ll lc s _ k true d (HC.out.drew nq) hs (by decide)).mono ?_;rintro e w2 ⟨⟨v2,rfl⟩,hb2,hc2⟩
     rw[uZ] at hc2
     generalize hr2:(aK [34] (aC s k)).isSome=r2 at *
     have HF:=hid (HT.out.last (fun _=>Or.inr ⟨hlt,HQ.out⟩) hr2)
     have HC2:=hid hc2
     have nM:But cb w w2:=(jI.trans (But.drewN _ _)).trans hb2
     have HB2:=hid ((HB.out.same (below_drewN (Below.refl _ _) _)).but (HC.out.drew nq).seg (by decide) hb2)
     have hup:=yT r2 k 1
     clear hr2 hc2 hb2
     go_wp2_with fail
     go_ret
     exact⟨oa,oc,out,upTo r2 k 1,true&&r2,rfl,HB2.out,nM,HC2.out,by omega,fun _=>by omega,by omega,by rw[HG.out];exact HF.out⟩
    ·have hq:s[k]'hlt≠34:=by intro e;apply Ui;rw[e];rfl
     have afu:(((s[k]'hlt).toNat:Int)==34)=false:=by simp[Ui]
     have HQ:=hid hq
     clear hq Ui
     cases hp:rC ((s[k]'hlt).toNat:Int) with
     | true=>
      have HP:=hid (HT.out.plain hlt (by rw[uX];exact hp))
      go_wp2_with fail
      go_quiet (fail)
      generalize hw:wr.drewN nq=wa
      have hbw:Below wr.heap.size wr wa:=hw ▸ below_drewN (Below.refl _ _) nq
      have HCa:=hid (HC.out.same (hbw.block cb HC.out.seg.lt))
      have HBa:=hid (HB.out.same hbw)
      have acW:=jI.trans (But.dJ hbw)
      clear hw hbw
      have p1:=HCa.out.seg.cell (j:=1) rfl
      have p2:=HCa.out.seg.cell (j:=2) rfl
      have p3:=HCa.out.seg.cell (j:=3) rfl
      have pf:=HCa.out.seg.frozen 2
      have pf3:=HCa.out.seg.frozen 3
      simp only[Nat.zero_add] at p1 p2 p3
      clear e1 e2 e3 ef ef3
      go_wp2_with fail
      go_quiet (exact(sF _ _).mono (fun _ _ h=>⟨h.1.trans (by rw[hp]),_,h.2⟩))
      go_wp2_with fail
      generalize hw:wa.drewN nq=wb
      have hbw:Below wa.heap.size wa wb:=hw ▸ below_drewN (Below.refl _ _) nq
      have Qm:=hid (HCa.out.same (hbw.block cb HCa.out.seg.lt))
      have Zv:=hid (HBa.out.same hbw)
      have Lr:=acW.trans (But.dJ hbw)
      clear hw hbw
      have q1:=Qm.out.seg.cell (j:=1) rfl
      have q2:=Qm.out.seg.cell (j:=2) rfl
      have q3:=Qm.out.seg.cell (j:=3) rfl
      have qf:=Qm.out.seg.frozen 2
      have qf3:=Qm.out.seg.frozen 3
      simp only[Nat.zero_add] at q1 q2 q3
      have hzb:=Lr.size
      go_region_law (refine Ea _ rfl (.tmp 49) (.tmp 59) rfl _ out w.heap.size (by simp[Act.eval]) (Zv.out.same (by repeat (first | exact Below.refl _ _ | apply Below.drew | (refine Below.alloc ?_ (by simp) _)))) _ [s[k]'hlt] wb.heap.size (by simp[Act.eval]) (show gB _ _ _ _ from mP wb _ _ rfl) (by simp;omega) (by simp;omega) ?_;intro a5 c5 w5 wL hg5;have Qi:=hid hg5;have wZ:=hid wL;clear wL hg5)
      all_goals
       have jW:=hid (Qm.out.grew (by repeat (first | exact Below.refl _ _ | apply Below.drew | (refine Below.alloc ?_ (by simp) _))) Zv.out Qi.out)
       have dR:=Lr.grew (by repeat (first | exact Below.refl _ _ | apply Below.drew | (refine Below.alloc ?_ (by simp) _))) Zv.out Qi.out
       have f2:=jW.out.seg.cell (j:=2) rfl
       have ff:=jW.out.seg.frozen 2
       simp only[Nat.zero_add] at f2
       clear p1 p2 p3 pf pf3 q1 q2 q3 qf qf3 Qi
       have jM:=hid (show gB (w5.setCell ⟨cb,2,none⟩ (.int .i64 ((k:Int)+1))) w.heap.size (.slice a5 (out++[s[k]'hlt]).length c5) (out++[s[k]'hlt]) from(show gB w5 w.heap.size (.slice a5 (out++[s[k]'hlt]).length c5) (out++[s[k]'hlt]) by simpa using wZ.out).but jW.out.seg (by decide) ((But.refl _ _).setCell _ _))
       go_wp2_with fail
       go_roundg (gk-1)
       case rel=>exact⟨k+1,out++[s[k]'hlt],true,by omega,by omega,by simp at hgk ⊢;omega,hid (by simpa using jW.out.put (k+1) (by omega)),hid (by simpa using jM.out),by rw[List.length_append,List.length_singleton];omega,hid HP.out,dR.setCell _ _⟩
       case measure=>simp at hgk;omega
     | false=>
      have hpc:jE (s[k]'hlt)=false:=by rw[uX];exact hp
      by_cases D9:((s[k]'hlt).toNat:Int)=92
      ·have OT:s[k]'hlt=92:=by apply UInt8.toNat.inj;have:(92:UInt8).toNat=92:=rfl;omega
       have afw:(((s[k]'hlt).toNat:Int)==92)=true:=by rw[D9];rfl
       have afx:(((s[k]'hlt).toNat:Int) != 92)=false:=by rw[D9];rfl
       have afy:=hid OT
       by_cases hsh:s.size-k<3
       ·have aam:(s.size:Int)-(k:Int)<3:=by omega
        have HN:=hid (HT.out.short hlt OT hsh)
        clear OT hpc D9
        go_wp2_with fail
        go_quiet (fail)
        go_wp2_with fail
        go_quiet (exact(sF _ _).mono (fun _ _ h=>⟨h.1.trans (by rw[hp]),_,h.2⟩))
        go_wp2_with fail
        go_quiet (fail)
        go_wp2_with fail
        have HT2:=hid (show Np G s k out false from HN.out)
        have HCk:=hid ((HC.out.drew (0)).ji false)
        refine(iK _ cb la ll lc s _ k false d ((show Cu _ cb (.slice la ll lc) s k false d from(HC.out.drew _).ji false)) hs (by decide)).mono ?_;rintro e w2 ⟨⟨v2,rfl⟩,hb2,hc2⟩
        rw[uZ] at hc2
        generalize hr2:(aK [34] (aC s k)).isSome=r2 at *
        have HF:=hid (HT2.out.last (fun e=>by cases e) hr2)
        have HC2:=hid hc2
        have nM:But cb w w2:=((jI.trans (But.drewN _ _)).setCell _ _).trans hb2
        have HB2:=hid (((HB.out.same (below_drewN (Below.refl _ _) _)).but (HC.out.drew _).seg (by decide) ((But.refl _ _).setCell 3 (.bool false))).but ((HC.out.drew _).ji false).seg (by decide) hb2)
        have hup:=yT r2 k 1
        clear hr2 hc2 hb2 HCk
        go_wp2_with fail
        go_ret
        exact⟨oa,oc,out,upTo r2 k 1,false&&r2,rfl,HB2.out,nM,HC2.out,by omega,fun _=>by omega,by omega,by rw[HG.out];exact HF.out⟩
       ·have aam:¬ (s.size:Int)-(k:Int)<3:=by omega
        have hd3:decide ((s.size:Int)-(k:Int)<3)=false:=by simp;omega
        clear hpc D9 OT
        go_wp2_with fail
        go_quiet (fail)
        go_wp2_with fail
        go_quiet (exact(sF _ _).mono (fun _ _ h=>⟨h.1.trans (by rw[hp]),_,h.2⟩))
        go_wp2_with fail
        go_quiet (fail)
        go_wp2_with fail
        have hk1:k+1<s.size:=by omega
        have hk2:k+2<s.size:=by omega
        have aji:(k:Int)+1<(s.size:Int):=by omega
        have ajj:(k:Int)+2<(s.size:Int):=by omega
        have ajk:(0:Int)≤(k:Int)+1:=by omega
        have ajl:(0:Int)≤(k:Int)+2:=by omega
        go_quiet (exact(GH _ (by omega) (by have:=(s[k+1]'hk1).toNat_lt;omega) _).mono (fun _ _ h=>⟨h.1,_,h.2⟩))
        have hAr:=xA ((s[k+1]'hk1).toNat:Int)
        generalize hA:oJ ((s[k+1]'hk1).toNat:Int)=A at *
        go_wp2_with fail
        go_quiet (exact(GH _ (by omega) (by have:=(s[k+2]'hk2).toNat_lt;omega) _).mono (fun _ _ h=>⟨h.1,_,h.2⟩))
        have hBr:=xA ((s[k+2]'hk2).toNat:Int)
        generalize Nq:oJ ((s[k+2]'hk2).toNat:Int)=Bv at *
        obtain⟨vv,hvv⟩:∃ vv:UInt8,(vv.toNat:Int)=(16*A+Bv) % 256:=⟨((16*A+Bv) % 256).toNat.toUInt8,by rw[Gz (by omega)];omega⟩
        have HTX:=hid (HT.out.hex hk2 afy.out hA.symm Nq.symm (v:=vv) (fun h1 h2=>by omega))
        clear hA Nq
        go_wp2_with fail
        rw[← hvv]
        refine(sF _ _).mono ?_;rintro e wb ⟨rfl,hwb⟩
        have hbw:Below wr.heap.size wr wb:=by rw[hwb];exact below_drewN (Below.refl _ _) _
        have Qm:=hid (HC.out.same (hbw.block cb HC.out.seg.lt))
        have Zv:=hid (HB.out.same hbw)
        have Lr:=jI.trans (But.dJ hbw)
        clear hwb hbw e1 e2 e3 ef ef3
        have qf3:=Qm.out.seg.frozen 3
        have q3:=Qm.out.seg.cell (j:=3) rfl
        simp only[Nat.zero_add] at q3
        have hzb:=Lr.size
        obtain⟨okk,aan⟩:∃ b,b=(decide (0≤A)&&(decide (0≤Bv) && !rC (vv.toNat:Int))):=⟨_,rfl⟩
        rw[← aan] at HTX
        have BX:=hid aan
        clear aan
        have HCc:=hid (Qm.out.ji okk)
        have HBc:=hid (Zv.out.but Qm.out.seg (by decide) ((But.refl _ _).setCell 3 (.bool okk)))
        have GI:=Lr.setCell 3 (.bool okk)
        have ajm:(vv.toNat:Int)=(vv.toNat:Int):=rfl
        generalize hpv:rC (vv.toNat:Int)=pv at *
        by_cases hA0:0≤A
        ·by_cases hB0:0≤Bv
         ·have hok2:okk = !pv:=by rw[BX.out];simp[hA0,hB0]
          subst hok2
          have hzc:=GI.size
          go_wp2_with (at_builtin;refine dG _ rfl _ _ rfl _ out w.heap.size rfl (HBc.out.same ((Below.refl _ _).alloc (Nat.le_refl _) _)) _ [vv] wb.heap.size rfl (zN _ wb.heap.size (by simp) _ _ hvv.symm) (by simp;omega) (by simp;omega) ?_)
          intro a5 c5 w5 wL hg5
          have jW:=hid (HCc.out.grew ((Below.refl _ _).alloc (Nat.le_refl _) _) HBc.out hg5)
          have dR:=GI.grew ((Below.refl _ _).alloc (Nat.le_refl _) _) HBc.out hg5
          have wZ:=hid wL
          have f2:=jW.out.seg.cell (j:=2) rfl
          have ff:=jW.out.seg.frozen 2
          simp only[Nat.zero_add] at f2
          clear wL hg5 HCc HBc Qm Zv qf3 q3
          have jM:=hid (show gB (w5.setCell ⟨cb,2,none⟩ (.int .i64 ((k:Int)+3))) w.heap.size (.slice a5 (out++[vv]).length c5) (out++[vv]) from(show gB w5 w.heap.size (.slice a5 (out++[vv]).length c5) (out++[vv]) by simpa using wZ.out).but jW.out.seg (by decide) ((But.refl _ _).setCell _ _))
          go_wp2_with fail
          go_roundg (gk-1)
          case rel=>exact⟨k+3,out++[vv],!pv,by omega,by omega,by(cases pv<;>simp at hgk ⊢<;>omega),hid (by simpa using jW.out.put (k+3) (by omega)),hid (by simpa using jM.out),by rw[List.length_append,List.length_singleton];omega,hid HTX.out,dR.setCell _ _⟩
          case measure=>simp at hgk;omega
         ·have hok2:okk=false:=by rw[BX.out];simp[hB0]
          subst hok2
          have hzc:=GI.size
          go_wp2_with (at_builtin;refine dG _ rfl _ _ rfl _ out w.heap.size rfl (HBc.out.same ((Below.refl _ _).alloc (Nat.le_refl _) _)) _ [vv] wb.heap.size rfl (zN _ wb.heap.size (by simp) _ _ hvv.symm) (by simp;omega) (by simp;omega) ?_)
          intro a5 c5 w5 wL hg5
          have jW:=hid (HCc.out.grew ((Below.refl _ _).alloc (Nat.le_refl _) _) HBc.out hg5)
          have dR:=GI.grew ((Below.refl _ _).alloc (Nat.le_refl _) _) HBc.out hg5
          have wZ:=hid wL
          have f2:=jW.out.seg.cell (j:=2) rfl
          have ff:=jW.out.seg.frozen 2
          simp only[Nat.zero_add] at f2
          clear wL hg5 HCc HBc Qm Zv qf3 q3
          have jM:=hid (show gB (w5.setCell ⟨cb,2,none⟩ (.int .i64 ((k:Int)+3))) w.heap.size (.slice a5 (out++[vv]).length c5) (out++[vv]) from(show gB w5 w.heap.size (.slice a5 (out++[vv]).length c5) (out++[vv]) by simpa using wZ.out).but jW.out.seg (by decide) ((But.refl _ _).setCell _ _))
          go_wp2_with fail
          go_roundg (gk-1)
          case rel=>exact⟨k+3,out++[vv],false,by omega,by omega,by(cases pv<;>simp at hgk ⊢<;>omega),hid (by simpa using jW.out.put (k+3) (by omega)),hid (by simpa using jM.out),by rw[List.length_append,List.length_singleton];omega,hid HTX.out,dR.setCell _ _⟩
          case measure=>simp at hgk;omega
        ·have hok2:okk=false:=by rw[BX.out];simp[hA0]
         subst hok2
         have hzc:=GI.size
         go_wp2_with (at_builtin;refine dG _ rfl _ _ rfl _ out w.heap.size rfl (HBc.out.same ((Below.refl _ _).alloc (Nat.le_refl _) _)) _ [vv] wb.heap.size rfl (zN _ wb.heap.size (by simp) _ _ hvv.symm) (by simp;omega) (by simp;omega) ?_)
         intro a5 c5 w5 wL hg5
         have jW:=hid (HCc.out.grew ((Below.refl _ _).alloc (Nat.le_refl _) _) HBc.out hg5)
         have dR:=GI.grew ((Below.refl _ _).alloc (Nat.le_refl _) _) HBc.out hg5
         have wZ:=hid wL
         have f2:=jW.out.seg.cell (j:=2) rfl
         have ff:=jW.out.seg.frozen 2
         simp only[Nat.zero_add] at f2
         clear wL hg5 HCc HBc Qm Zv qf3 q3
         have jM:=hid (show gB (w5.setCell ⟨cb,2,none⟩ (.int .i64 ((k:Int)+3))) w.heap.size (.slice a5 (out++[vv]).length c5) (out++[vv]) from(show gB w5 w.heap.size (.slice a5 (out++[vv]).length c5) (out++[vv]) by simpa using wZ.out).but jW.out.seg (by decide) ((But.refl _ _).setCell _ _))
         go_wp2_with fail
         go_roundg (gk-1)
         case rel=>exact⟨k+3,out++[vv],false,by omega,by omega,by(cases pv<;>simp at hgk ⊢<;>omega),hid (by simpa using jW.out.put (k+3) (by omega)),hid (by simpa using jM.out),by rw[List.length_append,List.length_singleton];omega,hid HTX.out,dR.setCell _ _⟩
         case measure=>simp at hgk;omega
      ·have OT:s[k]'hlt≠92:=by intro e;apply D9;rw[e];rfl
       have afw:(((s[k]'hlt).toNat:Int)==92)=false:=by simp[D9]
       have afx:(((s[k]'hlt).toNat:Int) != 92)=true:=by simp[D9]
       have HN:=hid (HT.out.bad hlt hpc HQ.out OT)
       clear OT hpc D9
       go_wp2_with fail
       go_quiet (fail)
       go_wp2_with fail
       go_quiet (exact(sF _ _).mono (fun _ _ h=>⟨h.1.trans (by rw[hp]),_,h.2⟩))
       go_wp2_with fail
       go_quiet (fail)
       go_wp2_with fail
       have HT2:=hid (show Np G s k out false from HN.out)
       have HCk:=hid ((HC.out.drew (0)).ji false)
       refine(iK _ cb la ll lc s _ k false d ((show Cu _ cb (.slice la ll lc) s k false d from(HC.out.drew _).ji false)) hs (by decide)).mono ?_;rintro e w2 ⟨⟨v2,rfl⟩,hb2,hc2⟩
       rw[uZ] at hc2
       generalize hr2:(aK [34] (aC s k)).isSome=r2 at *
       have HF:=hid (HT2.out.last (fun e=>by cases e) hr2)
       have HC2:=hid hc2
       have nM:But cb w w2:=((jI.trans (But.drewN _ _)).setCell _ _).trans hb2
       have HB2:=hid (((HB.out.same (below_drewN (Below.refl _ _) _)).but (HC.out.drew _).seg (by decide) ((But.refl _ _).setCell 3 (.bool false))).but ((HC.out.drew _).ji false).seg (by decide) hb2)
       have hup:=yT r2 k 1
       clear hr2 hc2 hb2 HCk
       go_wp2_with fail
       go_ret
       exact⟨oa,oc,out,upTo r2 k 1,false&&r2,rfl,HB2.out,nM,HC2.out,by omega,fun _=>by omega,by omega,by rw[HG.out];exact HF.out⟩
   ·have oM:¬ (k:Int)<(s.size:Int):=by omega
    have hd:decide ((k:Int)<(s.size:Int))=false:=by simp;omega
    go_wp2_with fail
    go_quiet (fail)
    go_wp2_with fail
    refine(iK _ cb la ll lc s _ k true d (HC.out.drew nq) hs (by decide)).mono ?_;rintro e w2 ⟨⟨v2,rfl⟩,hb2,hc2⟩
    rw[uZ] at hc2
    generalize hr2:(aK [34] (aC s k)).isSome=r2 at *
    have HF:=hid (HT.out.last (fun _=>Or.inl (by omega)) hr2)
    have HC2:=hid hc2
    have nM:But cb w w2:=(jI.trans (But.drewN _ _)).trans hb2
    have HB2:=hid ((HB.out.same (below_drewN (Below.refl _ _) _)).but (HC.out.drew nq).seg (by decide) hb2)
    have hup:=yT r2 k 1
    clear hr2 hc2 hb2
    go_wp2_with fail
    go_ret
    exact⟨oa,oc,out,upTo r2 k 1,true&&r2,rfl,HB2.out,nM,HC2.out,by omega,fun _=>by omega,by omega,by rw[HG.out];exact HF.out⟩
end Go.Proofs.YtgalebcpagmohaaGreatDoor
