/- Package courierref's cursor: message. -/
import Derived.Test.YtgalebcpagmohaaGreatDoorMEncT
set_option maxHeartbeats 4000000
set_option maxRecDepth 100000
namespace Go.Proofs.YtgalebcpagmohaaGreatDoor
open Go.Proofs.Tryz
open Go.RowKit
structure YOk (Y:List IV):Prop where
 b:∀ y∈Y,∀ f∈y.it.fields,jS Y f.base.toList=true
 n:∀ y∈Y,∀ f∈y.it.fields,0≤f.number∧f.number≤99
 s:∀ y∈Y,∀ f∈y.it.fields,1≤f.name.size∧f.name.size≤400
 k:∀ y∈Y,∀ f∈y.it.fields,jH f.kind kZ=true∨jH f.kind iY=true∨f.kind.toList=[]
 fl:∀ y∈Y,y.it.fields.length≤400
 nl:∀ y∈Y,y.it.names.length≤400
 nn:∀ y∈Y,∀ t∈y.it.names,1≤t.size∧t.size≤400
def acZ (Y:List IV) (n K:Nat):Prop:=∀ (w:World) (cb lo:Nat) (la:Option Addr) (ll lc:Nat) (s:ByteArray) (i:Nat) (base:ByteArray),Its w lo (.slice la ll lc) Y→Cu w cb (.slice la ll lc) s i true ((6:Int)-n)→Env w→Own cb→s.size≤400→jS Y base.toList=true →
 Calls Tryz.prog 234 #[.pointer (some ⟨cb,0,none⟩),.string base] w (jq ((encR Y n).2 base.toList) w cb (.slice la ll lc) s i ((6:Int)-n) K)
theorem vk (p q t:List UInt8):aK (p++q) t=(aK p t).bind (aK q):=by
 unfold aK
 by_cases h:p.isPrefixOf t=true
 ·obtain⟨r,rfl⟩:=List.isPrefixOf_iff_prefix.1 h
  rw[if_pos h,Option.bind_some,List.drop_left]
  have:((p++q).isPrefixOf (p++r))=q.isPrefixOf r:=by
   rw[Bool.eq_iff_iff,List.isPrefixOf_iff_prefix,List.isPrefixOf_iff_prefix,List.prefix_append_right_inj]
  rw[this,List.length_append,List.drop_append,List.drop_eq_nil_of_le (show p.length≤p.length+q.length by omega)]
  simp
 ·rw[if_neg h]
  have:¬ (p++q).isPrefixOf t=true:=by
   intro hh
   obtain⟨r,rfl⟩:=List.isPrefixOf_iff_prefix.1 hh
   exact h (List.isPrefixOf_iff_prefix.2 (by rw[List.append_assoc];exact List.prefix_append _ _))
  rw[if_neg this];rfl
theorem Ee {s:ByteArray} {k:Nat} {p:List UInt8} (h:(aK p (aC s k)).isSome=true):aK p (aC s k)=some (aC s (k+p.length)):=by
 unfold aK at h ⊢
 split at h
 ·rw[if_pos ‹_›];unfold aC;rw[List.drop_drop]
 ·cases h
theorem kK {t:List UInt8} {p:List UInt8} (h:(aK p t).isSome=false):aK p t=none:=by
 cases e:aK p t with
 | none=>rfl
 | some r=>rw[e] at h;cases h
def GL (G:Got) (val lst:List UInt8→List UInt8→Got) (fs:List FD) (s:ByteArray) (j k m:Nat) (out:List UInt8) (ok:Bool):Prop:=match ok with
 | true=>G=(fieldsGo val lst (fs.drop j) (decide (m=0)) (aC s k)).map fun x=>(out++x.1,x.2)
 | false=>G=none
def Ef (m:Nat) (f:FD):List UInt8:=(if decide (m=0)=true then [] else [44])++f.name++[58]
theorem GL.open {G:Got} {val lst:List UInt8→List UInt8→Got} {fs:List FD} {s:ByteArray} {j k m:Nat} {out:List UInt8} {f:FD} (h:GL G val lst fs s j k m out true) (hf:fs[j]? = some f):G=(match aK (Ef m f) (aC s k) with
  | none=>if f.shape=1 then fieldsGo val lst (fs.drop (j+1)) (decide (m=0)) (aC s k) else none
  | some t1=>(if f.shape=2 then lst f.base t1 else val f.base t1).bind fun(v:List UInt8 × List UInt8)=>(fieldsGo val lst (fs.drop (j+1)) false v.2).map fun(o:List UInt8 × List UInt8)=>(bU f.number++aO v.1++o.1,o.2)).map fun(x:List UInt8 × List UInt8)=>(out++x.1,x.2):=by
 have h':G=(fieldsGo val lst (fs.drop j) (decide (m=0)) (aC s k)).map fun x=>(out++x.1,x.2):=h
 have hlt:=iR hf
 have e:fs.drop j=f::fs.drop (j+1):=by
  rw[List.drop_eq_getElem_cons hlt]
  rw[List.getElem?_eq_getElem hlt] at hf
  cases hf;rfl
 rw[h',e]
 conv=>lhs;unfold fieldsGo
 rfl
theorem GL.skip {G:Got} {val lst:List UInt8→List UInt8→Got} {fs:List FD} {s:ByteArray} {j k m:Nat} {out:List UInt8} {f:FD} (h:GL G val lst fs s j k m out true) (hf:fs[j]? = some f) (he:aK (Ef m f) (aC s k)=none):(f.shape=1→GL G val lst fs s (j+1) k m out true)∧(f.shape≠1→G=none):=by
 have:=h.open hf
 rw[he] at this
 exact⟨fun h1=>by rw[if_pos h1] at this;exact this,fun h1=>by simp only[if_neg h1] at this;exact this⟩
theorem GL.there {G:Got} {val lst:List UInt8→List UInt8→Got} {fs:List FD} {s:ByteArray} {j k k2 m:Nat} {out:List UInt8} {f:FD} (h:GL G val lst fs s j k m out true) (hf:fs[j]? = some f) (he:aK (Ef m f) (aC s k)=some (aC s k2)) :
  ((if f.shape=2 then lst f.base (aC s k2) else val f.base (aC s k2))=none→G=none)∧∀ v k4,(if f.shape=2 then lst f.base (aC s k2) else val f.base (aC s k2))=some (v,aC s k4)→GL G val lst fs s (j+1) k4 (m+1) (out++bU f.number++aO v) true:=by
 have:=h.open hf
 rw[he] at this
 simp only at this
 refine⟨fun hv=>by rw[hv] at this;exact this,fun v k4 hv=>?_⟩
 rw[hv] at this
 show G=_
 rw[this,show decide (m+1=0)=false by simp]
 simp only[Option.bind_some,Option.map_map]
 congr 1
 funext x
 simp
theorem GL.last {G:Got} {val lst:List UInt8→List UInt8→Got} {fs:List FD} {s:ByteArray} {j k m:Nat} {out:List UInt8} {ok:Bool} (h:GL G val lst fs s j k m out ok) (hj:ok=true→fs.length≤j) {r:Bool} (hr:(aK [125] (aC s k)).isSome=r):G=(match (ok&&r) with | true=>some (out,aC s (upTo r k 1)) | false=>none):=by
 cases ok with
 | false=>exact h
 | true=>
  have h':G=(fieldsGo val lst (fs.drop j) (decide (m=0)) (aC s k)).map fun x=>(out++x.1,x.2):=h
  rw[List.drop_eq_nil_of_le (hj rfl)] at h'
  rw[h']
  unfold fieldsGo
  cases r with
  | true=>rw[Ee hr];simp[upTo]
  | false=>rw[kK hr];simp
theorem O4 {w:World} {lo:Nat} {v:Value} {fs:List aZ} (h:w.ownsRow lo 95 7 v fs.length (fs.flatMap aP)) {j:Nat} {f:aZ} (hj:fs[j]? = some f):∃ g c,v=.slice (some ⟨g,0,none⟩) fs.length c∧lo≤g∧g<w.heap.size∧Seg w g 95 (j*7) (aP f):=by
 have hlt:=iR hj
 obtain⟨g,c,hv,hg,hs⟩:=h.form (by omega)
 rw[hv] at h
 have:=(qM h).part (j*7) 7 (aP f) (KJ _ j f hj) rfl (by omega)
 exact⟨g,c,hv,hg,hs,by simpa using this⟩
theorem I4 {f:aZ} (h:(f.kind.toList==[111,112,116])=true):(uj f).shape=1:=if_pos h
theorem Eh {f:aZ} (h:(f.kind.toList==[111,112,116])=false):(uj f).shape≠1:=by
 have h':¬ jH f.kind kZ=true:=by show ¬ (f.kind.toList==[111,112,116])=true;rw[h];decide
 show (if jH f.kind kZ then 1 else if jH f.kind iY then 2 else 0)≠1
 rw[if_neg h'];split<;>decide
theorem LP {f:aZ} (h:(f.kind.toList==[108,105,115,116])=true):(uj f).shape=2:=by
 have e:f.kind.toList=[108,105,115,116]:=by simpa using h
 have h':¬ jH f.kind kZ=true:=by show ¬ (f.kind.toList==[111,112,116])=true;rw[e];decide
 show (if jH f.kind kZ then 1 else if jH f.kind iY then 2 else 0)=2
 rw[if_neg h',if_pos (show jH f.kind iY=true from h)]
theorem GN {f:aZ} (h:(f.kind.toList==[108,105,115,116])=false):(uj f).shape≠2:=by
 have h':¬ jH f.kind iY=true:=by show ¬ (f.kind.toList==[108,105,115,116])=true;rw[h];decide
 show (if jH f.kind kZ then 1 else if jH f.kind iY then 2 else 0)≠2
 rw[if_neg h'];split<;>decide
theorem VZ (t:ByteArray):(t++ByteArray.mk #[58]).toList=t.toList++[58]:=by rw[ByteArray.toList_eq,ByteArray.toList_eq];simp
theorem tC (t:ByteArray):(t++ByteArray.mk #[58]).size=t.size+1:=by rw[ByteArray.size_append];rfl
theorem Zy:(ByteArray.mk #[123]).toList=[123]:=by rw[ByteArray.toList_eq]
theorem O5:(ByteArray.mk #[125]).toList=[125]:=by rw[ByteArray.toList_eq]
theorem LQ {Y:List IV} {n K:Nat} (hV:YB Y n K) (hL:acZ Y n K) (hY:YOk Y) (w:World) (cb lo:Nat) (la:Option Addr) (ll lc:Nat) (s:ByteArray) (i:Nat) (d:Int) (hd:d+1=(6:Int)-n) (hI:Its w lo (.slice la ll lc) Y) (q:Nat) (y:IV) (hy:Y[q]? = some y) (h:Cu w cb (.slice la ll lc) s i true d) (hE:Env w) (hO:Own cb) (hs:s.size≤400) (hK:K≤1000) (hd0:-1000≤d) (fa na za ba xa:Option Addr) (fc nl nc zl zc bl bc xl xc:Nat) (hvf:y.vf=.slice fa y.it.fields.length fc) :
  Calls Tryz.prog 175 #[.pointer (some ⟨cb,0,none⟩),.agg #[.string y.it.kind,.string y.it.name,.int .i64 y.it.nameAt,.slice fa y.it.fields.length fc,.slice na nl nc,.slice za zl zc,.slice ba bl bc,.slice xa xl xc]] w (jq (msgP (encR Y n).1 (encR Y n).2 (y.it.fields.map uj)) w cb (.slice la ll lc) s i d (K+10)):=by
 unfold jq
 have hle:=h.le
 have hcl:=h.seg.lt
 have Ei:=List.mem_of_getElem? hy
 have hrow:=(hI.nest y Ei).f
 rw[hvf] at hrow
 have hfl:=hY.fl y Ei
 generalize hkd:y.it.kind=kd
 generalize hnm:y.it.name=nm
 generalize hnA:y.it.nameAt=nA
 generalize hfs:y.it.fields=fs at *
 have hYb:∀ f∈fs,jS Y f.base.toList=true:=by rw[← hfs];exact hY.b y Ei
 have hYn:∀ f∈fs,0≤f.number∧f.number≤99:=by rw[← hfs];exact hY.n y Ei
 have hYs:∀ f∈fs,1≤f.name.size∧f.name.size≤400:=by rw[← hfs];exact hY.s y Ei
 have hYk:∀ f∈fs,jH f.kind kZ=true∨jH f.kind iY=true∨f.kind.toList=[]:=by rw[← hfs];exact hY.k y Ei
 clear hfs hkd hnm hnA hvf Ei hy hY
 have HYb:=hid hYb
 have HYn:=hid hYn
 have HYs:=hid hYs
 have HYk:=hid hYk
 have Z8:=hid hrow
 have e4:=h.seg.cell (j:=4) rfl
 have e3:=h.seg.cell (j:=3) rfl
 have XK:=h.seg.frozen 4
 simp only[Nat.zero_add] at e4 e3
 have Vq:(cb=w.heap.size)=False:=by simp;omega
 have Vr:(w.heap.size=cb)=False:=by simp;omega
 have Zz:=hid (show But cb w ((w.setCell ⟨cb,4,none⟩ (.int .i64 (d+1))).alloc (.cells #[.string kd,.string nm,.int .i64 nA,.slice fa fs.length fc,.slice na nl nc,.slice za zl zc,.slice ba bl bc,.slice xa xl xc] 88)) from((But.refl cb w).setCell 4 _).trans (But.dJ ((Below.refl _ _).alloc (Nat.le_refl _) _)))
 have H0:=hid (show Cu ((w.setCell ⟨cb,4,none⟩ (.int .i64 (d+1))).alloc (.cells #[.string kd,.string nm,.int .i64 nA,.slice fa fs.length fc,.slice na nl nc,.slice za zl zc,.slice ba bl bc,.slice xa xl xc] 88)) cb (.slice la ll lc) s i true (d+1) from(h.jU (d+1)).same (((Below.refl _ _).alloc (Nat.le_refl _) _).block cb (h.jU (d+1)).seg.lt))
 have HI0:=hid (show Its ((w.setCell ⟨cb,4,none⟩ (.int .i64 (d+1))).alloc (.cells #[.string kd,.string nm,.int .i64 nA,.slice fa fs.length fc,.slice na nl nc,.slice za zl zc,.slice ba bl bc,.slice xa xl xc] 88)) lo (.slice la ll lc) Y from hI.but h.seg Zz.out)
 have HE0:=hid (show Env ((w.setCell ⟨cb,4,none⟩ (.int .i64 (d+1))).alloc (.cells #[.string kd,.string nm,.int .i64 nA,.slice fa fs.length fc,.slice na nl nc,.slice za zl zc,.slice ba bl bc,.slice xa xl xc] 88)) from hE.but Zz.out hO)
 have aas:=hid (show ((w.setCell ⟨cb,4,none⟩ (.int .i64 (d+1))).alloc (.cells #[.string kd,.string nm,.int .i64 nA,.slice fa fs.length fc,.slice na nl nc,.slice za zl zc,.slice ba bl bc,.slice xa xl xc] 88)).ownsRow lo 95 7 (.slice fa fs.length fc) fs.length (fs.flatMap aP) from au hrow (fun g hg=>Zz.out.block g (hrow.lt g hg).2 (gK hrow h.seg (by decide) hg)))
 have HI3:=hid (show ((w.setCell ⟨cb,4,none⟩ (.int .i64 (d+1))).alloc (.cells #[.string kd,.string nm,.int .i64 nA,.slice fa fs.length fc,.slice na nl nc,.slice za zl zc,.slice ba bl bc,.slice xa xl xc] 88)).cell? ⟨w.heap.size,3,none⟩=some (.slice fa fs.length fc) from(by have:=dh (w.setCell ⟨cb,4,none⟩ (.int .i64 (d+1))) w.heap.size (by simp) #[.string kd,.string nm,.int .i64 nA,.slice fa fs.length fc,.slice na nl nc,.slice za zl zc,.slice ba bl bc,.slice xa xl xc] 88 3 (.slice fa fs.length fc) rfl;simpa[Addr.add] using this))
 have aat:w.heap.size<((w.setCell ⟨cb,4,none⟩ (.int .i64 (d+1))).alloc (.cells #[.string kd,.string nm,.int .i64 nA,.slice fa fs.length fc,.slice na nl nc,.slice za zl zc,.slice ba bl bc,.slice xa xl xc] 88)).heap.size:=by simp
 have HV:=hid hV
 have HL:=hid hL
 clear h hE hI hV hL hYb hYn hYs hYk hrow
 generalize hG:msgP (encR Y n).1 (encR Y n).2 (fs.map uj) (aC s i)=G
 have HG:=hid hG
 have HG2:=hid (show G=(aK [123] (aC s i)).bind (fieldsGo (encR Y n).1 (encR Y n).2 (fs.map uj) true) by rw[← hG];rfl)
 clear hG
 have hd6:d+1≤6:=by omega
 have HD:=hid hd
 clear hd
 go_enter func175,ntmps175
 go_wp2_with fail
 generalize ((w.setCell ⟨cb,4,none⟩ (.int .i64 (d+1))).alloc (.cells #[.string kd,.string nm,.int .i64 nA,.slice fa fs.length fc,.slice na nl nc,.slice za zl zc,.slice ba bl bc,.slice xa xl xc] 88))=w0 at *
 refine(iK w0 cb la ll lc s (ByteArray.mk #[123]) i true (d+1) H0.out hs (by decide)).mono ?_;rintro e w1 ⟨⟨v,rfl⟩,hb1,hc1⟩
 rw[Zy] at hc1
 simp only[Bool.true_and] at hc1
 generalize hr:(aK [123] (aC s i)).isSome=r at *
 have HR:=hid hr
 have hz1:(ByteArray.mk #[123]).size=1:=rfl
 rw[hz1] at hc1
 obtain⟨k0,hk0⟩:∃ k0,k0=upTo r i 1:=⟨_,rfl⟩
 rw[← hk0] at hc1
 have hk0':i≤k0∧k0≤i+1∧(r=true→k0=i+1):=by rw[hk0];cases r<;>simp[upTo]
 have wP:=hid hc1
 have HT0:=hid (show GL G (encR Y n).1 (encR Y n).2 (fs.map uj) s 0 k0 0 [] r from by
  cases r with
  | true=>
   show G=_
   rw[HG2.out,nZ HR.out,hk0'.2.2 rfl];simp
  | false=>
   show G=none
   rw[HG2.out,nY HR.out];rfl)
 have hz0:=Zz.out.size
 have hz:=hb1.size
 clear hc1 hk0 hr e4 XK e3 Vq Vr
 go_wp2_with fail
 go_loopg [5,6,7,8,9,10,11,12] fs.length (fun gk o5 n6 j7 x8 x9 x10 x11 x12 wr=>∃ (j k m:Nat) (out:List UInt8) (ok:Bool),i≤k∧j+gk=fs.length∧n6=.int .i64 m∧m≤j∧j7=.int .i64 j∧Hid (Cu wr cb (.slice la ll lc) s k ok (d+1))∧Hid (gB wr w0.heap.size o5 out)∧(ok=true→out.length≤2*(k-i))∧out.length≤2*(k-i)+K+10∧Hid (GL G (encR Y n).1 (encR Y n).2 (fs.map uj) s j k m out ok)∧But cb w0 wr)
 case atStart=>exact⟨0,k0,0,[],r,hk0'.1,by omega,rfl,by omega,rfl,hid wP.out,hid (World.ownsRow_nil _ _ _ _),by simp,by simp,hid HT0.out,hb1⟩
 case round=>
  obtain⟨j,k,m,out,ok,hik,hjk,rfl,hmj,rfl,HC,HB,hol,OZ,HT,jI⟩:=hrel
  obtain⟨oa,oc,hov⟩:∃ a c,u5=.slice a out.length c:=ak HB.out
  subst hov
  have hle:=HC.out.le
  have e2:=HC.out.seg.cell (j:=2) rfl
  have e3:=HC.out.seg.cell (j:=3) rfl
  simp only[Nat.zero_add] at e2 e3
  have i3:wr.cell? ⟨w.heap.size,3,none⟩=some (.slice fa fs.length fc):=(World.cell?_of_block (w:=w0) (jI.block w.heap.size aat (by omega))).trans HI3.out
  by_cases hlt:j<fs.length
  ·have oM:(j:Int)<(fs.length:Int):=by omega
   cases ok with
   | false=>
    go_wp2_with fail
    refine(iK wr cb la ll lc s (ByteArray.mk #[125]) k false (d+1) HC.out hs (by decide)).mono ?_;rintro e w2 ⟨⟨v2,rfl⟩,hb2,hc2⟩
    rw[O5] at hc2
    generalize hr2:(aK [125] (aC s k)).isSome=r2 at *
    have V3:(ByteArray.mk #[125]).size=1:=rfl
    rw[V3] at hc2
    have HLS:=hid (HT.out.last (fun h=>by cases h) hr2)
    have HC2:=hid hc2
    have HB2:=hid (HB.out.but HC.out.seg (by decide) hb2)
    have bG:=jI.trans hb2
    have f4:=HC2.out.seg.cell (j:=4) rfl
    have ff4:=HC2.out.seg.frozen 4
    simp only[Nat.zero_add] at f4
    have HBx:=hid (HB2.out.but HC2.out.seg (by decide) ((But.refl _ _).setCell 4 (.int .i64 d)))
    clear hc2 hb2 hr2
    go_wp2_with fail
    go_ret
    refine⟨oa,oc,out,upTo r2 k 1,false&&r2,rfl,own_base HBx.out hz0,(Zz.out.trans bG).setCell _ _,HC2.out.jU d,?_,?_,?_,HLS.out⟩
    ·cases r2<;>simp[upTo]<;>omega
    ·intro hh
     have hh1:=hol (by revert hh;generalize false=x;cases x<;>simp)
     cases r2<;>simp[upTo]<;>omega
    ·cases r2<;>simp[upTo]<;>omega
   | true=>
    obtain⟨f,hf⟩:∃ f,fs[j]? = some f:=⟨fs[j],List.getElem?_eq_getElem hlt⟩
    have hfm:=List.mem_of_getElem? hf
    obtain⟨gf,Z9,hvf,ae0,ae1,hsf⟩:=O4 (au aas.out (fun q hq=>jI.block q (aas.out.lt q hq).2 (gK aas.out H0.out.seg (by decide) hq))) hf
    obtain⟨rfl,rfl⟩:fa=some ⟨gf,0,none⟩∧fc=Z9:=by simpa using hvf
    have c0:wr.cell? ⟨gf,j*7,none⟩=some (.int .i64 f.number):=hsf.cell (j:=0) rfl
    have c1:wr.cell? ⟨gf,j*7+1,none⟩=some (.string f.name):=hsf.cell (j:=1) rfl
    have c2:wr.cell? ⟨gf,j*7+2,none⟩=some (.string f.kind):=hsf.cell (j:=2) rfl
    have c3:wr.cell? ⟨gf,j*7+3,none⟩=some (.string f.base):=hsf.cell (j:=3) rfl
    have c4:wr.cell? ⟨gf,j*7+4,none⟩=some (.int .i64 f.numberAt):=hsf.cell (j:=4) rfl
    have c5:wr.cell? ⟨gf,j*7+5,none⟩=some (.int .i64 f.nameAt):=hsf.cell (j:=5) rfl
    have c6:wr.cell? ⟨gf,j*7+6,none⟩=some (.int .i64 f.bV):=hsf.cell (j:=6) rfl
    have HF:=hid hf
    have O1:=hol rfl
    clear hol
    have hcl:=HC.out.seg.lt
    have Vq:(cb=wr.heap.size)=False:=by simp;omega
    have Vr:(wr.heap.size=cb)=False:=by simp;omega
    have afG:(wr.alloc (.cells #[.int .i64 f.number,.string f.name,.string f.kind,.string f.base,.int .i64 f.numberAt,.int .i64 f.nameAt,.int .i64 f.bV] 95)).cell? ⟨wr.heap.size,1,none⟩=some (.string f.name):=by simp
    obtain⟨fn,hfn⟩:∃ fn:Nat,f.number=(fn:Int):=⟨f.number.toNat,by have:=HYn.out f hfm;omega⟩
    have ac0:(wr.alloc (.cells #[.int .i64 f.number,.string f.name,.string f.kind,.string f.base,.int .i64 f.numberAt,.int .i64 f.nameAt,.int .i64 f.bV] 95)).cell? ⟨wr.heap.size,0,none⟩=some (.int .i64 (fn:Int)):=by rw[← hfn];simp
    have aau:(wr.alloc (.cells #[.int .i64 f.number,.string f.name,.string f.kind,.string f.base,.int .i64 f.numberAt,.int .i64 f.nameAt,.int .i64 f.bV] 95)).cell? ⟨wr.heap.size,2,none⟩=some (.string f.kind):=by simp
    have ac1:(wr.alloc (.cells #[.int .i64 f.number,.string f.name,.string f.kind,.string f.base,.int .i64 f.numberAt,.int .i64 f.nameAt,.int .i64 f.bV] 95)).cell? ⟨wr.heap.size,3,none⟩=some (.string f.base):=by simp
    have iV:But cb wr (wr.alloc (.cells #[.int .i64 f.number,.string f.name,.string f.kind,.string f.base,.int .i64 f.numberAt,.int .i64 f.nameAt,.int .i64 f.bV] 95)):=But.dJ ((Below.refl _ _).alloc (Nat.le_refl _) _)
    have YC:=hid (show Cu (wr.alloc (.cells #[.int .i64 f.number,.string f.name,.string f.kind,.string f.base,.int .i64 f.numberAt,.int .i64 f.nameAt,.int .i64 f.bV] 95)) cb (.slice la ll lc) s k true (d+1) from HC.out.same (((Below.refl _ _).alloc (Nat.le_refl _) _).block cb HC.out.seg.lt))
    have HBA:=hid (HB.out.but HC.out.seg (by decide) iV)
    have V4:=jI.trans iV
    have I5:wr.heap.size<(wr.alloc (.cells #[.int .i64 f.number,.string f.name,.string f.kind,.string f.base,.int .i64 f.numberAt,.int .i64 f.nameAt,.int .i64 f.bV] 95)).heap.size:=by simp
    have ajr:=HYs.out f hfm
    have ajs:fn≤99:=by have:=HYn.out f hfm;omega
    have Zt:=hid (show (uj f).number=fn from by show f.number.toNat=fn;rw[hfn];rfl)
    clear hfn
    have ajt:¬ 9223372036854775807<f.name.size+1:=by omega
    have ZA:=hid (show (fs.map uj)[j]? = some (uj f) by rw[List.getElem?_map,HF.out];rfl)
    clear hsf hvf hf
    by_cases hm0:m=0
    ·subst hm0
     go_wp2_with fail
     generalize (wr.alloc (.cells #[.int .i64 f.number,.string f.name,.string f.kind,.string f.base,.int .i64 f.numberAt,.int .i64 f.nameAt,.int .i64 f.bV] 95))=wb at *
     refine(yO wb cb la ll lc s (f.name++ByteArray.mk #[58]) k true (d+1) YC.out hs (by rw[tC];omega)).mono ?_;rintro e w2 ⟨rfl,hb2,hc2⟩
     rw[VZ] at hc2 ⊢
     rw[tC] at hc2
     have HB2:=hid (HBA.out.but YC.out.seg (by decide) hb2)
     have bG:=V4.trans hb2
     have afH:=hb2.size
     have n2:w2.cell? ⟨wr.heap.size,2,none⟩=some (.string f.kind):=(World.cell?_of_block (w:=wb) (hb2.block wr.heap.size I5 (by omega))).trans aau
     have n0:w2.cell? ⟨wr.heap.size,0,none⟩=some (.int .i64 (fn:Int)):=(World.cell?_of_block (w:=wb) (hb2.block wr.heap.size I5 (by omega))).trans ac0
     have n3:w2.cell? ⟨wr.heap.size,3,none⟩=some (.string f.base):=(World.cell?_of_block (w:=wb) (hb2.block wr.heap.size I5 (by omega))).trans ac1
     cases hr2:(aK (f.name.toList++[58]) (aC s k)).isSome with
     | false=>
      rw[hr2] at hc2
      have HC2:=hid (show Cu w2 cb (.slice la ll lc) s k true (d+1) from hc2)
      have V5:=hid (show aK (Ef 0 (uj f)) (aC s k)=none from kK hr2)
      clear hc2 hb2
      have g2:=HC2.out.seg.cell (j:=2) rfl
      have gf2:=HC2.out.seg.frozen 2
      have g3:=HC2.out.seg.cell (j:=3) rfl
      have gf3:=HC2.out.seg.frozen 3
      simp only[Nat.zero_add] at g2 g3
      have LU:=hid (HB2.out.but HC2.out.seg (by decide) ((But.refl _ _).setCell 2 (.int .i64 k)))
      have V6:=hid (LU.out.but (HC2.out.put k (by omega)).seg (by decide) ((But.refl _ _).setCell 3 (.bool false)))
      cases hko:(f.kind.toList==[111,112,116]) with
      | true=>
       have HN:=hid ((HT.out.skip ZA.out V5.out).1 (I4 hko))
       go_wp2_with fail
       go_roundg (gk-1)
       case rel=>exact⟨j+1,k,0,out,true,hik,by omega,rfl,by omega,by go_num,hid (HC2.out.put k (by omega)),hid LU.out,fun _=>O1,OZ,hid HN.out,bG.setCell _ _⟩
       case measure=>omega
      | false=>
       have HN:=hid ((HT.out.skip ZA.out V5.out).2 (Eh hko))
       go_wp2_with fail
       go_roundg (gk-1)
       case rel=>exact⟨j+1,k,0,out,false,hik,by omega,rfl,by omega,by go_num,hid ((HC2.out.put k (by omega)).ji false),hid V6.out,fun h=>(by cases h),OZ,hid HN.out,(bG.setCell _ _).setCell _ _⟩
       case measure=>omega
     | true=>
      rw[hr2] at hc2
      have HC2:=hid (show Cu w2 cb (.slice la ll lc) s (k+(f.name.size+1)) true (d+1) from hc2)
      have HES:=hid (show aK (Ef 0 (uj f)) (aC s k)=some (aC s (k+(f.name.size+1))) from by have:=Ee hr2;rw[List.length_append,aB] at this;exact this)
      clear hc2 hb2
      have hle2:=HC2.out.le
      have afJ:wr.heap.size<w2.heap.size:=by omega
      have LV:=hid (HT.out.there ZA.out HES.out)
      cases hkl:(f.kind.toList==[108,105,115,116]) with
      | true=>
       have hsh:(uj f).shape=2:=by exact LP hkl
       go_wp2_with fail
       refine(HL.out w2 cb lo la ll lc s (k+(f.name.size+1)) f.base (HI0.out.but H0.out.seg bG) (by rw[← HD.out];exact HC2.out) (HE0.out.but bG hO) hO hs (HYb.out f hfm)).mono ?_
       rintro e w4 ⟨a4,c4,v4,k4,LK,rfl,hb4,jF,hc4,hk4,hl4,VW,mM⟩
       rw[← HD.out] at hc4
       have VX:=hc4.le
       have uo:=hid hc4
       have jh:=hid hb4
       have fA:=hid (HB2.out.but HC2.out.seg (by decide) jF)
       have fV:=bG.trans jF
       have JQ:=fV.size
       have aaw:=jF.size
       have vg:=hid (pK HB2.out hb4)
       have m0:w4.cell? ⟨wr.heap.size,0,none⟩=some (.int .i64 (fn:Int)):=(World.cell?_of_block (w:=w2) (jF.block wr.heap.size (by omega) (by omega))).trans n0
       have mD:=hid mM
       cases LK with
       | false=>
        have HN:=hid (show GL G (encR Y n).1 (encR Y n).2 (fs.map uj) s (j+1) k4 (0+1) (out++bU fn++aO v4) false from LV.out.1 (by rw[if_pos hsh];exact mD.out))
        clear LV mD mM hc4 hb4
        go_wp2_with fail
        refine(dP w4 w0.heap.size _ out fn fA.out (by omega) (by omega) (by omega)).mono ?_;rintro e w5 ⟨a5,c5,rfl,hb5,hg5⟩
        have jW:=hid (uo.out.grew (Below.refl _ _) fA.out hg5)
        have dR:=fV.grew (Below.refl _ _) fA.out hg5
        have jM:=hid hb5
        have vw:=hid (show gB w5 w2.heap.size (.slice a4 v4.length c4) v4 from au jh.out (fun g hg=>hg5.g.block g (jh.out.lt g hg).2 (fun e=>vg.out g e.symm hg)))
        have vC:=hid (show EX (.slice a5 (out++bU fn).length c5) (.slice a4 v4.length c4) from fun g h1 h2=>(by
         rcases hg5.b g h1 with e | e
         ·exact vg.out g e h2
         ·have:=(jh.out.lt g h2).2;omega))
        have JD:=hg5.g.size
        have wE:(out++bU fn).length≤out.length+1:=by rw[List.length_append];have:=iJ 0 fn (by omega);omega
        generalize out++bU fn=eU at *
        clear hb5 hg5
        go_wp2_with fail
        refine(dK w5 w0.heap.size _ _ _ eU v4 jM.out vw.out vC.out (by omega) (by omega) (by omega)).mono ?_;rintro e w6 ⟨a6,c6,rfl,hb6,uh⟩
        have Ej:=hid (jW.out.grew (Below.refl _ _) jM.out uh)
        have oK:=dR.grew (Below.refl _ _) jM.out uh
        have xJ:=hid hb6
        have LW:(eU++aO v4).length≤eU.length+v4.length+2:=by rw[List.length_append];have:=dN (b:=v4) (by omega);omega
        generalize eU++aO v4=out6 at *
        clear hb6 uh
        go_wp2_with fail
        go_roundg (gk-1)
        case rel=>exact⟨j+1,k4,0+1,out6,false,by omega,by omega,by go_num,by omega,by go_num,hid Ej.out,hid xJ.out,fun h=>(by cases h),by omega,hid HN.out,oK⟩
        case measure=>omega
       | true=>
        have VY:=hl4 rfl
        have HN:=hid (show GL G (encR Y n).1 (encR Y n).2 (fs.map uj) s (j+1) k4 (0+1) (out++bU fn++aO v4) true from by have:=LV.out.2 v4 k4 (by rw[if_pos hsh];exact mD.out);rw[Zt.out] at this;exact this)
        clear LV mD mM hc4 hb4
        go_wp2_with fail
        refine(dP w4 w0.heap.size _ out fn fA.out (by omega) (by omega) (by omega)).mono ?_;rintro e w5 ⟨a5,c5,rfl,hb5,hg5⟩
        have jW:=hid (uo.out.grew (Below.refl _ _) fA.out hg5)
        have dR:=fV.grew (Below.refl _ _) fA.out hg5
        have jM:=hid hb5
        have vw:=hid (show gB w5 w2.heap.size (.slice a4 v4.length c4) v4 from au jh.out (fun g hg=>hg5.g.block g (jh.out.lt g hg).2 (fun e=>vg.out g e.symm hg)))
        have vC:=hid (show EX (.slice a5 (out++bU fn).length c5) (.slice a4 v4.length c4) from fun g h1 h2=>(by
         rcases hg5.b g h1 with e | e
         ·exact vg.out g e h2
         ·have:=(jh.out.lt g h2).2;omega))
        have JD:=hg5.g.size
        have wE:(out++bU fn).length≤out.length+1:=by rw[List.length_append];have:=iJ 0 fn (by omega);omega
        generalize out++bU fn=eU at *
        clear hb5 hg5
        go_wp2_with fail
        refine(dK w5 w0.heap.size _ _ _ eU v4 jM.out vw.out vC.out (by omega) (by omega) (by omega)).mono ?_;rintro e w6 ⟨a6,c6,rfl,hb6,uh⟩
        have Ej:=hid (jW.out.grew (Below.refl _ _) jM.out uh)
        have oK:=dR.grew (Below.refl _ _) jM.out uh
        have xJ:=hid hb6
        have LW:(eU++aO v4).length≤eU.length+v4.length+2:=by rw[List.length_append];have:=dN (b:=v4) (by omega);omega
        generalize eU++aO v4=out6 at *
        clear hb6 uh
        go_wp2_with fail
        go_roundg (gk-1)
        case rel=>exact⟨j+1,k4,0+1,out6,true,by omega,by omega,by go_num,by omega,by go_num,hid Ej.out,hid xJ.out,fun _=>by omega,by omega,hid HN.out,oK⟩
        case measure=>omega
      | false=>
       have hsh:(uj f).shape≠2:=by exact GN hkl
       go_wp2_with fail
       refine(HV.out w2 cb lo la ll lc s (k+(f.name.size+1)) f.base (HI0.out.but H0.out.seg bG) (by rw[← HD.out];exact HC2.out) (HE0.out.but bG hO) hO hs (HYb.out f hfm)).mono ?_
       rintro e w4 ⟨a4,c4,v4,k4,LK,rfl,hb4,jF,hc4,hk4,hl4,VW,mM⟩
       rw[← HD.out] at hc4
       have VX:=hc4.le
       have uo:=hid hc4
       have jh:=hid hb4
       have fA:=hid (HB2.out.but HC2.out.seg (by decide) jF)
       have fV:=bG.trans jF
       have JQ:=fV.size
       have aaw:=jF.size
       have vg:=hid (pK HB2.out hb4)
       have m0:w4.cell? ⟨wr.heap.size,0,none⟩=some (.int .i64 (fn:Int)):=(World.cell?_of_block (w:=w2) (jF.block wr.heap.size (by omega) (by omega))).trans n0
       have mD:=hid mM
       cases LK with
       | false=>
        have HN:=hid (show GL G (encR Y n).1 (encR Y n).2 (fs.map uj) s (j+1) k4 (0+1) (out++bU fn++aO v4) false from LV.out.1 (by rw[if_neg hsh];exact mD.out))
        clear LV mD mM hc4 hb4
        go_wp2_with fail
        refine(dP w4 w0.heap.size _ out fn fA.out (by omega) (by omega) (by omega)).mono ?_;rintro e w5 ⟨a5,c5,rfl,hb5,hg5⟩
        have jW:=hid (uo.out.grew (Below.refl _ _) fA.out hg5)
        have dR:=fV.grew (Below.refl _ _) fA.out hg5
        have jM:=hid hb5
        have vw:=hid (show gB w5 w2.heap.size (.slice a4 v4.length c4) v4 from au jh.out (fun g hg=>hg5.g.block g (jh.out.lt g hg).2 (fun e=>vg.out g e.symm hg)))
        have vC:=hid (show EX (.slice a5 (out++bU fn).length c5) (.slice a4 v4.length c4) from fun g h1 h2=>(by
         rcases hg5.b g h1 with e | e
         ·exact vg.out g e h2
         ·have:=(jh.out.lt g h2).2;omega))
        have JD:=hg5.g.size
        have wE:(out++bU fn).length≤out.length+1:=by rw[List.length_append];have:=iJ 0 fn (by omega);omega
        generalize out++bU fn=eU at *
        clear hb5 hg5
        go_wp2_with fail
        refine(dK w5 w0.heap.size _ _ _ eU v4 jM.out vw.out vC.out (by omega) (by omega) (by omega)).mono ?_;rintro e w6 ⟨a6,c6,rfl,hb6,uh⟩
        have Ej:=hid (jW.out.grew (Below.refl _ _) jM.out uh)
        have oK:=dR.grew (Below.refl _ _) jM.out uh
        have xJ:=hid hb6
        have LW:(eU++aO v4).length≤eU.length+v4.length+2:=by rw[List.length_append];have:=dN (b:=v4) (by omega);omega
        generalize eU++aO v4=out6 at *
        clear hb6 uh
        go_wp2_with fail
        go_roundg (gk-1)
        case rel=>exact⟨j+1,k4,0+1,out6,false,by omega,by omega,by go_num,by omega,by go_num,hid Ej.out,hid xJ.out,fun h=>(by cases h),by omega,hid HN.out,oK⟩
        case measure=>omega
       | true=>
        have VY:=hl4 rfl
        have HN:=hid (show GL G (encR Y n).1 (encR Y n).2 (fs.map uj) s (j+1) k4 (0+1) (out++bU fn++aO v4) true from by have:=LV.out.2 v4 k4 (by rw[if_neg hsh];exact mD.out);rw[Zt.out] at this;exact this)
        clear LV mD mM hc4 hb4
        go_wp2_with fail
        refine(dP w4 w0.heap.size _ out fn fA.out (by omega) (by omega) (by omega)).mono ?_;rintro e w5 ⟨a5,c5,rfl,hb5,hg5⟩
        have jW:=hid (uo.out.grew (Below.refl _ _) fA.out hg5)
        have dR:=fV.grew (Below.refl _ _) fA.out hg5
        have jM:=hid hb5
        have vw:=hid (show gB w5 w2.heap.size (.slice a4 v4.length c4) v4 from au jh.out (fun g hg=>hg5.g.block g (jh.out.lt g hg).2 (fun e=>vg.out g e.symm hg)))
        have vC:=hid (show EX (.slice a5 (out++bU fn).length c5) (.slice a4 v4.length c4) from fun g h1 h2=>(by
         rcases hg5.b g h1 with e | e
         ·exact vg.out g e h2
         ·have:=(jh.out.lt g h2).2;omega))
        have JD:=hg5.g.size
        have wE:(out++bU fn).length≤out.length+1:=by rw[List.length_append];have:=iJ 0 fn (by omega);omega
        generalize out++bU fn=eU at *
        clear hb5 hg5
        go_wp2_with fail
        refine(dK w5 w0.heap.size _ _ _ eU v4 jM.out vw.out vC.out (by omega) (by omega) (by omega)).mono ?_;rintro e w6 ⟨a6,c6,rfl,hb6,uh⟩
        have Ej:=hid (jW.out.grew (Below.refl _ _) jM.out uh)
        have oK:=dR.grew (Below.refl _ _) jM.out uh
        have xJ:=hid hb6
        have LW:(eU++aO v4).length≤eU.length+v4.length+2:=by rw[List.length_append];have:=dN (b:=v4) (by omega);omega
        generalize eU++aO v4=out6 at *
        clear hb6 uh
        go_wp2_with fail
        go_roundg (gk-1)
        case rel=>exact⟨j+1,k4,0+1,out6,true,by omega,by omega,by go_num,by omega,by go_num,hid Ej.out,hid xJ.out,fun _=>by omega,by omega,hid HN.out,oK⟩
        case measure=>omega
    ·have acY:¬ (m:Int)=0:=by omega
     have aju:((m:Int)==0)=false:=by simp;omega
     have ajv:decide ((m:Int)=0)=false:=by simp;omega
     go_wp2_with fail
     generalize (wr.alloc (.cells #[.int .i64 f.number,.string f.name,.string f.kind,.string f.base,.int .i64 f.numberAt,.int .i64 f.nameAt,.int .i64 f.bV] 95))=wb at *
     refine(yO wb cb la ll lc s (ByteArray.mk #[44]) k true (d+1) YC.out hs (by decide)).mono ?_;rintro e w3 ⟨rfl,hb3,hc3⟩
     rw[OY] at hc3 ⊢
     have aaq:(ByteArray.mk #[44]).size=1:=rfl
     rw[aaq] at hc3
     cases hr3:(aK [44] (aC s k)).isSome with
     | false=>
      rw[hr3] at hc3
      obtain⟨w2,hw2⟩:∃ w2,w2=w3:=⟨_,rfl⟩
      rw[← hw2] at hb3 hc3
      have hb2:=hb3
      have HC2:=hid (show Cu w2 cb (.slice la ll lc) s k true (d+1) from hc3)
      have HB2:=hid (HBA.out.but YC.out.seg (by decide) hb2)
      have bG:=V4.trans hb2
      have n2:w2.cell? ⟨wr.heap.size,2,none⟩=some (.string f.kind):=(World.cell?_of_block (w:=wb) (hb2.block wr.heap.size I5 (by omega))).trans aau
      have V5:=hid (show aK (Ef m (uj f)) (aC s k)=none from(by
       unfold Ef
       rw[if_neg (by simp[hm0]),List.append_assoc,vk,nY hr3];rfl))
      subst hw2
      clear hc3 hb3 hb2
      have g2:=HC2.out.seg.cell (j:=2) rfl
      have gf2:=HC2.out.seg.frozen 2
      have g3:=HC2.out.seg.cell (j:=3) rfl
      have gf3:=HC2.out.seg.frozen 3
      simp only[Nat.zero_add] at g2 g3
      have LU:=hid (HB2.out.but HC2.out.seg (by decide) ((But.refl _ _).setCell 2 (.int .i64 k)))
      have V6:=hid (LU.out.but (HC2.out.put k (by omega)).seg (by decide) ((But.refl _ _).setCell 3 (.bool false)))
      cases hko:(f.kind.toList==[111,112,116]) with
      | true=>
       have HN:=hid ((HT.out.skip ZA.out V5.out).1 (I4 hko))
       go_wp2_with fail
       go_roundg (gk-1)
       case rel=>exact⟨j+1,k,m,out,true,hik,by omega,rfl,by omega,by go_num,hid (HC2.out.put k (by omega)),hid LU.out,fun _=>O1,OZ,hid HN.out,bG.setCell _ _⟩
       case measure=>omega
      | false=>
       have HN:=hid ((HT.out.skip ZA.out V5.out).2 (Eh hko))
       go_wp2_with fail
       go_roundg (gk-1)
       case rel=>exact⟨j+1,k,m,out,false,hik,by omega,rfl,by omega,by go_num,hid ((HC2.out.put k (by omega)).ji false),hid V6.out,fun h=>(by cases h),OZ,hid HN.out,(bG.setCell _ _).setCell _ _⟩
       case measure=>omega
     | true=>
      rw[hr3] at hc3
      have JE:=hid (show Cu w3 cb (.slice la ll lc) s (k+1) true (d+1) from hc3)
      have HB3:=hid (HBA.out.but YC.out.seg (by decide) hb3)
      have o7:=V4.trans hb3
      have aax:wr.heap.size<w3.heap.size:=Nat.lt_of_lt_of_le I5 hb3.size
      have o2:w3.cell? ⟨wr.heap.size,1,none⟩=some (.string f.name):=(World.cell?_of_block (w:=wb) (hb3.block wr.heap.size I5 (by omega))).trans afG
      have hle3:=JE.out.le
      clear hc3
      go_wp2_with fail
      refine(yO w3 cb la ll lc s (f.name++ByteArray.mk #[58]) (k+1) true (d+1) JE.out hs (by rw[tC];omega)).mono ?_;rintro e w2 ⟨rfl,hb2,hc2⟩
      rw[VZ] at hc2 ⊢
      rw[tC] at hc2
      have HB2:=hid (HB3.out.but JE.out.seg (by decide) hb2)
      have bG:=o7.trans hb2
      have afH:=hb2.size
      have n2:w2.cell? ⟨wr.heap.size,2,none⟩=some (.string f.kind):=(World.cell?_of_block (w:=w3) (hb2.block wr.heap.size aax (by omega))).trans ((World.cell?_of_block (w:=wb) (hb3.block wr.heap.size I5 (by omega))).trans aau)
      have n0:w2.cell? ⟨wr.heap.size,0,none⟩=some (.int .i64 (fn:Int)):=(World.cell?_of_block (w:=w3) (hb2.block wr.heap.size aax (by omega))).trans ((World.cell?_of_block (w:=wb) (hb3.block wr.heap.size I5 (by omega))).trans ac0)
      have n3:w2.cell? ⟨wr.heap.size,3,none⟩=some (.string f.base):=(World.cell?_of_block (w:=w3) (hb2.block wr.heap.size aax (by omega))).trans ((World.cell?_of_block (w:=wb) (hb3.block wr.heap.size I5 (by omega))).trans ac1)
      cases hr2:(aK (f.name.toList++[58]) (aC s (k+1))).isSome with
      | false=>
       rw[hr2] at hc2
       have HC2:=hid (show Cu w2 cb (.slice la ll lc) s (k+1) true (d+1) from hc2)
       have V5:=hid (show aK (Ef m (uj f)) (aC s k)=none from(by
        unfold Ef
        rw[if_neg (by simp[hm0]),List.append_assoc,vk,nZ hr3];exact kK hr2))
       clear hc2 hb2
       have g2:=HC2.out.seg.cell (j:=2) rfl
       have gf2:=HC2.out.seg.frozen 2
       have g3:=HC2.out.seg.cell (j:=3) rfl
       have gf3:=HC2.out.seg.frozen 3
       simp only[Nat.zero_add] at g2 g3
       have LU:=hid (HB2.out.but HC2.out.seg (by decide) ((But.refl _ _).setCell 2 (.int .i64 k)))
       have V6:=hid (LU.out.but (HC2.out.put k (by omega)).seg (by decide) ((But.refl _ _).setCell 3 (.bool false)))
       cases hko:(f.kind.toList==[111,112,116]) with
       | true=>
        have HN:=hid ((HT.out.skip ZA.out V5.out).1 (I4 hko))
        go_wp2_with fail
        go_roundg (gk-1)
        case rel=>exact⟨j+1,k,m,out,true,hik,by omega,rfl,by omega,by go_num,hid (HC2.out.put k (by omega)),hid LU.out,fun _=>O1,OZ,hid HN.out,bG.setCell _ _⟩
        case measure=>omega
       | false=>
        have HN:=hid ((HT.out.skip ZA.out V5.out).2 (Eh hko))
        go_wp2_with fail
        go_roundg (gk-1)
        case rel=>exact⟨j+1,k,m,out,false,hik,by omega,rfl,by omega,by go_num,hid ((HC2.out.put k (by omega)).ji false),hid V6.out,fun h=>(by cases h),OZ,hid HN.out,(bG.setCell _ _).setCell _ _⟩
        case measure=>omega
      | true=>
       rw[hr2] at hc2
       have HC2:=hid (show Cu w2 cb (.slice la ll lc) s ((k+1)+(f.name.size+1)) true (d+1) from hc2)
       have HES:=hid (show aK (Ef m (uj f)) (aC s k)=some (aC s ((k+1)+(f.name.size+1))) from(by
        unfold Ef
        rw[if_neg (by simp[hm0]),List.append_assoc,vk,nZ hr3];have:=Ee hr2;rw[List.length_append,aB] at this;exact this))
       clear hc2 hb2
       have hle2:=HC2.out.le
       have afJ:wr.heap.size<w2.heap.size:=by omega
       have LV:=hid (HT.out.there ZA.out HES.out)
       cases hkl:(f.kind.toList==[108,105,115,116]) with
       | true=>
        have hsh:(uj f).shape=2:=by exact LP hkl
        go_wp2_with fail
        refine(HL.out w2 cb lo la ll lc s ((k+1)+(f.name.size+1)) f.base (HI0.out.but H0.out.seg bG) (by rw[← HD.out];exact HC2.out) (HE0.out.but bG hO) hO hs (HYb.out f hfm)).mono ?_
        rintro e w4 ⟨a4,c4,v4,k4,LK,rfl,hb4,jF,hc4,hk4,hl4,VW,mM⟩
        rw[← HD.out] at hc4
        have VX:=hc4.le
        have uo:=hid hc4
        have jh:=hid hb4
        have fA:=hid (HB2.out.but HC2.out.seg (by decide) jF)
        have fV:=bG.trans jF
        have JQ:=fV.size
        have aaw:=jF.size
        have vg:=hid (pK HB2.out hb4)
        have m0:w4.cell? ⟨wr.heap.size,0,none⟩=some (.int .i64 (fn:Int)):=(World.cell?_of_block (w:=w2) (jF.block wr.heap.size (by omega) (by omega))).trans n0
        have mD:=hid mM
        cases LK with
        | false=>
         have HN:=hid (show GL G (encR Y n).1 (encR Y n).2 (fs.map uj) s (j+1) k4 (m+1) (out++bU fn++aO v4) false from LV.out.1 (by rw[if_pos hsh];exact mD.out))
         clear LV mD mM hc4 hb4
         go_wp2_with fail
         refine(dP w4 w0.heap.size _ out fn fA.out (by omega) (by omega) (by omega)).mono ?_;rintro e w5 ⟨a5,c5,rfl,hb5,hg5⟩
         have jW:=hid (uo.out.grew (Below.refl _ _) fA.out hg5)
         have dR:=fV.grew (Below.refl _ _) fA.out hg5
         have jM:=hid hb5
         have vw:=hid (show gB w5 w2.heap.size (.slice a4 v4.length c4) v4 from au jh.out (fun g hg=>hg5.g.block g (jh.out.lt g hg).2 (fun e=>vg.out g e.symm hg)))
         have vC:=hid (show EX (.slice a5 (out++bU fn).length c5) (.slice a4 v4.length c4) from fun g h1 h2=>(by
          rcases hg5.b g h1 with e | e
          ·exact vg.out g e h2
          ·have:=(jh.out.lt g h2).2;omega))
         have JD:=hg5.g.size
         have wE:(out++bU fn).length≤out.length+1:=by rw[List.length_append];have:=iJ 0 fn (by omega);omega
         generalize out++bU fn=eU at *
         clear hb5 hg5
         go_wp2_with fail
         refine(dK w5 w0.heap.size _ _ _ eU v4 jM.out vw.out vC.out (by omega) (by omega) (by omega)).mono ?_;rintro e w6 ⟨a6,c6,rfl,hb6,uh⟩
         have Ej:=hid (jW.out.grew (Below.refl _ _) jM.out uh)
         have oK:=dR.grew (Below.refl _ _) jM.out uh
         have xJ:=hid hb6
         have LW:(eU++aO v4).length≤eU.length+v4.length+2:=by rw[List.length_append];have:=dN (b:=v4) (by omega);omega
         generalize eU++aO v4=out6 at *
         clear hb6 uh
         go_wp2_with fail
         go_roundg (gk-1)
         case rel=>exact⟨j+1,k4,m+1,out6,false,by omega,by omega,by go_num,by omega,by go_num,hid Ej.out,hid xJ.out,fun h=>(by cases h),by omega,hid HN.out,oK⟩
         case measure=>omega
        | true=>
         have VY:=hl4 rfl
         have HN:=hid (show GL G (encR Y n).1 (encR Y n).2 (fs.map uj) s (j+1) k4 (m+1) (out++bU fn++aO v4) true from by have:=LV.out.2 v4 k4 (by rw[if_pos hsh];exact mD.out);rw[Zt.out] at this;exact this)
         clear LV mD mM hc4 hb4
         go_wp2_with fail
         refine(dP w4 w0.heap.size _ out fn fA.out (by omega) (by omega) (by omega)).mono ?_;rintro e w5 ⟨a5,c5,rfl,hb5,hg5⟩
         have jW:=hid (uo.out.grew (Below.refl _ _) fA.out hg5)
         have dR:=fV.grew (Below.refl _ _) fA.out hg5
         have jM:=hid hb5
         have vw:=hid (show gB w5 w2.heap.size (.slice a4 v4.length c4) v4 from au jh.out (fun g hg=>hg5.g.block g (jh.out.lt g hg).2 (fun e=>vg.out g e.symm hg)))
         have vC:=hid (show EX (.slice a5 (out++bU fn).length c5) (.slice a4 v4.length c4) from fun g h1 h2=>(by
          rcases hg5.b g h1 with e | e
          ·exact vg.out g e h2
          ·have:=(jh.out.lt g h2).2;omega))
         have JD:=hg5.g.size
         have wE:(out++bU fn).length≤out.length+1:=by rw[List.length_append];have:=iJ 0 fn (by omega);omega
         generalize out++bU fn=eU at *
         clear hb5 hg5
         go_wp2_with fail
         refine(dK w5 w0.heap.size _ _ _ eU v4 jM.out vw.out vC.out (by omega) (by omega) (by omega)).mono ?_;rintro e w6 ⟨a6,c6,rfl,hb6,uh⟩
         have Ej:=hid (jW.out.grew (Below.refl _ _) jM.out uh)
         have oK:=dR.grew (Below.refl _ _) jM.out uh
         have xJ:=hid hb6
         have LW:(eU++aO v4).length≤eU.length+v4.length+2:=by rw[List.length_append];have:=dN (b:=v4) (by omega);omega
         generalize eU++aO v4=out6 at *
         clear hb6 uh
         go_wp2_with fail
         go_roundg (gk-1)
         case rel=>exact⟨j+1,k4,m+1,out6,true,by omega,by omega,by go_num,by omega,by go_num,hid Ej.out,hid xJ.out,fun _=>by omega,by omega,hid HN.out,oK⟩
         case measure=>omega
       | false=>
        have hsh:(uj f).shape≠2:=by exact GN hkl
        go_wp2_with fail
        refine(HV.out w2 cb lo la ll lc s ((k+1)+(f.name.size+1)) f.base (HI0.out.but H0.out.seg bG) (by rw[← HD.out];exact HC2.out) (HE0.out.but bG hO) hO hs (HYb.out f hfm)).mono ?_
        rintro e w4 ⟨a4,c4,v4,k4,LK,rfl,hb4,jF,hc4,hk4,hl4,VW,mM⟩
        rw[← HD.out] at hc4
        have VX:=hc4.le
        have uo:=hid hc4
        have jh:=hid hb4
        have fA:=hid (HB2.out.but HC2.out.seg (by decide) jF)
        have fV:=bG.trans jF
        have JQ:=fV.size
        have aaw:=jF.size
        have vg:=hid (pK HB2.out hb4)
        have m0:w4.cell? ⟨wr.heap.size,0,none⟩=some (.int .i64 (fn:Int)):=(World.cell?_of_block (w:=w2) (jF.block wr.heap.size (by omega) (by omega))).trans n0
        have mD:=hid mM
        cases LK with
        | false=>
         have HN:=hid (show GL G (encR Y n).1 (encR Y n).2 (fs.map uj) s (j+1) k4 (m+1) (out++bU fn++aO v4) false from LV.out.1 (by rw[if_neg hsh];exact mD.out))
         clear LV mD mM hc4 hb4
         go_wp2_with fail
         refine(dP w4 w0.heap.size _ out fn fA.out (by omega) (by omega) (by omega)).mono ?_;rintro e w5 ⟨a5,c5,rfl,hb5,hg5⟩
         have jW:=hid (uo.out.grew (Below.refl _ _) fA.out hg5)
         have dR:=fV.grew (Below.refl _ _) fA.out hg5
         have jM:=hid hb5
         have vw:=hid (show gB w5 w2.heap.size (.slice a4 v4.length c4) v4 from au jh.out (fun g hg=>hg5.g.block g (jh.out.lt g hg).2 (fun e=>vg.out g e.symm hg)))
         have vC:=hid (show EX (.slice a5 (out++bU fn).length c5) (.slice a4 v4.length c4) from fun g h1 h2=>(by
          rcases hg5.b g h1 with e | e
          ·exact vg.out g e h2
          ·have:=(jh.out.lt g h2).2;omega))
         have JD:=hg5.g.size
         have wE:(out++bU fn).length≤out.length+1:=by rw[List.length_append];have:=iJ 0 fn (by omega);omega
         generalize out++bU fn=eU at *
         clear hb5 hg5
         go_wp2_with fail
         refine(dK w5 w0.heap.size _ _ _ eU v4 jM.out vw.out vC.out (by omega) (by omega) (by omega)).mono ?_;rintro e w6 ⟨a6,c6,rfl,hb6,uh⟩
         have Ej:=hid (jW.out.grew (Below.refl _ _) jM.out uh)
         have oK:=dR.grew (Below.refl _ _) jM.out uh
         have xJ:=hid hb6
         have LW:(eU++aO v4).length≤eU.length+v4.length+2:=by rw[List.length_append];have:=dN (b:=v4) (by omega);omega
         generalize eU++aO v4=out6 at *
         clear hb6 uh
         go_wp2_with fail
         go_roundg (gk-1)
         case rel=>exact⟨j+1,k4,m+1,out6,false,by omega,by omega,by go_num,by omega,by go_num,hid Ej.out,hid xJ.out,fun h=>(by cases h),by omega,hid HN.out,oK⟩
         case measure=>omega
        | true=>
         have VY:=hl4 rfl
         have HN:=hid (show GL G (encR Y n).1 (encR Y n).2 (fs.map uj) s (j+1) k4 (m+1) (out++bU fn++aO v4) true from by have:=LV.out.2 v4 k4 (by rw[if_neg hsh];exact mD.out);rw[Zt.out] at this;exact this)
         clear LV mD mM hc4 hb4
         go_wp2_with fail
         refine(dP w4 w0.heap.size _ out fn fA.out (by omega) (by omega) (by omega)).mono ?_;rintro e w5 ⟨a5,c5,rfl,hb5,hg5⟩
         have jW:=hid (uo.out.grew (Below.refl _ _) fA.out hg5)
         have dR:=fV.grew (Below.refl _ _) fA.out hg5
         have jM:=hid hb5
         have vw:=hid (show gB w5 w2.heap.size (.slice a4 v4.length c4) v4 from au jh.out (fun g hg=>hg5.g.block g (jh.out.lt g hg).2 (fun e=>vg.out g e.symm hg)))
         have vC:=hid (show EX (.slice a5 (out++bU fn).length c5) (.slice a4 v4.length c4) from fun g h1 h2=>(by
          rcases hg5.b g h1 with e | e
          ·exact vg.out g e h2
          ·have:=(jh.out.lt g h2).2;omega))
         have JD:=hg5.g.size
         have wE:(out++bU fn).length≤out.length+1:=by rw[List.length_append];have:=iJ 0 fn (by omega);omega
         generalize out++bU fn=eU at *
         clear hb5 hg5
         go_wp2_with fail
         refine(dK w5 w0.heap.size _ _ _ eU v4 jM.out vw.out vC.out (by omega) (by omega) (by omega)).mono ?_;rintro e w6 ⟨a6,c6,rfl,hb6,uh⟩
         have Ej:=hid (jW.out.grew (Below.refl _ _) jM.out uh)
         have oK:=dR.grew (Below.refl _ _) jM.out uh
         have xJ:=hid hb6
         have LW:(eU++aO v4).length≤eU.length+v4.length+2:=by rw[List.length_append];have:=dN (b:=v4) (by omega);omega
         generalize eU++aO v4=out6 at *
         clear hb6 uh
         go_wp2_with fail
         go_roundg (gk-1)
         case rel=>exact⟨j+1,k4,m+1,out6,true,by omega,by omega,by go_num,by omega,by go_num,hid Ej.out,hid xJ.out,fun _=>by omega,by omega,hid HN.out,oK⟩
         case measure=>omega
  ·have oM:¬ (j:Int)<(fs.length:Int):=by omega
   have hdI:decide ((j:Int)<(fs.length:Int))=false:=by simp;omega
   go_wp2_with fail
   refine(iK wr cb la ll lc s (ByteArray.mk #[125]) k ok (d+1) HC.out hs (by decide)).mono ?_;rintro e w2 ⟨⟨v2,rfl⟩,hb2,hc2⟩
   rw[O5] at hc2
   generalize hr2:(aK [125] (aC s k)).isSome=r2 at *
   have V3:(ByteArray.mk #[125]).size=1:=rfl
   rw[V3] at hc2
   have HLS:=hid (HT.out.last (fun _=>by rw[List.length_map];omega) hr2)
   have HC2:=hid hc2
   have HB2:=hid (HB.out.but HC.out.seg (by decide) hb2)
   have bG:=jI.trans hb2
   have f4:=HC2.out.seg.cell (j:=4) rfl
   have ff4:=HC2.out.seg.frozen 4
   simp only[Nat.zero_add] at f4
   have HBx:=hid (HB2.out.but HC2.out.seg (by decide) ((But.refl _ _).setCell 4 (.int .i64 d)))
   clear hc2 hb2 hr2
   go_wp2_with fail
   go_ret
   refine⟨oa,oc,out,upTo r2 k 1,ok&&r2,rfl,own_base HBx.out hz0,(Zz.out.trans bG).setCell _ _,HC2.out.jU d,?_,?_,?_,HLS.out⟩
   ·cases r2<;>simp[upTo]<;>omega
   ·intro hh
    have hh1:=hol (by revert hh;generalize ok=x;cases x<;>simp)
    cases r2<;>simp[upTo]<;>omega
   ·cases r2<;>simp[upTo]<;>omega
end Go.Proofs.YtgalebcpagmohaaGreatDoor
