/- Package values: the encoder's field; package schemas: Type and Choices. -/
import Derived.Test.YtgalebcpagmohaaGreatDoorMPEncA
set_option maxHeartbeats 4000000
set_option maxRecDepth 100000
namespace Go.Proofs.YtgalebcpagmohaaGreatDoor
open Go.Proofs.Tryz
open Go.RowKit
theorem lG.back {spec:List UInt8→Got} {w wf:World} {eb:Nat} {lv:Value} {t:ByteArray} {e:Ending} {w':World} (h:lG spec wf eb lv t e w') (hb:Below w.heap.size w wf):lG spec w eb lv t e w':=by
 obtain⟨a,c,out,t',ok,h1,h2,h3,h4,h5,h6,h7⟩:=h
 exact⟨a,c,out,t',ok,h1,own_base h2 hb.size,(But.dJ hb).trans h3,h4,h5,h6,h7⟩
theorem lG.turn {spec spec':List UInt8→Got} {w:World} {eb:Nat} {lv:Value} {t:ByteArray} {e:Ending} {w':World} (h:lG spec w eb lv t e w') (hk:spec' t.toList=spec t.toList):lG spec' w eb lv t e w':=by
 obtain⟨a,c,out,t',ok,h1,h2,h3,h4,h5,h6,h7⟩:=h
 exact⟨a,c,out,t',ok,h1,h2,h3,h4,h5,h6,hk.trans h7⟩
theorem Pm {X:List bY} {n:Nat} (hV:Tc X n) (hL:Td X n) (w:World) (eb lo:Nat) (la:Option Addr) (ll lc:Nat) (t:ByteArray) (f:bD) (d:Int) (hd:d=(7:Int)-n) (hI:fQ w lo (.slice la ll lc) X) (h:Pe w eb (.slice la ll lc) t) (hE:Env w) (hO:Own eb) (hs:t.size≤400) :
  Calls Tryz.prog 268 #[.pointer (some ⟨eb,0,none⟩),.agg #[.int .i64 f.number,.int .i64 f.numberAt,.string f.name,.int .i64 f.nameAt,.int .i64 f.shape,.string f.base,.int .i64 f.bV],.int .i64 d] w (lG (if f.shape=2 then(oh X n).2 f.base.toList else(oh X n).1 f.base.toList) w eb (.slice la ll lc) t):=by
 subst hd
 by_cases h2:f.shape=2
 ·have h2B:((f.shape:Int)==2)=true:=by simp;omega
  rw[if_pos h2]
  have HC:=hid (fun w' (hb:Below w.heap.size w w')=>hL w' eb lo la ll lc t f.base (hI.below hb) (h.same (hb.block eb h.lt)) (hE.below hb) hO hs)
  clear hI h hE hV hL
  go_enter func268,ntmps268
  go_wp2_with fail
  refine(HC.out _ ((Below.refl _ _).alloc (Nat.le_refl _) _)).mono ?_;intro e w1 h1
  have HP:=hid (h1.back ((Below.refl _ _).alloc (Nat.le_refl _) _))
  obtain⟨a,c,out,t',ok,rfl,_⟩:=h1
  go_wp2_with fail
  go_ret2
  exact HP.out
 ·have h2B:((f.shape:Int)==2)=false:=by simp;omega
  rw[if_neg h2]
  have HC:=hid (fun w' (hb:Below w.heap.size w w')=>hV w' eb lo la ll lc t f.base (hI.below hb) (h.same (hb.block eb h.lt)) (hE.below hb) hO hs)
  clear hI h hE hV hL
  go_enter func268,ntmps268
  go_wp2_with fail
  refine(HC.out _ ((Below.refl _ _).alloc (Nat.le_refl _) _)).mono ?_;intro e w1 h1
  have HP:=hid (h1.back ((Below.refl _ _).alloc (Nat.le_refl _) _))
  obtain⟨a,c,out,t',ok,rfl,_⟩:=h1
  go_wp2_with fail
  go_ret2
  exact HP.out
theorem yV {w w0:World} {b:Nat} (d0 d1 d2 d3 d4 d5 d6 d7 d8:Value) (h:Below b w w0):Below b w (((((((((w0.setCell ⟨b,0,none⟩ d0).setCell ⟨b,1,none⟩ d1).setCell ⟨b,2,none⟩ d2).setCell ⟨b,3,none⟩ d3).setCell ⟨b,4,none⟩ d4).setCell ⟨b,5,none⟩ d5).setCell ⟨b,6,none⟩ d6).setCell ⟨b,7,none⟩ d7).setCell ⟨b,8,none⟩ d8) :=
 (((((((((h.setCell (p:=⟨b,0,none⟩) (Nat.le_refl _) d0).setCell (p:=⟨b,1,none⟩) (Nat.le_refl _) d1).setCell (p:=⟨b,2,none⟩) (Nat.le_refl _) d2).setCell (p:=⟨b,3,none⟩) (Nat.le_refl _) d3).setCell (p:=⟨b,4,none⟩) (Nat.le_refl _) d4).setCell (p:=⟨b,5,none⟩) (Nat.le_refl _) d5).setCell (p:=⟨b,6,none⟩) (Nat.le_refl _) d6).setCell (p:=⟨b,7,none⟩) (Nat.le_refl _) d7).setCell (p:=⟨b,8,none⟩) (Nat.le_refl _) d8)
theorem tH {w0:World} {b:Nat} {T:TypeId} {x0 x1 x2 x3 x4 x5 x6 x7 x8:Value} (d0 d1 d2 d3 d4 d5 d6 d7 d8:Value) (h:Seg w0 b T 0 [x0,x1,x2,x3,x4,x5,x6,x7,x8]):Seg (((((((((w0.setCell ⟨b,0,none⟩ d0).setCell ⟨b,1,none⟩ d1).setCell ⟨b,2,none⟩ d2).setCell ⟨b,3,none⟩ d3).setCell ⟨b,4,none⟩ d4).setCell ⟨b,5,none⟩ d5).setCell ⟨b,6,none⟩ d6).setCell ⟨b,7,none⟩ d7).setCell ⟨b,8,none⟩ d8) b T 0 [d0,d1,d2,d3,d4,d5,d6,d7,d8]:=by
 have k:=(Seg.set (Seg.set (Seg.set (Seg.set (Seg.set (Seg.set (Seg.set (Seg.set (Seg.set h 0 d0) 1 d1) 2 d2) 3 d3) 4 d4) 5 d5) 6 d6) 7 d7) 8 d8)
 simp only[Nat.zero_add] at k
 exact k
theorem MI {X:List bY} {name:List UInt8} (h:0≤bT X name):∃ (k:Nat) (x:bY),bT X name=(k:Int)∧X[k]? = some x∧(x.it.kind=0∨x.it.kind=1):=by
 unfold bT at h ⊢
 cases e:X.findIdx? (fun x=>iq name x.it) with
 | none=>rw[e] at h;simp at h
 | some k=>
  obtain⟨hlt,hm,_⟩:=List.findIdx?_eq_some_iff_getElem.1 e
  refine⟨k,X[k],rfl,List.getElem?_eq_getElem hlt,?_⟩
  simp only[iq,gZ,Bool.and_eq_true,Bool.or_eq_true,beq_iff_eq] at hm
  exact hm.1
def MJ (w:World) (X:List bY) (name:ByteArray) (e:Ending) (w':World):Prop :=
 Below w.heap.size w w'∧((bT X name.toList<0∧e=.returned (.tuple #[.agg #[.int .i64 0,.string ⟨#[]⟩,.int .i64 0,.slice none 0 0,.slice none 0 0,.string ⟨#[]⟩,.int .i64 0,.string ⟨#[]⟩,.int .i64 0],.bool false])) ∨
  ∃ (k:Nat) (x:bY) (n:Ap),bT X name.toList=(k:Int)∧X[k]? = some x∧(x.it.kind=0∨x.it.kind=1)∧x.vf=.slice n.fa x.it.fields.length n.fc∧x.vn=.slice n.na x.it.names.length n.nc ∧
   e=.returned (.tuple #[.agg #[.int .i64 x.it.kind,.string x.it.name.text,.int .i64 x.it.name.at_,.slice n.fa x.it.fields.length n.fc,.slice n.na x.it.names.length n.nc,.string n.bb,.int .i64 n.ba,.string n.ab,.int .i64 n.aa],.bool true]))
theorem Ew (w:World) (lo:Nat) (lv:Value) (X:List bY) (name:ByteArray) (h:fQ w lo lv X) (hn:Oh X) (hX:X.length≤400) :
  Calls Tryz.prog 225 #[lv,.string name] w (MJ w X name):=by
 obtain⟨la,lc,hlv⟩:∃ a c,lv=.slice a X.length c:=ak h.own
 subst hlv
 unfold MJ
 have H:=hid h
 have HN:=hid hn
 clear h hn
 go_enter func225,ntmps225
 go_wp2_with fail
 have hb0:Below w.heap.size w (w.alloc (.cells #[.int .i64 0,.string ⟨#[]⟩,.int .i64 0,.slice none 0 0,.slice none 0 0,.string ⟨#[]⟩,.int .i64 0,.string ⟨#[]⟩,.int .i64 0] 135)):=(Below.refl _ _).alloc (Nat.le_refl _) _
 refine(sW _ lo _ X name (H.out.below hb0) HN.out hX).mono ?_;rintro e w1 ⟨rfl,hb1'⟩
 have hb1:=hb0.trans (hb1'.mono hb0.size)
 have hsg:Seg w1 w.heap.size 135 0 [.int .i64 0,.string ⟨#[]⟩,.int .i64 0,.slice none 0 0,.slice none 0 0,.string ⟨#[]⟩,.int .i64 0,.string ⟨#[]⟩,.int .i64 0]:=(oI w _ _).same (hb1'.block _ (by simp))
 have r0:=hsg.cell (j:=0) rfl
 have r1:=hsg.cell (j:=1) rfl
 have r2:=hsg.cell (j:=2) rfl
 have r3:=hsg.cell (j:=3) rfl
 have r4:=hsg.cell (j:=4) rfl
 have r5:=hsg.cell (j:=5) rfl
 have r6:=hsg.cell (j:=6) rfl
 have r7:=hsg.cell (j:=7) rfl
 have r8:=hsg.cell (j:=8) rfl
 simp only[Nat.zero_add] at r0 r1 r2 r3 r4 r5 r6 r7 r8
 have hlt1:=hsg.lt
 have q0:=hsg.frozen 0
 have q1:=hsg.frozen 1
 have q2:=hsg.frozen 2
 have q3:=hsg.frozen 3
 have q4:=hsg.frozen 4
 have q5:=hsg.frozen 5
 have q6:=hsg.frozen 6
 have q7:=hsg.frozen 7
 have q8:=hsg.frozen 8
 have Ue:=hid hsg
 clear hsg hb1'
 by_cases hneg:bT X name.toList<0
 ·have Yz:=hid hneg
  go_wp2_with fail
  have hse:=tH (.int .i64 0) (.string ⟨#[]⟩) (.int .i64 0) (.slice none 0 0) (.slice none 0 0) (.string ⟨#[]⟩) (.int .i64 0) (.string ⟨#[]⟩) (.int .i64 0) Ue.out
  have z0:=hse.cell (j:=0) rfl
  have z1:=hse.cell (j:=1) rfl
  have z2:=hse.cell (j:=2) rfl
  have z3:=hse.cell (j:=3) rfl
  have z4:=hse.cell (j:=4) rfl
  have z5:=hse.cell (j:=5) rfl
  have z6:=hse.cell (j:=6) rfl
  have z7:=hse.cell (j:=7) rfl
  have z8:=hse.cell (j:=8) rfl
  simp only[Nat.zero_add] at z0 z1 z2 z3 z4 z5 z6 z7 z8
  refine bodyPost_ret (v:=.tuple #[.agg #[.int .i64 0,.string ⟨#[]⟩,.int .i64 0,.slice none 0 0,.slice none 0 0,.string ⟨#[]⟩,.int .i64 0,.string ⟨#[]⟩,.int .i64 0],.bool false]) (by simp[results,Tryz.results225,go_sem,z0,z1,z2,z3,z4,z5,z6,z7,z8]) rfl ⟨yV _ _ _ _ _ _ _ _ _ hb1,Or.inl ⟨Yz.out,rfl⟩⟩
 ·obtain⟨k,x,hk,hx,hkd⟩:=MI (X:=X) (name:=name.toList) (by omega)
  have HK:=hid hk
  rw[hk] at hneg ⊢
  have hlt:k<X.length:=iR hx
  obtain⟨g,cap,hv,hgl,hgs⟩:=dM H.out.own (by omega)
  obtain⟨rfl,rfl⟩:la=some ⟨g,0,none⟩∧lc=cap:=by simpa using hv
  obtain⟨n,hn⟩:=(H.out.below hb1).uM HN.out hx
  have hs:=hn.seg
  have HX:=hid hx
  have HVF:=hid hn.vf
  have HVN:=hid hn.vn
  have HKD:=hid hkd
  clear hx hv hn hk hkd
  have c0:=hs.cell (j:=0) rfl
  have c1:=hs.cell (j:=1) rfl
  have c2:=hs.cell (j:=2) rfl
  have c3:=hs.cell (j:=3) rfl
  have c4:=hs.cell (j:=4) rfl
  have c5:=hs.cell (j:=5) rfl
  have c6:=hs.cell (j:=6) rfl
  have c7:=hs.cell (j:=7) rfl
  have c8:=hs.cell (j:=8) rfl
  simp only[Nat.add_zero] at c0
  clear hs
  have hk0:¬ (k:Int)<0:=by omega
  clear hneg
  go_wp2_with fail
  have hse:=tH (.int .i64 x.it.kind) (.string x.it.name.text) (.int .i64 x.it.name.at_) (.slice n.fa x.it.fields.length n.fc) (.slice n.na x.it.names.length n.nc) (.string n.bb) (.int .i64 n.ba) (.string n.ab) (.int .i64 n.aa) Ue.out
  have z0:=hse.cell (j:=0) rfl
  have z1:=hse.cell (j:=1) rfl
  have z2:=hse.cell (j:=2) rfl
  have z3:=hse.cell (j:=3) rfl
  have z4:=hse.cell (j:=4) rfl
  have z5:=hse.cell (j:=5) rfl
  have z6:=hse.cell (j:=6) rfl
  have z7:=hse.cell (j:=7) rfl
  have z8:=hse.cell (j:=8) rfl
  simp only[Nat.zero_add] at z0 z1 z2 z3 z4 z5 z6 z7 z8
  refine bodyPost_ret (v:=.tuple #[.agg #[.int .i64 x.it.kind,.string x.it.name.text,.int .i64 x.it.name.at_,.slice n.fa x.it.fields.length n.fc,.slice n.na x.it.names.length n.nc,.string n.bb,.int .i64 n.ba,.string n.ab,.int .i64 n.aa],.bool true]) (by simp[results,Tryz.results225,go_sem,z0,z1,z2,z3,z4,z5,z6,z7,z8]) rfl ⟨yV _ _ _ _ _ _ _ _ _ hb1,Or.inr ⟨k,x,n,HK.out,HX.out,HKD.out,HVF.out,HVN.out,rfl⟩⟩
theorem Wu (a b:ByteArray):((a++b)++ByteArray.mk #[58]).toList=a.toList++b.toList++[58]:=by
 simp[ByteArray.toList_eq]
theorem Wv (b:Bool):(btw b).size≤1:=by cases b<;>decide
theorem Wx {p t t1:List UInt8} (h:(aK p t).isSome=true) (h1:t1=(aK p t).getD t):t=p++t1∧aK p t=some t1:=by
 cases e:aK p t with
 | none=>rw[e] at h;cases h
 | some r=>rw[e] at h1;simp at h1;subst h1;exact⟨vZ e,rfl⟩
theorem Wy {w w':World} {lo:Nat} {v v' u:Value} {L:List UInt8} (h:gB w lo u L) (ha:EX v u) (hg:Grew w w' v v'):EX v' u:=fun b h1 h3=>by
 rcases hg.b b h1 with h | hge
 ·exact ha b h h3
 ·have:=(h.lt b h3).2;omega
theorem WA {w w':World} {lo:Nat} {v v' u:Value} {L:List UInt8} (h:gB w lo u L) (ha:EX v u) (hg:Grew w w' v v'):gB w' lo u L :=
 au h (fun g hgk=>hg.g.block g (h.lt g hgk).2 (fun e=>ha g e.symm hgk))
theorem af4 {fs:List bD} {j:Nat} {f:bD} (h:fs[j]? = some f):(fs.map MH)[j]? = some (MH f):=by rw[List.getElem?_map,h];rfl
theorem Jb {X:List bY} {n:Nat} (hV:Tc X n) (hL:Td X n) (w:World) (eb lo:Nat) (la:Option Addr) (ll lc:Nat) (t:ByteArray) (fv:Value) (fs:List bD) (d:Int) (hd:d+1=(7:Int)-n) (hn6:n≤6) (hI:fQ w lo (.slice la ll lc) X) (h:Pe w eb (.slice la ll lc) t) (hE:Env w) (hO:Own eb) (hs:t.size≤400)
  (hF:w.ownsRow lo 278 7 fv fs.length (fs.flatMap fJ)) (hl:fs.length≤400) (hnum:∀ f∈fs,0≤f.number∧f.number≤99) (hnm:∀ f∈fs,1≤f.name.size∧f.name.size≤400) :
  Calls Tryz.prog 227 #[.pointer (some ⟨eb,0,none⟩),fv,.int .i64 d] w (lG (msgP (oh X n).1 (oh X n).2 (fs.map MH)) w eb (.slice la ll lc) t):=by
 unfold lG
 obtain⟨fa,fc,hfv⟩:∃ a c,fv=.slice a fs.length c:=ak hF
 subst hfv
 have hd6:¬ (6:Int)<d:=by omega
 have hdl:(0:Int)≤d:=by omega
 have hdu:d≤6:=by omega
 have HD:=hid hd
 clear hd
 have H:=hid h
 have HI:=hid hI
 have HE:=hid hE
 have HV:=hid hV
 have HL:=hid hL
 have HF:=hid hF
 have af5:=hid hnum
 have Cb:=hid hnm
 clear h hI hE hV hL hF hnum hnm
 obtain⟨G,hG⟩:∃ G,msgP (oh X n).1 (oh X n).2 (fs.map MH) t.toList=G:=⟨_,rfl⟩
 rw[hG]
 have HG:=hid (show G=(aK [123] t.toList).bind (fieldsGo (oh X n).1 (oh X n).2 (fs.map MH) true) by rw[← hG];rfl)
 clear hG
 go_enter func227,ntmps227
 go_wp2_with fail
 refine(take_any w eb la ll lc t (ByteArray.mk #[123]) H.out).mono ?_;rintro e w1 ⟨t1,rfl,hb1,hp1,ht1⟩
 rw[Zy] at ht1 ⊢
 have qo:=hid hp1
 have HT1:=hid ht1
 clear hp1 ht1
 cases hr:(aK [123] t.toList).isSome with
 | false=>
  have HR:=hid hr
  clear hr
  have hte:t1=t:=jG HR.out HT1.out
  subst hte
  go_wp2_with fail
  go_ret2
  exact⟨none,0,[],t1,false,rfl,World.ownsRow_nil _ _ _ _,hb1,qo.out,Nat.le_refl _,by simp,by rw[HG.out,kK HR.out];rfl⟩
 | true=>
  have SX:=hid (mF hr HT1.out)
  clear hr
  have hs1:t1.size<t.size:=by rw[← aB,← aB t,SX.out];simp
  have XV:=hid (show JF G (oh X n).1 (oh X n).2 (fs.map MH) t1.toList 0 true [] from by unfold JF;rw[HG.out,SX.out];simp[aK,List.isPrefixOf])
  have hz1:=hb1.size
  go_wp2_with fail
  go_loopg [8,9,11,12,13,23] fs.length (fun gk d8 b9 f11 x12 x13 i23 wr=>∃ (j:Nat) (first:Bool) (out:List UInt8) (tr:ByteArray),j+gk=fs.length∧i23=.int .i64 j∧b9=.string (btw first)∧tr.size≤t1.size∧out.length≤2*(t.size-tr.size)∧Hid (Pe wr eb (.slice la ll lc) tr)∧Hid (gB wr w.heap.size d8 out)∧But eb w wr∧Hid (JF G (oh X n).1 (oh X n).2 (fs.map MH) tr.toList j first out))
  case atStart=>exact⟨0,true,[],t1,by omega,rfl,rfl,Nat.le_refl _,by simp,hid qo.out,hid (World.ownsRow_nil _ _ _ _),hb1,hid XV.out⟩
  case round=>
   obtain⟨j,first,out,tr,hj,rfl,rfl,hle,hol,HP,HB,jI,HS⟩:=hrel
   obtain⟨oa,oc,hov⟩:∃ a c,u8=.slice a out.length c:=ak HB.out
   subst hov
   have hsz:=jI.size
   by_cases hlt:j<fs.length
   ·obtain⟨f,hf⟩:∃ f,fs[j]? = some f:=⟨fs[j],List.getElem?_eq_getElem hlt⟩
    have hfm:=List.mem_of_getElem? hf
    obtain⟨hn0,af6⟩:=af5.out f hfm
    obtain⟨hm1,ac7⟩:=Cb.out f hfm
    have HFr:=hid (au HF.out (fun g hg=>jI.block g (HF.out.lt g hg).2 (gK HF.out H.out (by decide) hg)):wr.ownsRow lo 278 7 (.slice fa fs.length fc) fs.length (fs.flatMap fJ))
    obtain⟨g,cap,hv,hgl,hgs,hsg⟩:=nU HFr.out hf
    obtain⟨rfl,rfl⟩:fa=some ⟨g,0,none⟩∧fc=cap:=by simpa using hv
    have Nj:=hid (af4 hf)
    obtain⟨num,numAt,name,nameAt,shape,base,bV⟩:=f
    simp only at hn0 af6 hm1 ac7
    obtain⟨fn,rfl⟩:∃ fn:Nat,num=(fn:Int):=⟨num.toNat,by omega⟩
    have c0:wr.cell? ⟨g,j*7,none⟩=some (.int .i64 fn):=hsg.cell (j:=0) rfl
    have c1:wr.cell? ⟨g,j*7+1,none⟩=some (.int .i64 numAt):=hsg.cell (j:=1) rfl
    have c2:wr.cell? ⟨g,j*7+2,none⟩=some (.string name):=hsg.cell (j:=2) rfl
    have c3:wr.cell? ⟨g,j*7+3,none⟩=some (.int .i64 nameAt):=hsg.cell (j:=3) rfl
    have c4:wr.cell? ⟨g,j*7+4,none⟩=some (.int .i64 shape):=hsg.cell (j:=4) rfl
    have c5:wr.cell? ⟨g,j*7+5,none⟩=some (.string base):=hsg.cell (j:=5) rfl
    have c6:wr.cell? ⟨g,j*7+6,none⟩=some (.int .i64 bV):=hsg.cell (j:=6) rfl
    have HKL:=hid (Wu (btw first) name)
    have ajR:=Wv first
    have HBL:=hid (Ws first)
    clear hsg hv hf hfm
    generalize hbw:btw first=bw at *
    have WB:=hid hbw
    clear hbw
    go_wp2_with fail
    clear c0 c1 c2 c3 c4 c5 c6
    have hba:Below wr.heap.size wr (wr.alloc (.cells #[.int .i64 fn,.int .i64 numAt,.string name,.int .i64 nameAt,.int .i64 shape,.string base,.int .i64 bV] 278)):=(Below.refl _ _).alloc (Nat.le_refl _) _
    have hsa:Seg (wr.alloc (.cells #[.int .i64 fn,.int .i64 numAt,.string name,.int .i64 nameAt,.int .i64 shape,.string base,.int .i64 bV] 278)) wr.heap.size 278 0 [.int .i64 fn,.int .i64 numAt,.string name,.int .i64 nameAt,.int .i64 shape,.string base,.int .i64 bV]:=oI wr _ _
    generalize (wr.alloc (.cells #[.int .i64 fn,.int .i64 numAt,.string name,.int .i64 nameAt,.int .i64 shape,.string base,.int .i64 bV] 278))=wa at *
    have HPa:=hid (HP.out.same (hba.block eb HP.out.lt))
    have HBa:=hid (HB.out.same hba)
    have hne:wr.heap.size≠eb:=by have:=HP.out.lt;omega
    refine(take_any wa eb la ll lc tr (bw++name++ByteArray.mk #[58]) HPa.out).mono ?_;rintro e w2 ⟨t2,rfl,hb2,hp2,ht2⟩
    rw[HKL.out] at ht2 ⊢
    have Jc:=hsa.same (hb2.block _ hsa.lt hne)
    have HB2:=hid (HBa.out.but (show Seg _ _ _ _ _ from HPa.out) (by decide) hb2)
    have bG:=(jI.trans (But.dJ hba)).trans hb2
    have HP2:=hid hp2
    have HT2:=hid ht2
    have hz2:=bG.size
    have d0:=Jc.cell (j:=0) rfl
    have d1:=Jc.cell (j:=1) rfl
    have d2:=Jc.cell (j:=2) rfl
    have d3:=Jc.cell (j:=3) rfl
    have d4:=Jc.cell (j:=4) rfl
    have d5:=Jc.cell (j:=5) rfl
    have d6:=Jc.cell (j:=6) rfl
    simp only[Nat.zero_add] at d0 d1 d2 d3 d4 d5 d6
    have ac8:=hid Jc
    clear hp2 ht2 hsa Jc
    cases hr2:(aK (bw.toList++name.toList++[58]) tr.toList).isSome with
    | false=>
     have hte:t2=tr:=jG hr2 HT2.out
     subst hte
     have V5:=hid (show aK ((if first then [] else [44])++name.toList++[58]) t2.toList=none by rw[← HBL.out];exact kK hr2)
     clear hr2
     by_cases hsh:shape=1
     ·have HN:=hid (HS.out.skip Nj.out V5.out hsh)
      subst hsh
      go_wp2_with fail
      go_roundg (gk-1)
      case rel=>exact⟨j+1,first,out,t2,by omega,by go_num,by rw[WB.out],hle,hol,hid HP2.out,hid HB2.out,bG,hid HN.out⟩
      case measure=>omega
     ·have HN:=hid (HS.out.lack Nj.out V5.out hsh)
      have ajS:((shape:Int)==1)=false:=by simp;omega
      go_wp2_with fail
      go_ret2
      exact⟨none,0,[],t2,false,rfl,World.ownsRow_nil _ _ _ _,bG,HP2.out,by omega,by simp,HN.out⟩
    | true=>
     obtain⟨hk1,hk2⟩:=Wx hr2 HT2.out
     have hs2:t2.size+name.size+1≤tr.size:=by
      have:=congrArg List.length hk1
      simp only[List.length_append,List.length_singleton,aB] at this
      omega
     have HVV:=hid (HS.out.value Nj.out (T1:=t2.toList) (by rw[← HBL.out];exact hk2))
     have HI2:=hid (HI.out.but H.out bG)
     have HE2:=hid (HE.out.but bG hO)
     clear hr2 hk1 hk2 HT2
     go_wp2_with fail
     refine(Pm HV.out HL.out w2 eb lo la ll lc t2 ⟨(fn:Int),numAt,name,nameAt,shape,base,bV⟩ (d+1) HD.out HI2.out HP2.out HE2.out hO (by omega)).mono ?_
     rintro e w4 ⟨a4,c4,v4,t4,LK,rfl,hb4,jF,wK,hs4,hl4,mM⟩
     have Uh:=hid wK
     have jh:=hid hb4
     have fA:=hid (HB2.out.but (show Seg _ _ _ _ _ from HP2.out) (by decide) jF)
     have sJ:=bG.trans jF
     have JQ:=sJ.size
     have vg:=hid (pK HB2.out hb4)
     have mD:=hid mM
     have yB:=ac8.out.same (jF.block _ ac8.out.lt hne)
     clear d0 d1 d2 d3 d4 d5 d6
     have d0:=yB.cell (j:=0) rfl
     simp only[Nat.zero_add] at d0
     clear wK hb4 mM yB
     cases LK with
     | false=>
      have HN:=hid (HVV.out.1 (by have:=mD.out;simp only[MH] at this ⊢;split at this<;>simp_all))
      clear HVV mD
      go_wp2_with fail
      go_ret2
      exact⟨none,0,[],t4,false,rfl,World.ownsRow_nil _ _ _ _,sJ,Uh.out,by omega,by simp,HN.out⟩
     | true=>
      have HN:=hid (HVV.out.2 v4 t4.toList (by have:=mD.out;simp only[MH] at this ⊢;split at this<;>simp_all))
      clear HVV mD
      go_wp2_with fail
      refine(jL w4 w.heap.size _ out fn fA.out (by omega) (by omega) JQ).mono ?_;rintro e w5 ⟨a5,c5,rfl,hb5,hg5⟩
      have wZ:=hid (Uh.out.grew (Below.refl _ _) fA.out hg5)
      have dR:=sJ.grew (Below.refl _ _) fA.out hg5
      have jM:=hid hb5
      have vw:=hid (WA jh.out vg.out hg5)
      have vC:=hid (Wy jh.out vg.out hg5)
      have wE:(out++bU fn).length≤out.length+1:=by rw[List.length_append,qR (by omega)];simp
      have HN5:=hid (show JF G (oh X n).1 (oh X n).2 (fs.map MH) t4.toList (j+1) false ((out++bU fn)++aO v4) from HN.out)
      generalize out++bU fn=eU at *
      have JD:=dR.size
      clear hb5 hg5 HN
      go_wp2_with fail
      refine(nD w5 w.heap.size _ _ _ eU v4 jM.out vw.out vC.out (by omega) (by omega) JD).mono ?_;rintro e w6 ⟨a6,c6,rfl,hb6,uh⟩
      have HP6:=hid (wZ.out.grew (Below.refl _ _) jM.out uh)
      have oK:=dR.grew (Below.refl _ _) jM.out uh
      have xJ:=hid hb6
      have LW:(eU++aO v4).length≤eU.length+v4.length+2:=by rw[List.length_append];have:=dN (b:=v4) (by omega);omega
      generalize eU++aO v4=out6 at *
      clear hb6 uh
      go_wp2_with fail
      go_roundg (gk-1)
      case rel=>exact⟨j+1,false,out6,t4,by omega,by go_num,rfl,by omega,by omega,hid HP6.out,hid xJ.out,oK,hid HN5.out⟩
      case measure=>omega
   ·have ac9:=hid (HS.out.shut (by rw[List.length_map];omega))
    go_wp2_with fail
    refine(take_any wr eb la ll lc tr (ByteArray.mk #[125]) HP.out).mono ?_;rintro e w2 ⟨t2,rfl,hb2,hp2,ht2⟩
    rw[O5] at ht2 ⊢
    have HP2:=hid hp2
    have HT2:=hid ht2
    have HB2:=hid (HB.out.but (show Seg _ _ _ _ _ from HP.out) (by decide) hb2)
    have bG:=jI.trans hb2
    clear hp2 ht2
    cases hr2:(aK [125] tr.toList).isSome with
    | true=>
     have MB:=hid (mF hr2 HT2.out)
     have hs2:t2.size<tr.size:=by rw[← aB,← aB tr,MB.out];simp
     clear hr2
     go_wp2_with fail
     go_ret2
     exact⟨oa,oc,out,t2,true,rfl,HB2.out,bG,HP2.out,by omega,by omega,by rw[ac9.out,MB.out];simp[aK,List.isPrefixOf]⟩
    | false=>
     have hte:t2=tr:=jG hr2 HT2.out
     subst hte
     have YG:=hid (kK hr2)
     clear hr2
     go_wp2_with fail
     go_ret2
     exact⟨oa,oc,out,t2,false,rfl,HB2.out,bG,HP2.out,by omega,by omega,by rw[ac9.out,YG.out];rfl⟩
def Qp (w:World) (L:List aF) (e:Ending) (w':World):Prop:=∃ (a:Option Addr) (c:Nat),e=.returned (.slice a L.length c)∧w'.ownsRow w.heap.size 9 1 (.slice a L.length c) L.length (L.map fun t=>aY t.text)∧Below w.heap.size w w'
theorem MK (w:World) (lo:Nat) (c0 c1 c2:Value) (fa na:Option Addr) (fl fc nc:Nat) (c5 c6 c7 c8:Value) (L:List aF) (h:w.ownsRow lo 131 2 (.slice na L.length nc) L.length (L.flatMap aA)) (hl:L.length≤400) :
  Calls Tryz.prog 226 #[.agg #[c0,c1,c2,.slice fa fl fc,.slice na L.length nc,c5,c6,c7,c8]] w (Qp w L):=by
 unfold Qp
 have H:=hid h
 clear h
 go_enter func226,ntmps226
 go_wp2_with fail
 have hb0:Below w.heap.size w (w.alloc (.cells #[c0,c1,c2,.slice fa fl fc,.slice na L.length nc,c5,c6,c7,c8] 135)):=(Below.refl _ _).alloc (Nat.le_refl _) _
 go_loopg [3,5,9] L.length (fun gk nv f i wr=>∃ k:Nat,k+gk=L.length∧i=.int .i64 k∧Hid (wr.ownsRow w.heap.size 9 1 nv k ((L.take k).map fun t=>aY t.text))∧Below w.heap.size w wr)
 case atStart=>exact⟨0,by omega,rfl,hid (World.ownsRow_nil _ _ _ _),hb0⟩
 case round=>
  obtain⟨k,hk,rfl,HO,hbel⟩:=hrel
  have hsz:=hbel.size
  by_cases hlt:k<L.length
  ·obtain⟨f,hf⟩:∃ f,L[k]? = some f:=⟨L[k],List.getElem?_eq_getElem hlt⟩
   obtain⟨ta,tc,uy⟩:∃ a c,u3=.slice a k c:=ak HO.out
   subst uy
   obtain⟨g,cap,hv,hgl,hgs,hs⟩:=zD (au H.out (fun g hg=>hbel.block g (H.out.lt g hg).2)) hf
   obtain⟨rfl,rfl⟩:na=some ⟨g,0,none⟩∧nc=cap:=by simpa using hv
   have HF:=hid (show (L.take (k+1)).map (fun t=>aY t.text)=(L.take k).map (fun t=>aY t.text)++[aY f.text] by rw[List.take_add_one,hf];simp)
   have e0:wr.cell? ⟨g,k*2,none⟩=some (.string f.text):=hs.cell (j:=0) rfl
   have e1:wr.cell? ⟨g,k*2+1,none⟩=some (.int .i64 f.at_):=hs.cell (j:=1) rfl
   clear hs hv hf
   go_wp2_with (at_builtin;refine fB _ rfl _ _ 31 9 (.string ⟨#[]⟩) 1 16 rfl underlying31 rfl rfl (by omega) _ k _ w.heap.size rfl ((HO.out.alloc _).alloc _) ⟨_,0,none⟩ 1 1 [aY f.text] rfl rfl (dh _ _ (by simp) #[.string f.text] _) (by simp[aY,Value.oneCell']) _ rfl _ rfl (by unfold maxLen;omega) (by omega) (by simp;omega) ?_)
   intro g5 cp5 w5 hown5 dw
   have hb5:Below w.heap.size w w5:=((hbel.alloc hsz _).alloc (by simp;omega) _).trans (dw.below (fun q hq=>(HO.out.lt q hq).1) (by simp;omega))
   clear dw
   go_wp2_with fail
   go_roundg (gk-1)
   case rel=>exact⟨k+1,by omega,by go_num,hid (by rw[HF.out];simpa using hown5),hb5⟩
   case measure=>omega
  ·have HE:=hid (show L.take k=L from List.take_of_length_le (by omega))
   go_wp2_with fail
   go_ret
   have ho:=HO.out
   rw[HE.out] at ho
   obtain⟨ta,tc,uy⟩:∃ a c,u3=.slice a k c:=ak HO.out
   have hkl:k=L.length:=by omega
   subst hkl
   subst uy
   exact⟨ta,tc,rfl,ho,hbel⟩
end Go.Proofs.YtgalebcpagmohaaGreatDoor
