/- Package payloads: Read of what Write wrote. -/
import Derived.Test.YtolfcabodiphmaaGreatDoorV21
import Derived.Test.YtolfcabodiphmaaGreatDoorV00
import Derived.Test.YtolfcabodiphmaaGreatDoorV10
import Derived.Test.YtolfcabodiphmaaGreatDoorV13
import Derived.Test.YtolfcabodiphmaaGreatDoorV17
import Derived.Test.YtolfcabodiphmaaGreatDoorV19
import Derived.Deep.DeepCutAuto
set_option linter.unusedSimpArgs false
set_option linter.unusedVariables false
set_option maxHeartbeats 8000000
set_option maxRecDepth 100000
namespace Go.Proofs.YtolfcabodiphmaaGreatDoor
open Go.Proofs.Tryz
open Go.RowKit Go.Conc
def iy(p:aP):Nat→List UInt8
 | 0=>p.data.toList
 | j+1=>fZ (xM p (3-j))++iy p j
theorem yQ(p:aP):bJ p=p.kind.toUInt8::iy p 4:=by
 simp[bJ,qI,iy,xM]
def yR(p:aP)(k:Nat):List Value:=[.int .u8 p.kind,.int .u64 (if 0<k then p.token else 0),.int .u64 (if 1<k then p.session else 0),.int .u64 (if 2<k then p.number else 0),.int .u64 (if 3<k then p.position else 0),.string ⟨#[]⟩]
theorem MX(p:aP)(k:Nat)(hk:k<4):(yR p k).set (k+1) (.int .u64 (xM p k:Nat))=yR p (k+1):=by
 have:k=0∨k=1∨k=2∨k=3:=by omega
 rcases this with rfl | rfl | rfl | rfl<;>rfl
theorem Fz{p:aP}(h:lS p)(hd:p.data.size≤900):∀ j,(iy p j).length≤900+10*j
 | 0=>by rw[iy,aF];omega
 | j+1=>by
  have:=Fz h hd j
  have:=qg (xM p (3-j)) (h.at _)
  simp only[iy,List.length_append]
  omega
theorem pF.keep{B:Nat}{w w':World}{v:Value}{L:List UInt8}(h:pF w v L)(hb:Below B w w')(hl:∀ k,v.ownBlock=some k→k<B):pF w' v L:=⟨h.1.same hb (fun k hk _=>hl k hk),h.2⟩
theorem Kr(w:World)(o1 o2:Obj):Below w.heap.size w ((w.alloc o1).alloc o2):=by
 have h1:Below w.heap.size w (w.alloc o1):=(Below.refl _ _).alloc (Nat.le_refl _) _
 exact h1.alloc h1.size o2
theorem VL(w:World)(o1 o2:Obj):((w.alloc o1).alloc o2).heap[w.heap.size]? = (w.alloc o1).heap[w.heap.size]? :=
 ((Below.refl _ (w.alloc o1)).alloc (Nat.le_refl _) o2).block _ (by simp)
theorem VN(w:World)(o1 o2:Obj):((w.alloc o1).alloc o2).heap[w.heap.size+1]? = some o2:=by
 have:=heap_alloc_new (w.alloc o1) o2
 simpa using this
theorem Ru(p:aP)(j:Nat):0<(iy p (j+1)).length:=by
 rw[iy,List.length_append]
 have:0<(fZ (xM p (3-j))).length:=by unfold fZ fZK;split;simp;split<;>simp
 omega
theorem MZ{p:aP}(h:lS p)(k g:Nat)(hk:k+(g+1)=4):dR (iy p (g+1))=some (xM p k,iy p g):=by
 rw[iy,show 3-g=k by omega]
 exact MB _ (h.at k) _
theorem tN{w w0:World}{b:Nat}(h:Below w.heap.size w w0)(hb:w.heap.size≤b)(v0 v1 v2 v3 v4 v5:Value):Below w.heap.size w ((((((w0.setCell ⟨b,0,none⟩ v0).setCell ⟨b,1,none⟩ v1).setCell ⟨b,2,none⟩ v2).setCell ⟨b,3,none⟩ v3).setCell ⟨b,4,none⟩ v4).setCell ⟨b,5,none⟩ v5) :=
 (((((h.setCell (p:=⟨b,0,none⟩) hb v0).setCell (p:=⟨b,1,none⟩) hb v1).setCell (p:=⟨b,2,none⟩) hb v2).setCell (p:=⟨b,3,none⟩) hb v3).setCell (p:=⟨b,4,none⟩) hb v4).setCell (p:=⟨b,5,none⟩) hb v5
theorem Ak{w:World}{b:Nat}{T:TypeId}{u0 u1 u2 u3 u4 u5:Value}(h:aK w b T [u0,u1,u2,u3,u4,u5])(v0 v1 v2 v3 v4 v5:Value):aK ((((((w.setCell ⟨b,0,none⟩ v0).setCell ⟨b,1,none⟩ v1).setCell ⟨b,2,none⟩ v2).setCell ⟨b,3,none⟩ v3).setCell ⟨b,4,none⟩ v4).setCell ⟨b,5,none⟩ v5) b T [v0,v1,v2,v3,v4,v5]:=(((((h.set 0 v0).set 1 v1).set 2 v2).set 3 v3).set 4 v4).set 5 v5
theorem YT(w:World)(p:aP)(hp:lS p)(hd9:p.data.size≤900)(v:Value)(h:pF w v (bJ p))(hvl:∀ k,v.ownBlock=some k→k<w.heap.size):
  Calls Tryz.prog 111 #[v] w (fun e w'=>e=.returned (.tuple #[.agg #[.int .u8 p.kind,.int .u64 p.token,.int .u64 p.session,.int .u64 p.number,.int .u64 p.position,.string p.data],.bool true])∧Below w.heap.size w w'):=by
 obtain⟨hR,a,c,rfl,hc⟩:=h
 have HP:=hid hp
 have HT0:=hid (Fz hp hd9)
 have hl4:(bJ p).length=(iy p 4).length+1:=by rw[yQ];rfl
 obtain⟨b,o,c',hv,hbl,hcell⟩:=hR.at (by omega)
 obtain⟨rfl,rfl⟩:a=some ⟨b,o,none⟩∧c=c':=by simpa using hv
 have hk8:(p.kind.toUInt8.toNat:Int)=p.kind:=by rw[show p.kind.toUInt8.toNat=p.kind by simp[Nat.toUInt8,UInt8.toNat_ofNat'];have:=hp.k;omega]
 have hc0:w.cell? ⟨b,o,none⟩=some (.int .u8 p.kind):=by
  have:=hcell 0 (by omega)
  have e:(bJ p)[0]'(by omega)=p.kind.toUInt8:=by simp[yQ]
  rw[e,hk8] at this
  simpa using this
 have hb0:Below w.heap.size w (w.alloc (.cells #[.int .u8 0,.int .u64 0,.int .u64 0,.int .u64 0,.int .u64 0,.string ⟨#[]⟩] 124)):=(Below.refl _ _).alloc (Nat.le_refl _) _
 have hB0:aK (w.alloc (.cells #[.int .u8 0,.int .u64 0,.int .u64 0,.int .u64 0,.int .u64 0,.string ⟨#[]⟩] 124)) w.heap.size 124 [.int .u8 0,.int .u64 0,.int .u64 0,.int .u64 0,.int .u64 0,.string ⟨#[]⟩]:=heap_alloc_new w _
 have hz0:(w.alloc (.cells #[.int .u8 0,.int .u64 0,.int .u64 0,.int .u64 0,.int .u64 0,.string ⟨#[]⟩] 124)).heap.size=w.heap.size+1:=by simp
 obtain⟨w0,hw0⟩:∃ w0,w.alloc (.cells #[.int .u8 0,.int .u64 0,.int .u64 0,.int .u64 0,.int .u64 0,.string ⟨#[]⟩] 124)=w0:=⟨_,rfl⟩
 rw[hw0] at hb0 hB0 hz0
 have hc1:w0.cell? ⟨b,o,none⟩=some (.int .u8 p.kind):=(hb0.cell (p:=⟨b,o,none⟩) hbl).trans hc0
 have hn1:((iy p 4).length+1:Int)≠0:=by omega
 have HRT:=hid (show Rd w (.slice (some ⟨b,o+1,none⟩) (iy p 4).length (c-1)) (iy p 4) by
  have:=Rd.piece hcell 1 (iy p 4).length (c-1) (by omega)
  rw[yQ] at this
  simpa using this)
 have hW:Below w.heap.size w ((w0.alloc (.cells #[.int .u8 p.kind,.int .u64 0,.int .u64 0,.int .u64 0,.int .u64 0,.string ⟨#[]⟩] 124)).alloc (.cells #[.pointer (some ⟨w0.heap.size,1,none⟩),.pointer (some ⟨w0.heap.size,2,none⟩),.pointer (some ⟨w0.heap.size,3,none⟩),.pointer (some ⟨w0.heap.size,4,none⟩)] 248)):=hb0.trans ((Kr w0 _ _).mono hb0.size)
 have hBp:aK ((w0.alloc (.cells #[.int .u8 p.kind,.int .u64 0,.int .u64 0,.int .u64 0,.int .u64 0,.string ⟨#[]⟩] 124)).alloc (.cells #[.pointer (some ⟨w0.heap.size,1,none⟩),.pointer (some ⟨w0.heap.size,2,none⟩),.pointer (some ⟨w0.heap.size,3,none⟩),.pointer (some ⟨w0.heap.size,4,none⟩)] 248)) w0.heap.size 124 [.int .u8 p.kind,.int .u64 0,.int .u64 0,.int .u64 0,.int .u64 0,.string ⟨#[]⟩]:=(VL w0 _ _).trans (heap_alloc_new w0 _)
 have hBs:aK ((w0.alloc (.cells #[.int .u8 p.kind,.int .u64 0,.int .u64 0,.int .u64 0,.int .u64 0,.string ⟨#[]⟩] 124)).alloc (.cells #[.pointer (some ⟨w0.heap.size,1,none⟩),.pointer (some ⟨w0.heap.size,2,none⟩),.pointer (some ⟨w0.heap.size,3,none⟩),.pointer (some ⟨w0.heap.size,4,none⟩)] 248)) (w0.heap.size+1) 248 [.pointer (some ⟨w0.heap.size,1,none⟩),.pointer (some ⟨w0.heap.size,2,none⟩),.pointer (some ⟨w0.heap.size,3,none⟩),.pointer (some ⟨w0.heap.size,4,none⟩)]:=VN w0 _ _
 have hBr:aK ((w0.alloc (.cells #[.int .u8 p.kind,.int .u64 0,.int .u64 0,.int .u64 0,.int .u64 0,.string ⟨#[]⟩] 124)).alloc (.cells #[.pointer (some ⟨w0.heap.size,1,none⟩),.pointer (some ⟨w0.heap.size,2,none⟩),.pointer (some ⟨w0.heap.size,3,none⟩),.pointer (some ⟨w0.heap.size,4,none⟩)] 248)) w.heap.size 124 [.int .u8 0,.int .u64 0,.int .u64 0,.int .u64 0,.int .u64 0,.string ⟨#[]⟩]:=hB0.below (Kr w0 _ _)
 have HW:=hid hW
 have HBp:=hid hBp
 have HBs:=hid hBs
 have HBr:=hid hBr
 have HBL:=hid hbl
 have hcb:(iy p 4).length+1≤c:=by omega
 have HC0:=hid hc
 obtain⟨TL,hTL⟩:∃ TL,(iy p 4).length=TL:=⟨_,rfl⟩
 rw[hl4,hTL]
 rw[hTL] at hn1 hcb
 have hTI:((TL:Int)+1==0)=false:=by simp;omega
 have Xt:=hid hTL
 have an3:¬ c=1:=by have:=Ru p 3;rw[hTL] at this;omega
 have HZ0:=hid hz0
 have HRC:=hid (show pF w (.slice (some ⟨b,o+1,none⟩) TL (c-1)) (iy p 4) by
  have:=HRT.out
  refine⟨by rw[← hTL];exact this,_,_,by rw[hTL],by omega⟩)
 clear hW hBp hBs hBr hcell hR hc hv hvl hB0 hb0 hp hTL hl4 hk8 hc0 hz0
 go_enter func111,ntmps111
 go_wp2_with fail
 go_loopg [5,6,8,25] 4 (fun gk dv okv tv i wr=>∃ k:Nat,k+gk=4∧i=.int .i64 k∧okv=.bool true∧Hid (pF wr dv (iy p gk))∧Hid (∀ j,dv.ownBlock=some j→j<w.heap.size)∧Hid (aK wr w0.heap.size 124 (yR p k))∧Hid (aK wr (w0.heap.size+1) 248 [.pointer (some ⟨w0.heap.size,1,none⟩),.pointer (some ⟨w0.heap.size,2,none⟩),.pointer (some ⟨w0.heap.size,3,none⟩),.pointer (some ⟨w0.heap.size,4,none⟩)])∧Hid (aK wr w.heap.size 124 [.int .u8 0,.int .u64 0,.int .u64 0,.int .u64 0,.int .u64 0,.string ⟨#[]⟩])∧Below w.heap.size w wr)
 case atStart=>exact⟨0,by omega,rfl,rfl,hid (HRC.out.keep HW.out (fun k hk=>by simp[Value.ownBlock] at hk;have:=HBL.out;omega)),hid (fun k hk=>by simp[Value.ownBlock] at hk;have:=HBL.out;omega),HBp,HBs,HBr,HW.out⟩
 case round=>
  obtain⟨k,hk,rfl,rfl,HR,HO,HB,HS,HRr,hbel⟩:=hrel
  obtain⟨w3,hw3⟩:∃ w3,w3=wr:=⟨_,rfl⟩
  subst hw3
  obtain⟨YR,abV⟩:∃ g,g=gk:=⟨_,rfl⟩
  subst abV
  by_cases hlt:k<4
  ·have hck:w3.cell? ⟨w0.heap.size+1,k,none⟩=some (.pointer (some ⟨w0.heap.size,k+1,none⟩)):=by
    rw[HS.out.cell]
    have:k=0∨k=1∨k=2∨k=3:=by omega
    rcases this with rfl | rfl | rfl | rfl<;>rfl
   have fO:(k:Int)<4:=by omega
   obtain⟨g1,rfl⟩:∃ g1,YR=g1+1:=⟨YR-1,by omega⟩
   have Xw:=hid (MZ HP.out k g1 hk)
   have hlen:=HT0.out (g1+1)
   go_wp2_with fail
   refine(nV w3 _ (iy p (g1+1)) HR.out (by omega)).mono ?_
   rintro e w4 ⟨n,a4,c4,R,ok,rfl,hn,hRd,hRl,hRo,hb4,htk⟩
   have hE:=Xw.out.symm.trans htk
   cases ok with
   | false=>simp at hE
   | true=>
    obtain⟨rfl,rfl⟩:n=xM p k∧R=iy p g1:=by
     have:=Option.some.inj hE
     simp only[Prod.mk.injEq] at this
     exact⟨this.1.symm,this.2.symm⟩
    have hB4:=HB.out.below hb4
    have hS4:=HS.out.below hb4
    have afj:=HRr.out.below hb4
    obtain⟨xv,hxv⟩:∃ xv,(yR p k)[k+1]? = some xv:=⟨_,List.getElem?_eq_getElem (by unfold yR;simp;omega)⟩
    have q1:w4.cell? ⟨w0.heap.size,k+1,none⟩=some xv:=(hB4.cell (k+1)).trans hxv
    have q2:=hB4.frozen (k+1)
    have y9:=hbel.trans (hb4.mono hbel.size)
    have hz:=HZ0.out
    obtain⟨N,HN⟩:∃ N,Hid (xM p k=N):=⟨_,hid rfl⟩
    rw[HN.out]
    have hbs:Below w.heap.size w (w4.setCell ⟨w0.heap.size,k+1,none⟩ (.int .u64 N)):=y9.setCell (p:=⟨w0.heap.size,k+1,none⟩) (by show w.heap.size≤w0.heap.size;omega) _
    have afk:Below w.heap.size w4 (w4.setCell ⟨w0.heap.size,k+1,none⟩ (.int .u64 N)):=(Below.refl _ _).setCell (p:=⟨w0.heap.size,k+1,none⟩) (by show w.heap.size≤w0.heap.size;omega) _
    have HOO:=hid (show ∀ j,(Value.slice a4 (iy p g1).length c4).ownBlock=some j→j<w.heap.size from fun j hj=>HO.out j (hRo j hj))
    have HRN:=hid (hRd.keep afk HOO.out)
    have HBN:=hid (show aK (w4.setCell ⟨w0.heap.size,k+1,none⟩ (.int .u64 N)) w0.heap.size 124 (yR p (k+1)) by
     have:=hB4.set (k+1) (.int .u64 N)
     rw[← HN.out,MX p k hlt] at this
     rw[← HN.out]
     exact this)
    have hcs:aG (fun j=>j=w0.heap.size) w4 (w4.setCell ⟨w0.heap.size,k+1,none⟩ (.int .u64 N)):=(aG.refl (fun j=>j=w0.heap.size) w4).setCell ⟨w0.heap.size,k+1,none⟩ _ (fun _=>rfl)
    have HSN:=hid (hS4.dB hcs (fun e=>by have:w0.heap.size+1=w0.heap.size:=e;omega))
    have aiZ:=hid (afj.dB hcs (fun e=>by have:w.heap.size=w0.heap.size:=e;omega))
    have HbN:=hid hbs
    generalize (iy p g1).length=M at *
    clear hE htk hRd hRl hRo hb4 hB4 hS4 afj y9 hbs afk hcs hck hz hn hxv
    go_wp2_with fail
    go_roundg g1
    case rel=>exact⟨k+1,by omega,by go_num,rfl,HRN,HOO,HBN,HSN,aiZ,HbN.out⟩
    case measure=>omega
  ·obtain rfl:k=4:=by omega
   obtain rfl:YR=0:=by omega
   have hcv:(convert 64 9 u5).run Tryz.prog w3=.ok (.string p.data) w3:=by
    have:=HR.out.1.conv
    rw[show strOf (iy p 0)=p.data by unfold strOf iy;rw[ByteArray.toList_eq]] at this
    exact this
   have Ac:aK (w3.setCell ⟨w0.heap.size,5,none⟩ (.string p.data)) w0.heap.size 124 [.int .u8 p.kind,.int .u64 p.token,.int .u64 p.session,.int .u64 p.number,.int .u64 p.position,.string p.data]:=HB.out.set 5 _
   have q5:w3.cell? ⟨w0.heap.size,5,none⟩=some (.string ⟨#[]⟩):=HB.out.cell 5
   have f5:=HB.out.frozen 5
   have hz:=HZ0.out
   have hcs:aG (fun j=>j=w0.heap.size) w3 (w3.setCell ⟨w0.heap.size,5,none⟩ (.string p.data)):=(aG.refl (fun j=>j=w0.heap.size) w3).setCell ⟨w0.heap.size,5,none⟩ _ (fun _=>rfl)
   have IL:=HRr.out.dB hcs (fun e=>by have:w.heap.size=w0.heap.size:=e;omega)
   have hb5:Below w.heap.size w (w3.setCell ⟨w0.heap.size,5,none⟩ (.string p.data)):=hbel.setCell (p:=⟨w0.heap.size,5,none⟩) (by show w.heap.size≤w0.heap.size;omega) _
   obtain⟨w5,hw5⟩:∃ w5,w3.setCell ⟨w0.heap.size,5,none⟩ (.string p.data)=w5:=⟨_,rfl⟩
   rw[hw5] at Ac IL hb5
   have p0:w5.cell? ⟨w0.heap.size,0,none⟩=some (.int .u8 p.kind):=Ac.cell 0
   have p1:w5.cell? ⟨w0.heap.size,1,none⟩=some (.int .u64 p.token):=Ac.cell 1
   have p2:w5.cell? ⟨w0.heap.size,2,none⟩=some (.int .u64 p.session):=Ac.cell 2
   have p3:w5.cell? ⟨w0.heap.size,3,none⟩=some (.int .u64 p.number):=Ac.cell 3
   have p4:w5.cell? ⟨w0.heap.size,4,none⟩=some (.int .u64 p.position):=Ac.cell 4
   have p5:w5.cell? ⟨w0.heap.size,5,none⟩=some (.string p.data):=Ac.cell 5
   have r0:w5.cell? ⟨w.heap.size,0,none⟩=some (.int .u8 0):=IL.cell 0
   have r1:w5.cell? ⟨w.heap.size,1,none⟩=some (.int .u64 0):=IL.cell 1
   have r2:w5.cell? ⟨w.heap.size,2,none⟩=some (.int .u64 0):=IL.cell 2
   have r3:w5.cell? ⟨w.heap.size,3,none⟩=some (.int .u64 0):=IL.cell 3
   have r4:w5.cell? ⟨w.heap.size,4,none⟩=some (.int .u64 0):=IL.cell 4
   have r5:w5.cell? ⟨w.heap.size,5,none⟩=some (.string ⟨#[]⟩):=IL.cell 5
   have g0:=IL.frozen 0
   have g1:=IL.frozen 1
   have g2:=IL.frozen 2
   have g3:=IL.frozen 3
   have g4:=IL.frozen 4
   have g5:=IL.frozen 5
   have MW:=hid (qX _ _ _ _ _ _ _ _ (Ak IL (.int .u8 p.kind) (.int .u64 p.token) (.int .u64 p.session) (.int .u64 p.number) (.int .u64 p.position) (.string p.data)))
   have Ro:=hid (tN hb5 (Nat.le_refl _) (.int .u8 p.kind) (.int .u64 p.token) (.int .u64 p.session) (.int .u64 p.number) (.int .u64 p.position) (.string p.data))
   clear Ac IL hb5 hcs hz
   go_wp2_with fail
   (try simp only[Exit.inBlock,Exit.then])
   refine⟨rfl,.tuple #[.agg #[.int .u8 p.kind,.int .u64 p.token,.int .u64 p.session,.int .u64 p.number,.int .u64 p.position,.string p.data],.bool true],?_,rfl,Ro.out⟩
   rw[results_cell_tmp rfl]
   have:=MW.out
   simp[asAddr,this]
theorem iK{a W:World}(h:Below a.heap.size a W)(o:Obj):Below a.heap.size a (W.alloc o):=h.alloc h.size o
end Go.Proofs.YtolfcabodiphmaaGreatDoor
