/- Package ends: the client: take. -/
import Derived.Test.YtolfcabodiphmaaGreatDoorV27
import Derived.Test.YtolfcabodiphmaaGreatDoorV28
import Derived.Test.YtolfcabodiphmaaGreatDoorV22
set_option linter.unusedSimpArgs false
set_option linter.unusedVariables false
set_option maxHeartbeats 8000000
set_option maxRecDepth 100000
namespace Go.Proofs.YtolfcabodiphmaaGreatDoor
open Go.Proofs.Tryz
open Go.RowKit Go.Conc
theorem Y7{lo:Nat}{w:World}{g:CG}{X:List aO}(h:Cli lo w g)(hS:vS g.st)(hlo:lo≤w.heap.size)(la:Option Addr)(ll lc:Nat)(hiv:g.iv=.slice la ll lc)(hst:Stat lo w (.slice la ll lc) X)(hsg:∀ s∈g.st.streams,s.got≤1000000000000∧s.values.length≤1000)(tk ss nb ps:Nat)(dt:ByteArray)(hp:nb≤1000000000000)(hd:dt.size≤1000):
  Calls Tryz.prog 88 #[.pointer (some ⟨g.b,0,none⟩),.agg #[.int .u8 12,.int .u64 tk,.int .u64 ss,.int .u64 nb,.int .u64 ps,.string dt]] w (fun e w'=>e=.returned (.tuple #[])∧∃ g',gG lo w g (g.st.take (dU X) g.R ⟨12,tk,ss,nb,ps,dt⟩) w' g'):=by
 have HE:=hid (show g.st.take (dU X) g.R ⟨12,tk,ss,nb,ps,dt⟩=({ g with silence:=0 }:CG).st.answered (dU X) ⟨12,tk,ss,nb,ps,dt⟩ from rfl)
 have hq:∀ W,(binOp .eql 198 (.func (Fn.func 118) #[] #[]) .nilFunc).run Tryz.prog W=.ok (.bool false) W:=fun W=>tZ _ W
 have lJ:Below w.heap.size w (w.alloc (.cells #[.int .u8 12,.int .u64 tk,.int .u64 ss,.int .u64 nb,.int .u64 ps,.string dt] 124)):=(Below.refl _ w).alloc (Nat.le_refl _) _
 have sG:aK (w.alloc (.cells #[.int .u8 12,.int .u64 tk,.int .u64 ss,.int .u64 nb,.int .u64 ps,.string dt] 124)) w.heap.size 124 [.int .u8 12,.int .u64 tk,.int .u64 ss,.int .u64 nb,.int .u64 ps,.string dt]:=heap_alloc_new w _
 have hz:(w.alloc (.cells #[.int .u8 12,.int .u64 tk,.int .u64 ss,.int .u64 nb,.int .u64 ps,.string dt] 124)).heap.size=w.heap.size+1:=by simp
 have mD:Below (w.alloc (.cells #[.int .u8 12,.int .u64 tk,.int .u64 ss,.int .u64 nb,.int .u64 ps,.string dt] 124)).heap.size (w.alloc (.cells #[.int .u8 12,.int .u64 tk,.int .u64 ss,.int .u64 nb,.int .u64 ps,.string dt] 124)) ((w.alloc (.cells #[.int .u8 12,.int .u64 tk,.int .u64 ss,.int .u64 nb,.int .u64 ps,.string dt] 124)).alloc (.cells #[.nilFunc,.nilFunc,.nilFunc,.nilFunc,.nilFunc,.nilFunc,.func (Fn.func 112) #[] #[],.func (Fn.func 113) #[] #[],.func (Fn.func 114) #[] #[],.func (Fn.func 115) #[] #[],.func (Fn.func 116) #[] #[],.func (Fn.func 117) #[] #[],.func (Fn.func 118) #[] #[],.func (Fn.func 119) #[] #[]] 199)):=(Below.refl _ _).alloc (Nat.le_refl _) _
 have nH:aK ((w.alloc (.cells #[.int .u8 12,.int .u64 tk,.int .u64 ss,.int .u64 nb,.int .u64 ps,.string dt] 124)).alloc (.cells #[.nilFunc,.nilFunc,.nilFunc,.nilFunc,.nilFunc,.nilFunc,.func (Fn.func 112) #[] #[],.func (Fn.func 113) #[] #[],.func (Fn.func 114) #[] #[],.func (Fn.func 115) #[] #[],.func (Fn.func 116) #[] #[],.func (Fn.func 117) #[] #[],.func (Fn.func 118) #[] #[],.func (Fn.func 119) #[] #[]] 199)) (w.alloc (.cells #[.int .u8 12,.int .u64 tk,.int .u64 ss,.int .u64 nb,.int .u64 ps,.string dt] 124)).heap.size 199 [.nilFunc,.nilFunc,.nilFunc,.nilFunc,.nilFunc,.nilFunc,.func (Fn.func 112) #[] #[],.func (Fn.func 113) #[] #[],.func (Fn.func 114) #[] #[],.func (Fn.func 115) #[] #[],.func (Fn.func 116) #[] #[],.func (Fn.func 117) #[] #[],.func (Fn.func 118) #[] #[],.func (Fn.func 119) #[] #[]]:=heap_alloc_new (w.alloc (.cells #[.int .u8 12,.int .u64 tk,.int .u64 ss,.int .u64 nb,.int .u64 ps,.string dt] 124)) (.cells #[.nilFunc,.nilFunc,.nilFunc,.nilFunc,.nilFunc,.nilFunc,.func (Fn.func 112) #[] #[],.func (Fn.func 113) #[] #[],.func (Fn.func 114) #[] #[],.func (Fn.func 115) #[] #[],.func (Fn.func 116) #[] #[],.func (Fn.func 117) #[] #[],.func (Fn.func 118) #[] #[],.func (Fn.func 119) #[] #[]] 199)
 have cu:=sG.below mD
 have eF:Below w.heap.size w ((w.alloc (.cells #[.int .u8 12,.int .u64 tk,.int .u64 ss,.int .u64 nb,.int .u64 ps,.string dt] 124)).alloc (.cells #[.nilFunc,.nilFunc,.nilFunc,.nilFunc,.nilFunc,.nilFunc,.func (Fn.func 112) #[] #[],.func (Fn.func 113) #[] #[],.func (Fn.func 114) #[] #[],.func (Fn.func 115) #[] #[],.func (Fn.func 116) #[] #[],.func (Fn.func 117) #[] #[],.func (Fn.func 118) #[] #[],.func (Fn.func 119) #[] #[]] 199)):=lJ.trans (mD.mono lJ.size)
 obtain⟨w0,hw0⟩:∃ w0,(w.alloc (.cells #[.int .u8 12,.int .u64 tk,.int .u64 ss,.int .u64 nb,.int .u64 ps,.string dt] 124))=w0:=⟨_,rfl⟩
 rw[hw0] at eF cu nH mD sG lJ hz
 obtain⟨w1,hw1⟩:∃ w1,w0.alloc (.cells #[.nilFunc,.nilFunc,.nilFunc,.nilFunc,.nilFunc,.nilFunc,.func (Fn.func 112) #[] #[],.func (Fn.func 113) #[] #[],.func (Fn.func 114) #[] #[],.func (Fn.func 115) #[] #[],.func (Fn.func 116) #[] #[],.func (Fn.func 117) #[] #[],.func (Fn.func 118) #[] #[],.func (Fn.func 119) #[] #[]] 199)=w1:=⟨_,rfl⟩
 rw[hw1] at eF cu nH mD
 have hzz:w0.heap.size=w.heap.size+1:=hz
 have hlt:=h.blk.lt
 have hne:g.b≠w.heap.size:=by omega
 have hne2:g.b≠w0.heap.size:=by omega
 have hA:=h.below eF
 have d12:w1.cell? ⟨g.b,12,none⟩=some (.int .i64 g.silence):=hA.blk.cell 12
 have f12:=hA.blk.frozen 12
 have hc2:aG (fun k=>k=g.b) w1 (w1.setCell ⟨g.b,12,none⟩ (.int .i64 0)):=(aG.refl _ _).setCell _ _ (fun _=>rfl)
 have hT:=hA.jS (g':={ g with silence:=0 }) hc2 (hA.blk.set 12 _) rfl rfl rfl rfl ⟨rfl,rfl,rfl⟩ h.ra h.rs h.rc h.rv
 have Di:=cu.dB hc2 (fun e=>hne e.symm)
 have Dj:=nH.dB hc2 (fun e=>hne2 e.symm)
 have uN:=hid (hT.before eF)
 have hst2:=hT.stat hA (hst.below eF)
 have HT:=hid hT
 have HST:=hid hst2
 have iR:=hid Di
 have HF3:=hid Dj
 have hlo2:lo≤(w1.setCell ⟨g.b,12,none⟩ (.int .i64 0)).heap.size:=Nat.le_trans hlo uN.out.grow.c.size
 have OT:=hid hiv
 have Ld:=hid hsg
 have t0:w1.cell? ⟨w.heap.size,0,none⟩=some (.int .u8 12):=cu.cell 0
 have tF:w1.cell? ⟨w0.heap.size,12,none⟩=some (.func (Fn.func 118) #[] #[]):=nH.cell 12
 have HZ:=hid hzz
 clear h hst hiv hsg hA eF lJ mD sG nH cu hc2 hT Di Dj hst2 hz hzz
 go_enter func88,ntmps88
 go_wp2_with fail
 obtain⟨w2,hw2⟩:∃ w2,(w1.setCell ⟨g.b,12,none⟩ (.int .i64 0))=w2:=⟨_,rfl⟩
 rw[hw2] at uN HT HST iR HF3 hlo2 ⊢
 clear hw2 d12 f12
 have r0:w2.cell? ⟨w.heap.size,0,none⟩=some (.int .u8 12):=iR.out.cell 0
 have r1:w2.cell? ⟨w.heap.size,1,none⟩=some (.int .u64 tk):=iR.out.cell 1
 have r2:w2.cell? ⟨w.heap.size,2,none⟩=some (.int .u64 ss):=iR.out.cell 2
 have r3:w2.cell? ⟨w.heap.size,3,none⟩=some (.int .u64 nb):=iR.out.cell 3
 have r4:w2.cell? ⟨w.heap.size,4,none⟩=some (.int .u64 ps):=iR.out.cell 4
 have r5:w2.cell? ⟨w.heap.size,5,none⟩=some (.string dt):=iR.out.cell 5
 have rF:w2.cell? ⟨w0.heap.size,12,none⟩=some (.func (Fn.func 118) #[] #[]):=HF3.out.cell 12
 go_wp2_with fail
 go_region_with (go_at_call 118;refine(RY (w:=w2.drew) HT.out.cli.drew hS.silent hlo2 la ll lc OT.out (HST.out.below (Below.refl _ w2).drew) ⟨12,tk,ss,nb,ps,dt⟩ hp hd).mono ?_;rintro e w3 ⟨rfl,g3,h3⟩;have H3:=hid h3;clear h3)
 all_goals
  go_wp2_with fail
  go_end0
  exact⟨rfl,g3,by rw[HE.out];exact uN.out.trans (H3.out.before (Below.refl _ w2).drew)⟩
theorem Nw{w:World}{lo:Nat}{a:Option Addr}{c:Nat}{L:List UInt8}(h:gZ w lo (.slice a L.length c) L):L.length≤c:=by
 rcases h.2 with⟨e,e2⟩ | ⟨g,cap,cur,e,_,_,h3,_⟩
 ·omega
 ·have:c=cap:=by simpa using(Value.slice.inj e).2.2
  omega
theorem gZ.rdc{w:World}{lo:Nat}{a:Option Addr}{c:Nat}{L:List UInt8}(h:gZ w lo (.slice a L.length c) L):pF w (.slice a L.length c) L:=⟨h.rd,a,c,rfl,Nw h⟩
theorem KA(w:World)(p:aP)(hp:lS p)(hd9:p.data.size≤900)(a:Option Addr)(c:Nat)(F:List UInt8)(h:Rd w (.slice a F.length c) F)(hl:F.length≤2000000)(hcap:F.length≤c)(hn:kT fU F=some (bJ p)):
  Calls Tryz.prog 87 #[.slice a F.length c] w (fun e w'=>e=.returned (.tuple #[.agg #[.int .u8 p.kind,.int .u64 p.token,.int .u64 p.session,.int .u64 p.number,.int .u64 p.position,.string p.data],.bool true])∧Below w.heap.size w w'):=by
 have hb0:Below w.heap.size w (w.alloc (.cells #[.int .u8 0,.int .u64 0,.int .u64 0,.int .u64 0,.int .u64 0,.string ⟨#[]⟩] 124)):=(Below.refl _ _).alloc (Nat.le_refl _) _
 have hB0:aK (w.alloc (.cells #[.int .u8 0,.int .u64 0,.int .u64 0,.int .u64 0,.int .u64 0,.string ⟨#[]⟩] 124)) w.heap.size 124 [.int .u8 0,.int .u64 0,.int .u64 0,.int .u64 0,.int .u64 0,.string ⟨#[]⟩]:=heap_alloc_new w _
 have H0:=hid (h.later hb0)
 have HN:=hid hn
 have HP:=hid hp
 obtain⟨w0,hw0⟩:∃ w0,w.alloc (.cells #[.int .u8 0,.int .u64 0,.int .u64 0,.int .u64 0,.int .u64 0,.string ⟨#[]⟩] 124)=w0:=⟨_,rfl⟩
 rw[hw0] at hb0 hB0 H0
 have HB0:=hid hB0
 clear h hn hB0 hp
 go_enter func87,ntmps87
 go_wp2_with fail
 refine(LC w0 a c F H0.out (by unfold maxLen;omega) hcap).mono ?_;rintro e w1 ⟨hb1,hm⟩
 rw[HN.out] at hm
 simp only at hm
 obtain⟨a1,c1,rfl,Xx⟩:=hm
 have Lh:=hid Xx
 have HB1:=hid (HB0.out.below hb1)
 obtain⟨WL,hWL⟩:∃ WL,(bJ p).length=WL:=⟨_,rfl⟩
 have HWL:=hid hWL
 rw[hWL]
 clear Xx hWL
 go_wp2_with fail
 refine(YT w1 p HP.out hd9 (.slice a1 WL c1) (by rw[← HWL.out];exact Lh.out.rdc) (fun k hk=>(Lh.out.lt k (by rw[HWL.out];exact hk)).2)).mono ?_;rintro e w2 ⟨rfl,hb2⟩
 have hB2:=HB1.out.below hb2
 have r0:w2.cell? ⟨w.heap.size,0,none⟩=some (.int .u8 0):=hB2.cell 0
 have r1:w2.cell? ⟨w.heap.size,1,none⟩=some (.int .u64 0):=hB2.cell 1
 have r2:w2.cell? ⟨w.heap.size,2,none⟩=some (.int .u64 0):=hB2.cell 2
 have r3:w2.cell? ⟨w.heap.size,3,none⟩=some (.int .u64 0):=hB2.cell 3
 have r4:w2.cell? ⟨w.heap.size,4,none⟩=some (.int .u64 0):=hB2.cell 4
 have r5:w2.cell? ⟨w.heap.size,5,none⟩=some (.string ⟨#[]⟩):=hB2.cell 5
 have g0:=hB2.frozen 0
 have g1:=hB2.frozen 1
 have g2:=hB2.frozen 2
 have g3:=hB2.frozen 3
 have g4:=hB2.frozen 4
 have g5:=hB2.frozen 5
 have eF:Below w.heap.size w w2:=hb0.trans ((hb1.mono hb0.size).trans (hb2.mono (Nat.le_trans hb0.size hb1.size)))
 have MW:=hid (qX _ _ _ _ _ _ _ _ (Ak hB2 (.int .u8 p.kind) (.int .u64 p.token) (.int .u64 p.session) (.int .u64 p.number) (.int .u64 p.position) (.string p.data)))
 have Ro:=hid (tN eF (Nat.le_refl _) (.int .u8 p.kind) (.int .u64 p.token) (.int .u64 p.session) (.int .u64 p.number) (.int .u64 p.position) (.string p.data))
 clear hB2 eF hb0 hb1 hb2
 go_wp2_with fail
 (try simp only[Exit.inBlock,Exit.then])
 refine⟨rfl,.tuple #[.agg #[.int .u8 p.kind,.int .u64 p.token,.int .u64 p.session,.int .u64 p.number,.int .u64 p.position,.string p.data],.bool true],?_,rfl,Ro.out⟩
 rw[results_cell_tmp rfl]
 have:=MW.out
 simp[asAddr,this]
end Go.Proofs.YtolfcabodiphmaaGreatDoor
