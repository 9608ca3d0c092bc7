/- Package ends: the client: finished, lost. -/
import Derived.Test.YtolfcabodiphmaaGreatDoorV17
import Derived.Laws.EntriesVeiled
set_option linter.unusedSimpArgs false
set_option linter.unusedVariables false
set_option maxHeartbeats 4000000
set_option maxRecDepth 100000
namespace Go.Proofs.YtolfcabodiphmaaGreatDoor
open Go.Proofs.Tryz
open Go.RowKit Go.Conc
theorem Kz{α:Type}{f:α → α}{l:List α}{i:Nat}{a:α}(h:l[i]? = some a)(hf:f a=a):l.modify i f=l:=by
 obtain⟨e1,e2⟩:=CS h
 have:=vG f (l.take i) a (l.drop (i+1))
 rw[hf,e2,← e1] at this
 exact this
theorem RV{T E:TypeId}(hu:Tryz.prog.underlying T=some (.pointer E))(w:World)(b:Nat):(binOp .neq T (.pointer (some ⟨b,0,none⟩)) (.pointer none)).run Tryz.prog w=.ok (.bool true) w:=by
 have h1:∀ d:Nat,(Op.equalIn (d+1) T (.pointer (some ⟨b,0,none⟩)) (.pointer none)).run Tryz.prog w=.ok false w:=fun d=>by simp[Op.equalIn,run_underlying hu]
 have h2:(Op.equal T (.pointer (some ⟨b,0,none⟩)) (.pointer none)).run Tryz.prog w=.ok false w:=h1 9999
 simp[binOp,h2]
theorem RX{T E:TypeId}(hu:Tryz.prog.underlying T=some (.pointer E))(w:World):(binOp .neq T (.pointer none) (.pointer none)).run Tryz.prog w=.ok (.bool false) w:=by
 have h1:∀ d:Nat,(Op.equalIn (d+1) T (.pointer none) (.pointer none)).run Tryz.prog w=.ok true w:=fun d=>by simp[Op.equalIn,run_underlying hu]
 have h2:(Op.equal T (.pointer none) (.pointer none)).run Tryz.prog w=.ok true w:=h1 9999
 simp[binOp,h2]
theorem tZ(fn:Nat)(w:World):(binOp .eql 198 (.func (Fn.func fn) #[] #[]) .nilFunc).run Tryz.prog w=.ok (.bool false) w:=by
 have h1:∀ d:Nat,(Op.equalIn (d+1) 198 (.func (Fn.func fn) #[] #[]) .nilFunc).run Tryz.prog w=.ok false w:=fun d=>by simp[Op.equalIn,run_underlying underlying198]
 have h2:(Op.equal 198 (.func (Fn.func fn) #[] #[]) .nilFunc).run Tryz.prog w=.ok false w:=h1 9999
 simp[binOp,h2]
theorem vS.silent{c:CP}(h:vS c):vS { c with silence:=0 }:=⟨h.a,h.s,h.ca,h.at_,Nat.zero_le _,h.n⟩
theorem ab5{lo:Nat}{w:World}{g:CG}{X:List aO}(h:Cli lo w g)(hS:vS g.st)(hlo:lo≤w.heap.size)(la:Option Addr)(ll lc:Nat)(hiv:g.iv=.slice la ll lc)(hst:Stat lo w (.slice la ll lc) X)(hsg:∀ s∈g.st.streams,s.got≤1000000000000∧s.values.length≤1000)(tk ss nb ps:Nat)(dt:ByteArray)(hp:nb≤1000000000000)(hd:dt.size≤1000):
  Calls Tryz.prog 88 #[.pointer (some ⟨g.b,0,none⟩),.agg #[.int .u8 6,.int .u64 tk,.int .u64 ss,.int .u64 nb,.int .u64 ps,.string dt]] w (fun e w'=>e=.returned (.tuple #[])∧∃ g',gG lo w g (g.st.take (dU X) g.R ⟨6,tk,ss,nb,ps,dt⟩) w' g'):=by
 have HE:=hid (show g.st.take (dU X) g.R ⟨6,tk,ss,nb,ps,dt⟩=({ g with silence:=0 }:CG).st.welcome ⟨6,tk,ss,nb,ps,dt⟩ from rfl)
 have hq:∀ W,(binOp .eql 198 (.func (Fn.func 112) #[] #[]) .nilFunc).run Tryz.prog W=.ok (.bool false) W:=fun W=>tZ _ W
 have lJ:Below w.heap.size w (w.alloc (.cells #[.int .u8 6,.int .u64 tk,.int .u64 ss,.int .u64 nb,.int .u64 ps,.string dt] 124)):=(Below.refl _ w).alloc (Nat.le_refl _) _
 have sG:aK (w.alloc (.cells #[.int .u8 6,.int .u64 tk,.int .u64 ss,.int .u64 nb,.int .u64 ps,.string dt] 124)) w.heap.size 124 [.int .u8 6,.int .u64 tk,.int .u64 ss,.int .u64 nb,.int .u64 ps,.string dt]:=heap_alloc_new w _
 have hz:(w.alloc (.cells #[.int .u8 6,.int .u64 tk,.int .u64 ss,.int .u64 nb,.int .u64 ps,.string dt] 124)).heap.size=w.heap.size+1:=by simp
 have mD:Below (w.alloc (.cells #[.int .u8 6,.int .u64 tk,.int .u64 ss,.int .u64 nb,.int .u64 ps,.string dt] 124)).heap.size (w.alloc (.cells #[.int .u8 6,.int .u64 tk,.int .u64 ss,.int .u64 nb,.int .u64 ps,.string dt] 124)) ((w.alloc (.cells #[.int .u8 6,.int .u64 tk,.int .u64 ss,.int .u64 nb,.int .u64 ps,.string dt] 124)).alloc (.cells #[.nilFunc,.nilFunc,.nilFunc,.nilFunc,.nilFunc,.nilFunc,.func (Fn.func 112) #[] #[],.func (Fn.func 113) #[] #[],.func (Fn.func 114) #[] #[],.func (Fn.func 115) #[] #[],.func (Fn.func 116) #[] #[],.func (Fn.func 117) #[] #[],.func (Fn.func 118) #[] #[],.func (Fn.func 119) #[] #[]] 199)):=(Below.refl _ _).alloc (Nat.le_refl _) _
 have nH:aK ((w.alloc (.cells #[.int .u8 6,.int .u64 tk,.int .u64 ss,.int .u64 nb,.int .u64 ps,.string dt] 124)).alloc (.cells #[.nilFunc,.nilFunc,.nilFunc,.nilFunc,.nilFunc,.nilFunc,.func (Fn.func 112) #[] #[],.func (Fn.func 113) #[] #[],.func (Fn.func 114) #[] #[],.func (Fn.func 115) #[] #[],.func (Fn.func 116) #[] #[],.func (Fn.func 117) #[] #[],.func (Fn.func 118) #[] #[],.func (Fn.func 119) #[] #[]] 199)) (w.alloc (.cells #[.int .u8 6,.int .u64 tk,.int .u64 ss,.int .u64 nb,.int .u64 ps,.string dt] 124)).heap.size 199 [.nilFunc,.nilFunc,.nilFunc,.nilFunc,.nilFunc,.nilFunc,.func (Fn.func 112) #[] #[],.func (Fn.func 113) #[] #[],.func (Fn.func 114) #[] #[],.func (Fn.func 115) #[] #[],.func (Fn.func 116) #[] #[],.func (Fn.func 117) #[] #[],.func (Fn.func 118) #[] #[],.func (Fn.func 119) #[] #[]]:=heap_alloc_new (w.alloc (.cells #[.int .u8 6,.int .u64 tk,.int .u64 ss,.int .u64 nb,.int .u64 ps,.string dt] 124)) (.cells #[.nilFunc,.nilFunc,.nilFunc,.nilFunc,.nilFunc,.nilFunc,.func (Fn.func 112) #[] #[],.func (Fn.func 113) #[] #[],.func (Fn.func 114) #[] #[],.func (Fn.func 115) #[] #[],.func (Fn.func 116) #[] #[],.func (Fn.func 117) #[] #[],.func (Fn.func 118) #[] #[],.func (Fn.func 119) #[] #[]] 199)
 have cu:=sG.below mD
 have eF:Below w.heap.size w ((w.alloc (.cells #[.int .u8 6,.int .u64 tk,.int .u64 ss,.int .u64 nb,.int .u64 ps,.string dt] 124)).alloc (.cells #[.nilFunc,.nilFunc,.nilFunc,.nilFunc,.nilFunc,.nilFunc,.func (Fn.func 112) #[] #[],.func (Fn.func 113) #[] #[],.func (Fn.func 114) #[] #[],.func (Fn.func 115) #[] #[],.func (Fn.func 116) #[] #[],.func (Fn.func 117) #[] #[],.func (Fn.func 118) #[] #[],.func (Fn.func 119) #[] #[]] 199)):=lJ.trans (mD.mono lJ.size)
 obtain⟨w0,hw0⟩:∃ w0,(w.alloc (.cells #[.int .u8 6,.int .u64 tk,.int .u64 ss,.int .u64 nb,.int .u64 ps,.string dt] 124))=w0:=⟨_,rfl⟩
 rw[hw0] at eF cu nH mD sG lJ hz
 obtain⟨w1,hw1⟩:∃ w1,w0.alloc (.cells #[.nilFunc,.nilFunc,.nilFunc,.nilFunc,.nilFunc,.nilFunc,.func (Fn.func 112) #[] #[],.func (Fn.func 113) #[] #[],.func (Fn.func 114) #[] #[],.func (Fn.func 115) #[] #[],.func (Fn.func 116) #[] #[],.func (Fn.func 117) #[] #[],.func (Fn.func 118) #[] #[],.func (Fn.func 119) #[] #[]] 199)=w1:=⟨_,rfl⟩
 rw[hw1] at eF cu nH mD
 have hzz:w0.heap.size=w.heap.size+1:=hz
 have hlt:=h.blk.lt
 have hne:g.b≠w.heap.size:=by omega
 have hne2:g.b≠w0.heap.size:=by omega
 have hA:=h.below eF
 have d12:w1.cell? ⟨g.b,12,none⟩=some (.int .i64 g.silence):=hA.blk.cell 12
 have f12:=hA.blk.frozen 12
 have hc2:aG (fun k=>k=g.b) w1 (w1.setCell ⟨g.b,12,none⟩ (.int .i64 0)):=(aG.refl _ _).setCell _ _ (fun _=>rfl)
 have hT:=hA.jS (g':={ g with silence:=0 }) hc2 (hA.blk.set 12 _) rfl rfl rfl rfl ⟨rfl,rfl,rfl⟩ h.ra h.rs h.rc h.rv
 have Di:=cu.dB hc2 (fun e=>hne e.symm)
 have Dj:=nH.dB hc2 (fun e=>hne2 e.symm)
 have uN:=hid (hT.before eF)
 have hst2:=hT.stat hA (hst.below eF)
 have HT:=hid hT
 have HST:=hid hst2
 have iR:=hid Di
 have HF3:=hid Dj
 have hlo2:lo≤(w1.setCell ⟨g.b,12,none⟩ (.int .i64 0)).heap.size:=Nat.le_trans hlo uN.out.grow.c.size
 have OT:=hid hiv
 have Ld:=hid hsg
 have t0:w1.cell? ⟨w.heap.size,0,none⟩=some (.int .u8 6):=cu.cell 0
 have tF:w1.cell? ⟨w0.heap.size,6,none⟩=some (.func (Fn.func 112) #[] #[]):=nH.cell 6
 have HZ:=hid hzz
 clear h hst hiv hsg hA eF lJ mD sG nH cu hc2 hT Di Dj hst2 hz hzz
 go_enter func88,ntmps88
 go_wp2_with fail
 obtain⟨w2,hw2⟩:∃ w2,(w1.setCell ⟨g.b,12,none⟩ (.int .i64 0))=w2:=⟨_,rfl⟩
 rw[hw2] at uN HT HST iR HF3 hlo2 ⊢
 clear hw2 d12 f12
 have r0:w2.cell? ⟨w.heap.size,0,none⟩=some (.int .u8 6):=iR.out.cell 0
 have r1:w2.cell? ⟨w.heap.size,1,none⟩=some (.int .u64 tk):=iR.out.cell 1
 have r2:w2.cell? ⟨w.heap.size,2,none⟩=some (.int .u64 ss):=iR.out.cell 2
 have r3:w2.cell? ⟨w.heap.size,3,none⟩=some (.int .u64 nb):=iR.out.cell 3
 have r4:w2.cell? ⟨w.heap.size,4,none⟩=some (.int .u64 ps):=iR.out.cell 4
 have r5:w2.cell? ⟨w.heap.size,5,none⟩=some (.string dt):=iR.out.cell 5
 have rF:w2.cell? ⟨w0.heap.size,6,none⟩=some (.func (Fn.func 112) #[] #[]):=HF3.out.cell 6
 go_wp2_with fail
 go_region_with (go_at_call 112;refine(Uc (w:=w2.drew) HT.out.cli.drew hS.silent ⟨6,tk,ss,nb,ps,dt⟩).mono ?_;rintro e w3 ⟨rfl,g3,h3⟩;have H3:=hid h3;clear h3)
 all_goals
  go_wp2_with fail
  go_end0
  exact⟨rfl,g3,by rw[HE.out];exact uN.out.trans (H3.out.before (Below.refl _ w2).drew)⟩
theorem ab6{lo:Nat}{w:World}{g:CG}{X:List aO}(h:Cli lo w g)(hS:vS g.st)(hlo:lo≤w.heap.size)(la:Option Addr)(ll lc:Nat)(hiv:g.iv=.slice la ll lc)(hst:Stat lo w (.slice la ll lc) X)(hsg:∀ s∈g.st.streams,s.got≤1000000000000∧s.values.length≤1000)(tk ss nb ps:Nat)(dt:ByteArray)(hp:nb≤1000000000000)(hd:dt.size≤1000):
  Calls Tryz.prog 88 #[.pointer (some ⟨g.b,0,none⟩),.agg #[.int .u8 7,.int .u64 tk,.int .u64 ss,.int .u64 nb,.int .u64 ps,.string dt]] w (fun e w'=>e=.returned (.tuple #[])∧∃ g',gG lo w g (g.st.take (dU X) g.R ⟨7,tk,ss,nb,ps,dt⟩) w' g'):=by
 have HE:=hid (show g.st.take (dU X) g.R ⟨7,tk,ss,nb,ps,dt⟩=({ g with silence:=0 }:CG).st.heard ⟨7,tk,ss,nb,ps,dt⟩ from rfl)
 have hq:∀ W,(binOp .eql 198 (.func (Fn.func 113) #[] #[]) .nilFunc).run Tryz.prog W=.ok (.bool false) W:=fun W=>tZ _ W
 have lJ:Below w.heap.size w (w.alloc (.cells #[.int .u8 7,.int .u64 tk,.int .u64 ss,.int .u64 nb,.int .u64 ps,.string dt] 124)):=(Below.refl _ w).alloc (Nat.le_refl _) _
 have sG:aK (w.alloc (.cells #[.int .u8 7,.int .u64 tk,.int .u64 ss,.int .u64 nb,.int .u64 ps,.string dt] 124)) w.heap.size 124 [.int .u8 7,.int .u64 tk,.int .u64 ss,.int .u64 nb,.int .u64 ps,.string dt]:=heap_alloc_new w _
 have hz:(w.alloc (.cells #[.int .u8 7,.int .u64 tk,.int .u64 ss,.int .u64 nb,.int .u64 ps,.string dt] 124)).heap.size=w.heap.size+1:=by simp
 have mD:Below (w.alloc (.cells #[.int .u8 7,.int .u64 tk,.int .u64 ss,.int .u64 nb,.int .u64 ps,.string dt] 124)).heap.size (w.alloc (.cells #[.int .u8 7,.int .u64 tk,.int .u64 ss,.int .u64 nb,.int .u64 ps,.string dt] 124)) ((w.alloc (.cells #[.int .u8 7,.int .u64 tk,.int .u64 ss,.int .u64 nb,.int .u64 ps,.string dt] 124)).alloc (.cells #[.nilFunc,.nilFunc,.nilFunc,.nilFunc,.nilFunc,.nilFunc,.func (Fn.func 112) #[] #[],.func (Fn.func 113) #[] #[],.func (Fn.func 114) #[] #[],.func (Fn.func 115) #[] #[],.func (Fn.func 116) #[] #[],.func (Fn.func 117) #[] #[],.func (Fn.func 118) #[] #[],.func (Fn.func 119) #[] #[]] 199)):=(Below.refl _ _).alloc (Nat.le_refl _) _
 have nH:aK ((w.alloc (.cells #[.int .u8 7,.int .u64 tk,.int .u64 ss,.int .u64 nb,.int .u64 ps,.string dt] 124)).alloc (.cells #[.nilFunc,.nilFunc,.nilFunc,.nilFunc,.nilFunc,.nilFunc,.func (Fn.func 112) #[] #[],.func (Fn.func 113) #[] #[],.func (Fn.func 114) #[] #[],.func (Fn.func 115) #[] #[],.func (Fn.func 116) #[] #[],.func (Fn.func 117) #[] #[],.func (Fn.func 118) #[] #[],.func (Fn.func 119) #[] #[]] 199)) (w.alloc (.cells #[.int .u8 7,.int .u64 tk,.int .u64 ss,.int .u64 nb,.int .u64 ps,.string dt] 124)).heap.size 199 [.nilFunc,.nilFunc,.nilFunc,.nilFunc,.nilFunc,.nilFunc,.func (Fn.func 112) #[] #[],.func (Fn.func 113) #[] #[],.func (Fn.func 114) #[] #[],.func (Fn.func 115) #[] #[],.func (Fn.func 116) #[] #[],.func (Fn.func 117) #[] #[],.func (Fn.func 118) #[] #[],.func (Fn.func 119) #[] #[]]:=heap_alloc_new (w.alloc (.cells #[.int .u8 7,.int .u64 tk,.int .u64 ss,.int .u64 nb,.int .u64 ps,.string dt] 124)) (.cells #[.nilFunc,.nilFunc,.nilFunc,.nilFunc,.nilFunc,.nilFunc,.func (Fn.func 112) #[] #[],.func (Fn.func 113) #[] #[],.func (Fn.func 114) #[] #[],.func (Fn.func 115) #[] #[],.func (Fn.func 116) #[] #[],.func (Fn.func 117) #[] #[],.func (Fn.func 118) #[] #[],.func (Fn.func 119) #[] #[]] 199)
 have cu:=sG.below mD
 have eF:Below w.heap.size w ((w.alloc (.cells #[.int .u8 7,.int .u64 tk,.int .u64 ss,.int .u64 nb,.int .u64 ps,.string dt] 124)).alloc (.cells #[.nilFunc,.nilFunc,.nilFunc,.nilFunc,.nilFunc,.nilFunc,.func (Fn.func 112) #[] #[],.func (Fn.func 113) #[] #[],.func (Fn.func 114) #[] #[],.func (Fn.func 115) #[] #[],.func (Fn.func 116) #[] #[],.func (Fn.func 117) #[] #[],.func (Fn.func 118) #[] #[],.func (Fn.func 119) #[] #[]] 199)):=lJ.trans (mD.mono lJ.size)
 obtain⟨w0,hw0⟩:∃ w0,(w.alloc (.cells #[.int .u8 7,.int .u64 tk,.int .u64 ss,.int .u64 nb,.int .u64 ps,.string dt] 124))=w0:=⟨_,rfl⟩
 rw[hw0] at eF cu nH mD sG lJ hz
 obtain⟨w1,hw1⟩:∃ w1,w0.alloc (.cells #[.nilFunc,.nilFunc,.nilFunc,.nilFunc,.nilFunc,.nilFunc,.func (Fn.func 112) #[] #[],.func (Fn.func 113) #[] #[],.func (Fn.func 114) #[] #[],.func (Fn.func 115) #[] #[],.func (Fn.func 116) #[] #[],.func (Fn.func 117) #[] #[],.func (Fn.func 118) #[] #[],.func (Fn.func 119) #[] #[]] 199)=w1:=⟨_,rfl⟩
 rw[hw1] at eF cu nH mD
 have hzz:w0.heap.size=w.heap.size+1:=hz
 have hlt:=h.blk.lt
 have hne:g.b≠w.heap.size:=by omega
 have hne2:g.b≠w0.heap.size:=by omega
 have hA:=h.below eF
 have d12:w1.cell? ⟨g.b,12,none⟩=some (.int .i64 g.silence):=hA.blk.cell 12
 have f12:=hA.blk.frozen 12
 have hc2:aG (fun k=>k=g.b) w1 (w1.setCell ⟨g.b,12,none⟩ (.int .i64 0)):=(aG.refl _ _).setCell _ _ (fun _=>rfl)
 have hT:=hA.jS (g':={ g with silence:=0 }) hc2 (hA.blk.set 12 _) rfl rfl rfl rfl ⟨rfl,rfl,rfl⟩ h.ra h.rs h.rc h.rv
 have Di:=cu.dB hc2 (fun e=>hne e.symm)
 have Dj:=nH.dB hc2 (fun e=>hne2 e.symm)
 have uN:=hid (hT.before eF)
 have hst2:=hT.stat hA (hst.below eF)
 have HT:=hid hT
 have HST:=hid hst2
 have iR:=hid Di
 have HF3:=hid Dj
 have hlo2:lo≤(w1.setCell ⟨g.b,12,none⟩ (.int .i64 0)).heap.size:=Nat.le_trans hlo uN.out.grow.c.size
 have OT:=hid hiv
 have Ld:=hid hsg
 have t0:w1.cell? ⟨w.heap.size,0,none⟩=some (.int .u8 7):=cu.cell 0
 have tF:w1.cell? ⟨w0.heap.size,7,none⟩=some (.func (Fn.func 113) #[] #[]):=nH.cell 7
 have HZ:=hid hzz
 clear h hst hiv hsg hA eF lJ mD sG nH cu hc2 hT Di Dj hst2 hz hzz
 go_enter func88,ntmps88
 go_wp2_with fail
 obtain⟨w2,hw2⟩:∃ w2,(w1.setCell ⟨g.b,12,none⟩ (.int .i64 0))=w2:=⟨_,rfl⟩
 rw[hw2] at uN HT HST iR HF3 hlo2 ⊢
 clear hw2 d12 f12
 have r0:w2.cell? ⟨w.heap.size,0,none⟩=some (.int .u8 7):=iR.out.cell 0
 have r1:w2.cell? ⟨w.heap.size,1,none⟩=some (.int .u64 tk):=iR.out.cell 1
 have r2:w2.cell? ⟨w.heap.size,2,none⟩=some (.int .u64 ss):=iR.out.cell 2
 have r3:w2.cell? ⟨w.heap.size,3,none⟩=some (.int .u64 nb):=iR.out.cell 3
 have r4:w2.cell? ⟨w.heap.size,4,none⟩=some (.int .u64 ps):=iR.out.cell 4
 have r5:w2.cell? ⟨w.heap.size,5,none⟩=some (.string dt):=iR.out.cell 5
 have rF:w2.cell? ⟨w0.heap.size,7,none⟩=some (.func (Fn.func 113) #[] #[]):=HF3.out.cell 7
 go_wp2_with fail
 go_region_with (go_at_call 113;refine(aa2 (w:=w2.drew) HT.out.cli.drew hS.silent ⟨7,tk,ss,nb,ps,dt⟩).mono ?_;rintro e w3 ⟨rfl,g3,h3⟩;have H3:=hid h3;clear h3)
 all_goals
  go_wp2_with fail
  go_end0
  exact⟨rfl,g3,by rw[HE.out];exact uN.out.trans (H3.out.before (Below.refl _ w2).drew)⟩
theorem Y6{lo:Nat}{w:World}{g:CG}{X:List aO}(h:Cli lo w g)(hS:vS g.st)(hlo:lo≤w.heap.size)(la:Option Addr)(ll lc:Nat)(hiv:g.iv=.slice la ll lc)(hst:Stat lo w (.slice la ll lc) X)(hsg:∀ s∈g.st.streams,s.got≤1000000000000∧s.values.length≤1000)(tk ss nb ps:Nat)(dt:ByteArray)(hp:nb≤1000000000000)(hd:dt.size≤1000):
  Calls Tryz.prog 88 #[.pointer (some ⟨g.b,0,none⟩),.agg #[.int .u8 13,.int .u64 tk,.int .u64 ss,.int .u64 nb,.int .u64 ps,.string dt]] w (fun e w'=>e=.returned (.tuple #[])∧∃ g',gG lo w g (g.st.take (dU X) g.R ⟨13,tk,ss,nb,ps,dt⟩) w' g'):=by
 have HE:=hid (show g.st.take (dU X) g.R ⟨13,tk,ss,nb,ps,dt⟩=({ g with silence:=0 }:CG).st.unknown ⟨13,tk,ss,nb,ps,dt⟩ from rfl)
 have hq:∀ W,(binOp .eql 198 (.func (Fn.func 119) #[] #[]) .nilFunc).run Tryz.prog W=.ok (.bool false) W:=fun W=>tZ _ W
 have lJ:Below w.heap.size w (w.alloc (.cells #[.int .u8 13,.int .u64 tk,.int .u64 ss,.int .u64 nb,.int .u64 ps,.string dt] 124)):=(Below.refl _ w).alloc (Nat.le_refl _) _
 have sG:aK (w.alloc (.cells #[.int .u8 13,.int .u64 tk,.int .u64 ss,.int .u64 nb,.int .u64 ps,.string dt] 124)) w.heap.size 124 [.int .u8 13,.int .u64 tk,.int .u64 ss,.int .u64 nb,.int .u64 ps,.string dt]:=heap_alloc_new w _
 have hz:(w.alloc (.cells #[.int .u8 13,.int .u64 tk,.int .u64 ss,.int .u64 nb,.int .u64 ps,.string dt] 124)).heap.size=w.heap.size+1:=by simp
 have mD:Below (w.alloc (.cells #[.int .u8 13,.int .u64 tk,.int .u64 ss,.int .u64 nb,.int .u64 ps,.string dt] 124)).heap.size (w.alloc (.cells #[.int .u8 13,.int .u64 tk,.int .u64 ss,.int .u64 nb,.int .u64 ps,.string dt] 124)) ((w.alloc (.cells #[.int .u8 13,.int .u64 tk,.int .u64 ss,.int .u64 nb,.int .u64 ps,.string dt] 124)).alloc (.cells #[.nilFunc,.nilFunc,.nilFunc,.nilFunc,.nilFunc,.nilFunc,.func (Fn.func 112) #[] #[],.func (Fn.func 113) #[] #[],.func (Fn.func 114) #[] #[],.func (Fn.func 115) #[] #[],.func (Fn.func 116) #[] #[],.func (Fn.func 117) #[] #[],.func (Fn.func 118) #[] #[],.func (Fn.func 119) #[] #[]] 199)):=(Below.refl _ _).alloc (Nat.le_refl _) _
 have nH:aK ((w.alloc (.cells #[.int .u8 13,.int .u64 tk,.int .u64 ss,.int .u64 nb,.int .u64 ps,.string dt] 124)).alloc (.cells #[.nilFunc,.nilFunc,.nilFunc,.nilFunc,.nilFunc,.nilFunc,.func (Fn.func 112) #[] #[],.func (Fn.func 113) #[] #[],.func (Fn.func 114) #[] #[],.func (Fn.func 115) #[] #[],.func (Fn.func 116) #[] #[],.func (Fn.func 117) #[] #[],.func (Fn.func 118) #[] #[],.func (Fn.func 119) #[] #[]] 199)) (w.alloc (.cells #[.int .u8 13,.int .u64 tk,.int .u64 ss,.int .u64 nb,.int .u64 ps,.string dt] 124)).heap.size 199 [.nilFunc,.nilFunc,.nilFunc,.nilFunc,.nilFunc,.nilFunc,.func (Fn.func 112) #[] #[],.func (Fn.func 113) #[] #[],.func (Fn.func 114) #[] #[],.func (Fn.func 115) #[] #[],.func (Fn.func 116) #[] #[],.func (Fn.func 117) #[] #[],.func (Fn.func 118) #[] #[],.func (Fn.func 119) #[] #[]]:=heap_alloc_new (w.alloc (.cells #[.int .u8 13,.int .u64 tk,.int .u64 ss,.int .u64 nb,.int .u64 ps,.string dt] 124)) (.cells #[.nilFunc,.nilFunc,.nilFunc,.nilFunc,.nilFunc,.nilFunc,.func (Fn.func 112) #[] #[],.func (Fn.func 113) #[] #[],.func (Fn.func 114) #[] #[],.func (Fn.func 115) #[] #[],.func (Fn.func 116) #[] #[],.func (Fn.func 117) #[] #[],.func (Fn.func 118) #[] #[],.func (Fn.func 119) #[] #[]] 199)
 have cu:=sG.below mD
 have eF:Below w.heap.size w ((w.alloc (.cells #[.int .u8 13,.int .u64 tk,.int .u64 ss,.int .u64 nb,.int .u64 ps,.string dt] 124)).alloc (.cells #[.nilFunc,.nilFunc,.nilFunc,.nilFunc,.nilFunc,.nilFunc,.func (Fn.func 112) #[] #[],.func (Fn.func 113) #[] #[],.func (Fn.func 114) #[] #[],.func (Fn.func 115) #[] #[],.func (Fn.func 116) #[] #[],.func (Fn.func 117) #[] #[],.func (Fn.func 118) #[] #[],.func (Fn.func 119) #[] #[]] 199)):=lJ.trans (mD.mono lJ.size)
 obtain⟨w0,hw0⟩:∃ w0,(w.alloc (.cells #[.int .u8 13,.int .u64 tk,.int .u64 ss,.int .u64 nb,.int .u64 ps,.string dt] 124))=w0:=⟨_,rfl⟩
 rw[hw0] at eF cu nH mD sG lJ hz
 obtain⟨w1,hw1⟩:∃ w1,w0.alloc (.cells #[.nilFunc,.nilFunc,.nilFunc,.nilFunc,.nilFunc,.nilFunc,.func (Fn.func 112) #[] #[],.func (Fn.func 113) #[] #[],.func (Fn.func 114) #[] #[],.func (Fn.func 115) #[] #[],.func (Fn.func 116) #[] #[],.func (Fn.func 117) #[] #[],.func (Fn.func 118) #[] #[],.func (Fn.func 119) #[] #[]] 199)=w1:=⟨_,rfl⟩
 rw[hw1] at eF cu nH mD
 have hzz:w0.heap.size=w.heap.size+1:=hz
 have hlt:=h.blk.lt
 have hne:g.b≠w.heap.size:=by omega
 have hne2:g.b≠w0.heap.size:=by omega
 have hA:=h.below eF
 have d12:w1.cell? ⟨g.b,12,none⟩=some (.int .i64 g.silence):=hA.blk.cell 12
 have f12:=hA.blk.frozen 12
 have hc2:aG (fun k=>k=g.b) w1 (w1.setCell ⟨g.b,12,none⟩ (.int .i64 0)):=(aG.refl _ _).setCell _ _ (fun _=>rfl)
 have hT:=hA.jS (g':={ g with silence:=0 }) hc2 (hA.blk.set 12 _) rfl rfl rfl rfl ⟨rfl,rfl,rfl⟩ h.ra h.rs h.rc h.rv
 have Di:=cu.dB hc2 (fun e=>hne e.symm)
 have Dj:=nH.dB hc2 (fun e=>hne2 e.symm)
 have uN:=hid (hT.before eF)
 have hst2:=hT.stat hA (hst.below eF)
 have HT:=hid hT
 have HST:=hid hst2
 have iR:=hid Di
 have HF3:=hid Dj
 have hlo2:lo≤(w1.setCell ⟨g.b,12,none⟩ (.int .i64 0)).heap.size:=Nat.le_trans hlo uN.out.grow.c.size
 have OT:=hid hiv
 have Ld:=hid hsg
 have t0:w1.cell? ⟨w.heap.size,0,none⟩=some (.int .u8 13):=cu.cell 0
 have tF:w1.cell? ⟨w0.heap.size,13,none⟩=some (.func (Fn.func 119) #[] #[]):=nH.cell 13
 have HZ:=hid hzz
 clear h hst hiv hsg hA eF lJ mD sG nH cu hc2 hT Di Dj hst2 hz hzz
 go_enter func88,ntmps88
 go_wp2_with fail
 obtain⟨w2,hw2⟩:∃ w2,(w1.setCell ⟨g.b,12,none⟩ (.int .i64 0))=w2:=⟨_,rfl⟩
 rw[hw2] at uN HT HST iR HF3 hlo2 ⊢
 clear hw2 d12 f12
 have r0:w2.cell? ⟨w.heap.size,0,none⟩=some (.int .u8 13):=iR.out.cell 0
 have r1:w2.cell? ⟨w.heap.size,1,none⟩=some (.int .u64 tk):=iR.out.cell 1
 have r2:w2.cell? ⟨w.heap.size,2,none⟩=some (.int .u64 ss):=iR.out.cell 2
 have r3:w2.cell? ⟨w.heap.size,3,none⟩=some (.int .u64 nb):=iR.out.cell 3
 have r4:w2.cell? ⟨w.heap.size,4,none⟩=some (.int .u64 ps):=iR.out.cell 4
 have r5:w2.cell? ⟨w.heap.size,5,none⟩=some (.string dt):=iR.out.cell 5
 have rF:w2.cell? ⟨w0.heap.size,13,none⟩=some (.func (Fn.func 119) #[] #[]):=HF3.out.cell 13
 go_wp2_with fail
 go_region_with (go_at_call 119;refine(Ua (w:=w2.drew) HT.out.cli.drew hlo2 hS.silent ⟨13,tk,ss,nb,ps,dt⟩).mono ?_;rintro e w3 ⟨rfl,g3,h3⟩;have H3:=hid h3;clear h3)
 all_goals
  go_wp2_with fail
  go_end0
  exact⟨rfl,g3,by rw[HE.out];exact uN.out.trans (H3.out.before (Below.refl _ w2).drew)⟩
end Go.Proofs.YtolfcabodiphmaaGreatDoor
