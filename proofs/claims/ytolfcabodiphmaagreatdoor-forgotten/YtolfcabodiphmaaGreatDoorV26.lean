/- Package ends: the server: take, whatever the payload asks for. -/
import Derived.Test.YtolfcabodiphmaaGreatDoorV25
import Derived.Laws.EntriesVeiled
set_option linter.unusedSimpArgs false
set_option linter.unusedVariables false
set_option maxHeartbeats 4000000
set_option maxRecDepth 100000
namespace Go.Proofs.YtolfcabodiphmaaGreatDoor
open Go.Proofs.Tryz
open Go.RowKit Go.Conc
def SG.fresh(g:SG):SG:={ g with aT:=g.aT.map (fun s=>{ s with silence:=0 }) }
theorem SG.kP{g:SG}(h:g.aT=none):g.fresh=g:=by
 unfold SG.fresh
 cases g
 simp only at h
 subst h
 rfl
theorem SG.qw{g:SG}{s:gy}(h:g.aT=some s):g.fresh = { g with aT:=some { s with silence:=0 } }:=by
 unfold SG.fresh
 rw[h]
 rfl
theorem Y2{lo:Nat}{w:World}{g:SG}{q:SP}(h:Srv lo w g)(hs:g.aT=none)(tk ss nb ps:Nat)(dt:ByteArray)(hC:∀ w2,dV lo w g g.fresh.st w2 g.fresh→Calls Tryz.prog 120 #[.pointer (some ⟨g.b,0,none⟩),.agg #[.int .u8 0,.int .u64 tk,.int .u64 ss,.int .u64 nb,.int .u64 ps,.string dt]] w2 (fun e w'=>e=.returned (.tuple #[])∧∃ g',dV lo w2 g.fresh q w' g')):
  Calls Tryz.prog 89 #[.pointer (some ⟨g.b,0,none⟩),.agg #[.int .u8 0,.int .u64 tk,.int .u64 ss,.int .u64 nb,.int .u64 ps,.string dt]] w (fun e w'=>e=.returned (.tuple #[])∧∃ g',dV lo w g q w' g'):=by
 have e:=SG.kP hs
 rw[e] at hC
 have lJ:Below w.heap.size w (w.alloc (.cells #[.int .u8 0,.int .u64 tk,.int .u64 ss,.int .u64 nb,.int .u64 ps,.string dt] 124)):=(Below.refl _ w).alloc (Nat.le_refl _) _
 have sG:aK (w.alloc (.cells #[.int .u8 0,.int .u64 tk,.int .u64 ss,.int .u64 nb,.int .u64 ps,.string dt] 124)) w.heap.size 124 [.int .u8 0,.int .u64 tk,.int .u64 ss,.int .u64 nb,.int .u64 ps,.string dt]:=heap_alloc_new w _
 obtain⟨w0,hw0⟩:∃ w0,(w.alloc (.cells #[.int .u8 0,.int .u64 tk,.int .u64 ss,.int .u64 nb,.int .u64 ps,.string dt] 124))=w0:=⟨_,rfl⟩
 rw[hw0] at sG lJ
 have mD:Below w0.heap.size w0 (w0.alloc (.cells #[.func (Fn.func 120) #[] #[],.func (Fn.func 121) #[] #[],.func (Fn.func 122) #[] #[],.func (Fn.func 123) #[] #[],.func (Fn.func 124) #[] #[],.func (Fn.func 125) #[] #[]] 201)):=(Below.refl _ _).alloc (Nat.le_refl _) _
 have nH:aK (w0.alloc (.cells #[.func (Fn.func 120) #[] #[],.func (Fn.func 121) #[] #[],.func (Fn.func 122) #[] #[],.func (Fn.func 123) #[] #[],.func (Fn.func 124) #[] #[],.func (Fn.func 125) #[] #[]] 201)) w0.heap.size 201 [.func (Fn.func 120) #[] #[],.func (Fn.func 121) #[] #[],.func (Fn.func 122) #[] #[],.func (Fn.func 123) #[] #[],.func (Fn.func 124) #[] #[],.func (Fn.func 125) #[] #[]]:=heap_alloc_new w0 (.cells #[.func (Fn.func 120) #[] #[],.func (Fn.func 121) #[] #[],.func (Fn.func 122) #[] #[],.func (Fn.func 123) #[] #[],.func (Fn.func 124) #[] #[],.func (Fn.func 125) #[] #[]] 201)
 have cu:=sG.below mD
 have eF:=lJ.trans (mD.mono lJ.size)
 obtain⟨w1,hw1⟩:∃ w1,w0.alloc (.cells #[.func (Fn.func 120) #[] #[],.func (Fn.func 121) #[] #[],.func (Fn.func 122) #[] #[],.func (Fn.func 123) #[] #[],.func (Fn.func 124) #[] #[],.func (Fn.func 125) #[] #[]] 201)=w1:=⟨_,rfl⟩
 rw[hw1] at eF cu nH mD
 have hA:=h.below eF
 have d10:w1.cell? ⟨g.b,10,none⟩=some (.map (some g.ms)):=hA.blk.cell 10
 have t0:w1.cell? ⟨w.heap.size,0,none⟩=some (.int .u8 0):=cu.cell 0
 have t1:w1.cell? ⟨w.heap.size,1,none⟩=some (.int .u64 tk):=cu.cell 1
 have t2:w1.cell? ⟨w.heap.size,2,none⟩=some (.int .u64 ss):=cu.cell 2
 have t3:w1.cell? ⟨w.heap.size,3,none⟩=some (.int .u64 nb):=cu.cell 3
 have t4:w1.cell? ⟨w.heap.size,4,none⟩=some (.int .u64 ps):=cu.cell 4
 have t5:w1.cell? ⟨w.heap.size,5,none⟩=some (.string dt):=cu.cell 5
 have tF:w1.cell? ⟨w0.heap.size,0,none⟩=some (.func (Fn.func 120) #[] #[]):=nH.cell 0
 have hm:bF w1 g.ms []:=by have:=hA.iW;rw[hs] at this;exact this
 have hlk:=iC hm tk
 have hlk2:=iC hm.drew tk
 have HC:=hid (hC w1.drew.drew (dV.refl h eF.drew.drew))
 have Hb:=hid eF.drew.drew
 clear h hs hC e hA eF lJ mD sG nH cu hm
 go_enter func89,ntmps89
 go_wp2_with fail
 go_region
 all_goals
  go_wp2_with fail
  go_region_with (go_at_call 120;refine HC.out.mono ?_;rintro e w3 ⟨rfl,g3,h3⟩;have H3:=hid h3;clear h3)
  all_goals
   go_wp2_with fail
   go_end0
   exact⟨rfl,g3,H3.out.before Hb.out⟩
theorem Y3{lo:Nat}{w:World}{g:SG}{q:SP}(h:Srv lo w g)(hs:g.aT=none)(tk ss nb ps:Nat)(dt:ByteArray)(hC:∀ w2,dV lo w g g.fresh.st w2 g.fresh→Calls Tryz.prog 121 #[.pointer (some ⟨g.b,0,none⟩),.agg #[.int .u8 1,.int .u64 tk,.int .u64 ss,.int .u64 nb,.int .u64 ps,.string dt]] w2 (fun e w'=>e=.returned (.tuple #[])∧∃ g',dV lo w2 g.fresh q w' g')):
  Calls Tryz.prog 89 #[.pointer (some ⟨g.b,0,none⟩),.agg #[.int .u8 1,.int .u64 tk,.int .u64 ss,.int .u64 nb,.int .u64 ps,.string dt]] w (fun e w'=>e=.returned (.tuple #[])∧∃ g',dV lo w g q w' g'):=by
 have e:=SG.kP hs
 rw[e] at hC
 have lJ:Below w.heap.size w (w.alloc (.cells #[.int .u8 1,.int .u64 tk,.int .u64 ss,.int .u64 nb,.int .u64 ps,.string dt] 124)):=(Below.refl _ w).alloc (Nat.le_refl _) _
 have sG:aK (w.alloc (.cells #[.int .u8 1,.int .u64 tk,.int .u64 ss,.int .u64 nb,.int .u64 ps,.string dt] 124)) w.heap.size 124 [.int .u8 1,.int .u64 tk,.int .u64 ss,.int .u64 nb,.int .u64 ps,.string dt]:=heap_alloc_new w _
 obtain⟨w0,hw0⟩:∃ w0,(w.alloc (.cells #[.int .u8 1,.int .u64 tk,.int .u64 ss,.int .u64 nb,.int .u64 ps,.string dt] 124))=w0:=⟨_,rfl⟩
 rw[hw0] at sG lJ
 have mD:Below w0.heap.size w0 (w0.alloc (.cells #[.func (Fn.func 120) #[] #[],.func (Fn.func 121) #[] #[],.func (Fn.func 122) #[] #[],.func (Fn.func 123) #[] #[],.func (Fn.func 124) #[] #[],.func (Fn.func 125) #[] #[]] 201)):=(Below.refl _ _).alloc (Nat.le_refl _) _
 have nH:aK (w0.alloc (.cells #[.func (Fn.func 120) #[] #[],.func (Fn.func 121) #[] #[],.func (Fn.func 122) #[] #[],.func (Fn.func 123) #[] #[],.func (Fn.func 124) #[] #[],.func (Fn.func 125) #[] #[]] 201)) w0.heap.size 201 [.func (Fn.func 120) #[] #[],.func (Fn.func 121) #[] #[],.func (Fn.func 122) #[] #[],.func (Fn.func 123) #[] #[],.func (Fn.func 124) #[] #[],.func (Fn.func 125) #[] #[]]:=heap_alloc_new w0 (.cells #[.func (Fn.func 120) #[] #[],.func (Fn.func 121) #[] #[],.func (Fn.func 122) #[] #[],.func (Fn.func 123) #[] #[],.func (Fn.func 124) #[] #[],.func (Fn.func 125) #[] #[]] 201)
 have cu:=sG.below mD
 have eF:=lJ.trans (mD.mono lJ.size)
 obtain⟨w1,hw1⟩:∃ w1,w0.alloc (.cells #[.func (Fn.func 120) #[] #[],.func (Fn.func 121) #[] #[],.func (Fn.func 122) #[] #[],.func (Fn.func 123) #[] #[],.func (Fn.func 124) #[] #[],.func (Fn.func 125) #[] #[]] 201)=w1:=⟨_,rfl⟩
 rw[hw1] at eF cu nH mD
 have hA:=h.below eF
 have d10:w1.cell? ⟨g.b,10,none⟩=some (.map (some g.ms)):=hA.blk.cell 10
 have t0:w1.cell? ⟨w.heap.size,0,none⟩=some (.int .u8 1):=cu.cell 0
 have t1:w1.cell? ⟨w.heap.size,1,none⟩=some (.int .u64 tk):=cu.cell 1
 have t2:w1.cell? ⟨w.heap.size,2,none⟩=some (.int .u64 ss):=cu.cell 2
 have t3:w1.cell? ⟨w.heap.size,3,none⟩=some (.int .u64 nb):=cu.cell 3
 have t4:w1.cell? ⟨w.heap.size,4,none⟩=some (.int .u64 ps):=cu.cell 4
 have t5:w1.cell? ⟨w.heap.size,5,none⟩=some (.string dt):=cu.cell 5
 have tF:w1.cell? ⟨w0.heap.size,1,none⟩=some (.func (Fn.func 121) #[] #[]):=nH.cell 1
 have hm:bF w1 g.ms []:=by have:=hA.iW;rw[hs] at this;exact this
 have hlk:=iC hm tk
 have hlk2:=iC hm.drew tk
 have HC:=hid (hC w1.drew.drew (dV.refl h eF.drew.drew))
 have Hb:=hid eF.drew.drew
 clear h hs hC e hA eF lJ mD sG nH cu hm
 go_enter func89,ntmps89
 go_wp2_with fail
 go_region
 all_goals
  go_wp2_with fail
  go_region_with (go_at_call 121;refine HC.out.mono ?_;rintro e w3 ⟨rfl,g3,h3⟩;have H3:=hid h3;clear h3)
  all_goals
   go_wp2_with fail
   go_end0
   exact⟨rfl,g3,H3.out.before Hb.out⟩
theorem Y4{lo:Nat}{w:World}{g:SG}{s:gy}{q:SP}(h:Srv lo w g)(hs:g.aT=some s)(tk ss nb ps:Nat)(dt:ByteArray)(ht:s.token=tk)(hC:∀ w2,dV lo w g g.fresh.st w2 g.fresh→Calls Tryz.prog 121 #[.pointer (some ⟨g.b,0,none⟩),.agg #[.int .u8 1,.int .u64 tk,.int .u64 ss,.int .u64 nb,.int .u64 ps,.string dt]] w2 (fun e w'=>e=.returned (.tuple #[])∧∃ g',dV lo w2 g.fresh q w' g')):
  Calls Tryz.prog 89 #[.pointer (some ⟨g.b,0,none⟩),.agg #[.int .u8 1,.int .u64 tk,.int .u64 ss,.int .u64 nb,.int .u64 ps,.string dt]] w (fun e w'=>e=.returned (.tuple #[])∧∃ g',dV lo w g q w' g'):=by
 have e:=SG.qw hs
 rw[e] at hC
 have lJ:Below w.heap.size w (w.alloc (.cells #[.int .u8 1,.int .u64 tk,.int .u64 ss,.int .u64 nb,.int .u64 ps,.string dt] 124)):=(Below.refl _ w).alloc (Nat.le_refl _) _
 have sG:aK (w.alloc (.cells #[.int .u8 1,.int .u64 tk,.int .u64 ss,.int .u64 nb,.int .u64 ps,.string dt] 124)) w.heap.size 124 [.int .u8 1,.int .u64 tk,.int .u64 ss,.int .u64 nb,.int .u64 ps,.string dt]:=heap_alloc_new w _
 obtain⟨w0,hw0⟩:∃ w0,(w.alloc (.cells #[.int .u8 1,.int .u64 tk,.int .u64 ss,.int .u64 nb,.int .u64 ps,.string dt] 124))=w0:=⟨_,rfl⟩
 rw[hw0] at sG lJ
 have mD:Below w0.heap.size w0 (w0.alloc (.cells #[.func (Fn.func 120) #[] #[],.func (Fn.func 121) #[] #[],.func (Fn.func 122) #[] #[],.func (Fn.func 123) #[] #[],.func (Fn.func 124) #[] #[],.func (Fn.func 125) #[] #[]] 201)):=(Below.refl _ _).alloc (Nat.le_refl _) _
 have nH:aK (w0.alloc (.cells #[.func (Fn.func 120) #[] #[],.func (Fn.func 121) #[] #[],.func (Fn.func 122) #[] #[],.func (Fn.func 123) #[] #[],.func (Fn.func 124) #[] #[],.func (Fn.func 125) #[] #[]] 201)) w0.heap.size 201 [.func (Fn.func 120) #[] #[],.func (Fn.func 121) #[] #[],.func (Fn.func 122) #[] #[],.func (Fn.func 123) #[] #[],.func (Fn.func 124) #[] #[],.func (Fn.func 125) #[] #[]]:=heap_alloc_new w0 (.cells #[.func (Fn.func 120) #[] #[],.func (Fn.func 121) #[] #[],.func (Fn.func 122) #[] #[],.func (Fn.func 123) #[] #[],.func (Fn.func 124) #[] #[],.func (Fn.func 125) #[] #[]] 201)
 have cu:=sG.below mD
 have eF:=lJ.trans (mD.mono lJ.size)
 obtain⟨w1,hw1⟩:∃ w1,w0.alloc (.cells #[.func (Fn.func 120) #[] #[],.func (Fn.func 121) #[] #[],.func (Fn.func 122) #[] #[],.func (Fn.func 123) #[] #[],.func (Fn.func 124) #[] #[],.func (Fn.func 125) #[] #[]] 201)=w1:=⟨_,rfl⟩
 rw[hw1] at eF cu nH mD
 have hA:=h.below eF
 have d10:w1.cell? ⟨g.b,10,none⟩=some (.map (some g.ms)):=hA.blk.cell 10
 have t0:w1.cell? ⟨w.heap.size,0,none⟩=some (.int .u8 1):=cu.cell 0
 have t1:w1.cell? ⟨w.heap.size,1,none⟩=some (.int .u64 tk):=cu.cell 1
 have t2:w1.cell? ⟨w.heap.size,2,none⟩=some (.int .u64 ss):=cu.cell 2
 have t3:w1.cell? ⟨w.heap.size,3,none⟩=some (.int .u64 nb):=cu.cell 3
 have t4:w1.cell? ⟨w.heap.size,4,none⟩=some (.int .u64 ps):=cu.cell 4
 have t5:w1.cell? ⟨w.heap.size,5,none⟩=some (.string dt):=cu.cell 5
 have tF:w1.cell? ⟨w0.heap.size,1,none⟩=some (.func (Fn.func 121) #[] #[]):=nH.cell 1
 have hm:bF w1 g.ms [(tk,s.blk)]:=by have:=hA.iW;rw[hs] at this;rw[← ht];exact this
 have hlk:(Instr.lookup 100 (.map (some g.ms)) (.int .u64 tk) false).run Tryz.prog w1=.ok (.pointer (some ⟨s.blk,0,none⟩)) w1:=dA hm
 have hlk2:(Instr.lookup 100 (.map (some g.ms)) (.int .u64 tk) false).run Tryz.prog w1.drew=.ok (.pointer (some ⟨s.blk,0,none⟩)) w1.drew:=dA hm.drew
 have hSb:=hA.drew.jm hs
 have c3:w1.drew.cell? ⟨s.blk,3,none⟩=some (.int .i64 s.silence):=hSb.cell 3
 have f3:=hSb.frozen 3
 have hB3:aK (w1.drew.setCell ⟨s.blk,3,none⟩ (.int .i64 0)) s.blk 132 (fJ { s with silence:=0 }):=hSb.set 3 _
 have hc3:aG (fun k=>k=s.blk) w1.drew (w1.drew.setCell ⟨s.blk,3,none⟩ (.int .i64 0)):=(aG.refl (fun k=>k=s.blk) w1.drew).setCell ⟨s.blk,3,none⟩ _ (fun _=>rfl)
 have hsl:s.blk<w.heap.size:=(h.jm hs).lt
 have hT:=(dV.refl h eF.drew).trans (hA.drew.C9 (s':={ s with silence:=0 }) hs hc3 hB3 rfl rfl ⟨rfl,rfl,rfl,rfl⟩)
 have hP3:=aK.dB (w:=w1.drew) cu hc3 (fun e=>by have e:w.heap.size=s.blk:=e;omega)
 have hF3:=aK.dB (w:=w1.drew) nH hc3 (fun e=>by have e:w0.heap.size=s.blk:=e;have:=lJ.size;omega)
 obtain⟨w2,hw2⟩:∃ w2,w1.drew.setCell ⟨s.blk,3,none⟩ (.int .i64 0)=w2:=⟨_,rfl⟩
 rw[hw2] at hT hP3 hF3
 have x0:w2.cell? ⟨w.heap.size,0,none⟩=some (.int .u8 1):=hP3.cell 0
 have x1:w2.cell? ⟨w.heap.size,1,none⟩=some (.int .u64 tk):=hP3.cell 1
 have x2:w2.cell? ⟨w.heap.size,2,none⟩=some (.int .u64 ss):=hP3.cell 2
 have x3:w2.cell? ⟨w.heap.size,3,none⟩=some (.int .u64 nb):=hP3.cell 3
 have x4:w2.cell? ⟨w.heap.size,4,none⟩=some (.int .u64 ps):=hP3.cell 4
 have x5:w2.cell? ⟨w.heap.size,5,none⟩=some (.string dt):=hP3.cell 5
 have xF:w2.cell? ⟨w0.heap.size,1,none⟩=some (.func (Fn.func 121) #[] #[]):=hF3.cell 1
 have HT:=hid (hT.below (Below.refl _ w2).drew)
 have HC:=hid (hC w2.drew HT.out)
 clear h hs hC e hA eF lJ mD sG nH cu hm hSb hB3 hc3 hT hP3 hF3 ht
 go_enter func89,ntmps89
 go_wp2_with fail
 go_region
 all_goals
  go_wp2_with fail
  go_region_with (go_at_call 121;refine HC.out.mono ?_;rintro e w3 ⟨rfl,g3,h3⟩;have H3:=hid h3;clear h3)
  all_goals
   go_wp2_with fail
   go_end0
   exact⟨rfl,g3,HT.out.trans H3.out⟩
theorem Y5{lo:Nat}{w:World}{g:SG}{s:gy}{q:SP}(h:Srv lo w g)(hs:g.aT=some s)(tk ss nb ps:Nat)(dt:ByteArray)(ht:s.token=tk)(hC:∀ w2,dV lo w g g.fresh.st w2 g.fresh→Calls Tryz.prog 123 #[.pointer (some ⟨g.b,0,none⟩),.agg #[.int .u8 3,.int .u64 tk,.int .u64 ss,.int .u64 nb,.int .u64 ps,.string dt]] w2 (fun e w'=>e=.returned (.tuple #[])∧∃ g',dV lo w2 g.fresh q w' g')):
  Calls Tryz.prog 89 #[.pointer (some ⟨g.b,0,none⟩),.agg #[.int .u8 3,.int .u64 tk,.int .u64 ss,.int .u64 nb,.int .u64 ps,.string dt]] w (fun e w'=>e=.returned (.tuple #[])∧∃ g',dV lo w g q w' g'):=by
 have e:=SG.qw hs
 rw[e] at hC
 have lJ:Below w.heap.size w (w.alloc (.cells #[.int .u8 3,.int .u64 tk,.int .u64 ss,.int .u64 nb,.int .u64 ps,.string dt] 124)):=(Below.refl _ w).alloc (Nat.le_refl _) _
 have sG:aK (w.alloc (.cells #[.int .u8 3,.int .u64 tk,.int .u64 ss,.int .u64 nb,.int .u64 ps,.string dt] 124)) w.heap.size 124 [.int .u8 3,.int .u64 tk,.int .u64 ss,.int .u64 nb,.int .u64 ps,.string dt]:=heap_alloc_new w _
 obtain⟨w0,hw0⟩:∃ w0,(w.alloc (.cells #[.int .u8 3,.int .u64 tk,.int .u64 ss,.int .u64 nb,.int .u64 ps,.string dt] 124))=w0:=⟨_,rfl⟩
 rw[hw0] at sG lJ
 have mD:Below w0.heap.size w0 (w0.alloc (.cells #[.func (Fn.func 120) #[] #[],.func (Fn.func 121) #[] #[],.func (Fn.func 122) #[] #[],.func (Fn.func 123) #[] #[],.func (Fn.func 124) #[] #[],.func (Fn.func 125) #[] #[]] 201)):=(Below.refl _ _).alloc (Nat.le_refl _) _
 have nH:aK (w0.alloc (.cells #[.func (Fn.func 120) #[] #[],.func (Fn.func 121) #[] #[],.func (Fn.func 122) #[] #[],.func (Fn.func 123) #[] #[],.func (Fn.func 124) #[] #[],.func (Fn.func 125) #[] #[]] 201)) w0.heap.size 201 [.func (Fn.func 120) #[] #[],.func (Fn.func 121) #[] #[],.func (Fn.func 122) #[] #[],.func (Fn.func 123) #[] #[],.func (Fn.func 124) #[] #[],.func (Fn.func 125) #[] #[]]:=heap_alloc_new w0 (.cells #[.func (Fn.func 120) #[] #[],.func (Fn.func 121) #[] #[],.func (Fn.func 122) #[] #[],.func (Fn.func 123) #[] #[],.func (Fn.func 124) #[] #[],.func (Fn.func 125) #[] #[]] 201)
 have cu:=sG.below mD
 have eF:=lJ.trans (mD.mono lJ.size)
 obtain⟨w1,hw1⟩:∃ w1,w0.alloc (.cells #[.func (Fn.func 120) #[] #[],.func (Fn.func 121) #[] #[],.func (Fn.func 122) #[] #[],.func (Fn.func 123) #[] #[],.func (Fn.func 124) #[] #[],.func (Fn.func 125) #[] #[]] 201)=w1:=⟨_,rfl⟩
 rw[hw1] at eF cu nH mD
 have hA:=h.below eF
 have d10:w1.cell? ⟨g.b,10,none⟩=some (.map (some g.ms)):=hA.blk.cell 10
 have t0:w1.cell? ⟨w.heap.size,0,none⟩=some (.int .u8 3):=cu.cell 0
 have t1:w1.cell? ⟨w.heap.size,1,none⟩=some (.int .u64 tk):=cu.cell 1
 have t2:w1.cell? ⟨w.heap.size,2,none⟩=some (.int .u64 ss):=cu.cell 2
 have t3:w1.cell? ⟨w.heap.size,3,none⟩=some (.int .u64 nb):=cu.cell 3
 have t4:w1.cell? ⟨w.heap.size,4,none⟩=some (.int .u64 ps):=cu.cell 4
 have t5:w1.cell? ⟨w.heap.size,5,none⟩=some (.string dt):=cu.cell 5
 have tF:w1.cell? ⟨w0.heap.size,3,none⟩=some (.func (Fn.func 123) #[] #[]):=nH.cell 3
 have hm:bF w1 g.ms [(tk,s.blk)]:=by have:=hA.iW;rw[hs] at this;rw[← ht];exact this
 have hlk:(Instr.lookup 100 (.map (some g.ms)) (.int .u64 tk) false).run Tryz.prog w1=.ok (.pointer (some ⟨s.blk,0,none⟩)) w1:=dA hm
 have hlk2:(Instr.lookup 100 (.map (some g.ms)) (.int .u64 tk) false).run Tryz.prog w1.drew=.ok (.pointer (some ⟨s.blk,0,none⟩)) w1.drew:=dA hm.drew
 have hSb:=hA.drew.jm hs
 have c3:w1.drew.cell? ⟨s.blk,3,none⟩=some (.int .i64 s.silence):=hSb.cell 3
 have f3:=hSb.frozen 3
 have hB3:aK (w1.drew.setCell ⟨s.blk,3,none⟩ (.int .i64 0)) s.blk 132 (fJ { s with silence:=0 }):=hSb.set 3 _
 have hc3:aG (fun k=>k=s.blk) w1.drew (w1.drew.setCell ⟨s.blk,3,none⟩ (.int .i64 0)):=(aG.refl (fun k=>k=s.blk) w1.drew).setCell ⟨s.blk,3,none⟩ _ (fun _=>rfl)
 have hsl:s.blk<w.heap.size:=(h.jm hs).lt
 have hT:=(dV.refl h eF.drew).trans (hA.drew.C9 (s':={ s with silence:=0 }) hs hc3 hB3 rfl rfl ⟨rfl,rfl,rfl,rfl⟩)
 have hP3:=aK.dB (w:=w1.drew) cu hc3 (fun e=>by have e:w.heap.size=s.blk:=e;omega)
 have hF3:=aK.dB (w:=w1.drew) nH hc3 (fun e=>by have e:w0.heap.size=s.blk:=e;have:=lJ.size;omega)
 obtain⟨w2,hw2⟩:∃ w2,w1.drew.setCell ⟨s.blk,3,none⟩ (.int .i64 0)=w2:=⟨_,rfl⟩
 rw[hw2] at hT hP3 hF3
 have x0:w2.cell? ⟨w.heap.size,0,none⟩=some (.int .u8 3):=hP3.cell 0
 have x1:w2.cell? ⟨w.heap.size,1,none⟩=some (.int .u64 tk):=hP3.cell 1
 have x2:w2.cell? ⟨w.heap.size,2,none⟩=some (.int .u64 ss):=hP3.cell 2
 have x3:w2.cell? ⟨w.heap.size,3,none⟩=some (.int .u64 nb):=hP3.cell 3
 have x4:w2.cell? ⟨w.heap.size,4,none⟩=some (.int .u64 ps):=hP3.cell 4
 have x5:w2.cell? ⟨w.heap.size,5,none⟩=some (.string dt):=hP3.cell 5
 have xF:w2.cell? ⟨w0.heap.size,3,none⟩=some (.func (Fn.func 123) #[] #[]):=hF3.cell 3
 have HT:=hid (hT.below (Below.refl _ w2).drew)
 have HC:=hid (hC w2.drew HT.out)
 clear h hs hC e hA eF lJ mD sG nH cu hm hSb hB3 hc3 hT hP3 hF3 ht
 go_enter func89,ntmps89
 go_wp2_with fail
 go_region
 all_goals
  go_wp2_with fail
  go_region_with (go_at_call 123;refine HC.out.mono ?_;rintro e w3 ⟨rfl,g3,h3⟩;have H3:=hid h3;clear h3)
  all_goals
   go_wp2_with fail
   go_end0
   exact⟨rfl,g3,HT.out.trans H3.out⟩
end Go.Proofs.YtolfcabodiphmaaGreatDoor
