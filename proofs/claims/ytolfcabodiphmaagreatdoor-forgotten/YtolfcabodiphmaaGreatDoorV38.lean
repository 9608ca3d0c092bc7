/- Package ends: newEnd. -/
import Derived.Test.YtolfcabodiphmaaGreatDoorV08
import Derived.Test.YtolfcabodiphmaaGreatDoorV16
import Derived.Test.YtolfcabodiphmaaGreatDoorV00
import Derived.Test.YtolfcabodiphmaaGreatDoorV19
import Derived.Test.YtolfcabodiphmaaGreatDoorV02
import Derived.Test.YtolfcabodiphmaaGreatDoorV07
import Derived.Deep.RegionHeld3
set_option linter.unusedSimpArgs false
set_option linter.unusedVariables false
set_option maxHeartbeats 8000000
set_option maxRecDepth 100000
namespace Go.Proofs.YtolfcabodiphmaaGreatDoor
open Go.Proofs.Tryz
open Go.RowKit Go.Conc
def Iz(n a b:Int):Bool:=decide (a≤n)&&decide (n≤b)
theorem sO(n a b:Int)(w:World):
  Calls Tryz.prog 70 #[.int .i64 n,.int .i64 a,.int .i64 b] w (fun e w'=>e=.returned (.bool (Iz n a b))∧w'=w):=by
 cases h1:decide (a≤n)
 all_goals
  have HB:=hid (show Iz n a b=(decide (a≤n)&&decide (n≤b)) from rfl)
  go_enter func70,ntmps70
  go_wp2_with fail
  go_ret
  exact⟨bM (by rw[HB.out,h1];simp),rfl⟩
def gY(W D R:Int):Bool:=Iz W 1 8&&Iz D 4 50&&Iz R 1 16
theorem sQ(w:World)(b:Nat)(v0 v1 v2 v3 v4 v5 v6 v7 v8:Value)(h:aK w b 91 [v0,v1,v2,v3,v4,v5,v6,v7,v8]):(loadVar 91 ⟨b,0,none⟩).run Tryz.prog w=.ok (.agg #[v0,v1,v2,v3,v4,v5,v6,v7,v8]) w:=by
 have e0:w.cell? ⟨b,0,none⟩=some v0:=h.cell 0
 have e1:w.cell? ⟨b,1,none⟩=some v1:=h.cell 1
 have e2:w.cell? ⟨b,2,none⟩=some v2:=h.cell 2
 have e3:w.cell? ⟨b,3,none⟩=some v3:=h.cell 3
 have e4:w.cell? ⟨b,4,none⟩=some v4:=h.cell 4
 have e5:w.cell? ⟨b,5,none⟩=some v5:=h.cell 5
 have e6:w.cell? ⟨b,6,none⟩=some v6:=h.cell 6
 have e7:w.cell? ⟨b,7,none⟩=some v7:=h.cell 7
 have e8:w.cell? ⟨b,8,none⟩=some v8:=h.cell 8
 simp[go_sem,e0,e1,e2,e3,e4,e5,e6,e7,e8]
def NS(s:ByteArray)(W D R:Int)(w:World)(e:Ending)(w':World):Prop:=Below w.heap.size w w' ∧
 ((e=.returned (.tuple #[.agg #[.slice none 0 0,.int .i64 0,.int .i64 0,.int .i64 0,.int .i64 0,.bool false,.bool false,.chan none,.map none],.int .i64 8])∧∃ E P,bP s E P∧E≠0) ∨
  (e=.returned (.tuple #[.agg #[.slice none 0 0,.int .i64 0,.int .i64 0,.int .i64 0,.int .i64 0,.bool false,.bool false,.chan none,.map none],.int .i64 9])∧bP s 0 0∧gY W D R=false) ∨
  (∃ (a:Option Addr) (n c q m:Nat) (X:List aO),e=.returned (.tuple #[.agg #[.slice a n c,.int .i64 W,.int .i64 D,.int .i64 R,.int .i64 0,.bool false,.bool false,.chan (some q),.map (some m)],.int .i64 0])∧bP s 0 0∧gY W D R=true∧s.size≤400∧(aV s).1=some (X.map (fun x=>x.it))∧X.length≤400∧dK w' w.heap.size (.slice a n c) X∧w.heap.size≤q∧w.heap.size≤m∧o8 w' q []∧Waits w' m []))
theorem DJ(s:ByteArray)(W D R:Int)(w:World)(hE:Env w)(hs:s.size≤maxLen):
  Calls Tryz.prog 48 #[.string s,.agg #[.int .i64 W,.int .i64 D,.int .i64 R]] w (NS s W D R w):=by
 have hb0:Below w.heap.size w (w.alloc (.cells #[.int .i64 W,.int .i64 D,.int .i64 R] 28)):=(Below.refl _ _).alloc (Nat.le_refl _) _
 have hC0:aK (w.alloc (.cells #[.int .i64 W,.int .i64 D,.int .i64 R] 28)) w.heap.size 28 [.int .i64 W,.int .i64 D,.int .i64 R]:=heap_alloc_new w _
 obtain⟨w0,hw0⟩:∃ w0,w.alloc (.cells #[.int .i64 W,.int .i64 D,.int .i64 R] 28)=w0:=⟨_,rfl⟩
 rw[hw0] at hb0 hC0
 have hb1:Below w0.heap.size w0 (w0.alloc (.cells #[.slice none 0 0,.int .i64 0,.int .i64 0,.int .i64 0,.int .i64 0,.bool false,.bool false,.chan none,.map none] 91)):=(Below.refl _ _).alloc (Nat.le_refl _) _
 have hR1:aK (w0.alloc (.cells #[.slice none 0 0,.int .i64 0,.int .i64 0,.int .i64 0,.int .i64 0,.bool false,.bool false,.chan none,.map none] 91)) w0.heap.size 91 [.slice none 0 0,.int .i64 0,.int .i64 0,.int .i64 0,.int .i64 0,.bool false,.bool false,.chan none,.map none]:=heap_alloc_new w0 _
 have hC1:=hC0.below hb1
 obtain⟨w1,hw1⟩:∃ w1,w0.alloc (.cells #[.slice none 0 0,.int .i64 0,.int .i64 0,.int .i64 0,.int .i64 0,.bool false,.bool false,.chan none,.map none] 91)=w1:=⟨_,rfl⟩
 rw[hw1] at hb1 hR1 hC1
 have hz0:w.heap.size≤w0.heap.size:=hb0.size
 have hz1:w0.heap.size≤w1.heap.size:=hb1.size
 have eF:Below w.heap.size w w1:=hb0.trans (hb1.mono hz0)
 have hle:w.heap.size≤w0.heap.size:=hz0
 have HE:=hid (hE.below eF)
 have HR1:=hid hR1
 have wO:=hid hC1
 clear hE hb0 hb1 hR1 hC0 hC1
 go_enter func48,ntmps48
 go_wp2_with fail
 refine(UQ s w1 HE.out.v hs).mono ?_;rintro e w2 ⟨lv,a,n,c,E,P,rfl,rfl,hb2,hA,hR⟩
 have hbB:=eF.trans (hb2.mono eF.size)
 have hR2:=HR1.out.below hb2
 have hC2:=wO.out.below hb2
 have e0:w2.cell? ⟨w0.heap.size,0,none⟩=some (.slice none 0 0):=hR2.cell 0
 have g0:=hR2.frozen 0
 have e1:w2.cell? ⟨w0.heap.size,1,none⟩=some (.int .i64 0):=hR2.cell 1
 have g1:=hR2.frozen 1
 have e2:w2.cell? ⟨w0.heap.size,2,none⟩=some (.int .i64 0):=hR2.cell 2
 have g2:=hR2.frozen 2
 have e3:w2.cell? ⟨w0.heap.size,3,none⟩=some (.int .i64 0):=hR2.cell 3
 have g3:=hR2.frozen 3
 have e4:w2.cell? ⟨w0.heap.size,4,none⟩=some (.int .i64 0):=hR2.cell 4
 have g4:=hR2.frozen 4
 have e5:w2.cell? ⟨w0.heap.size,5,none⟩=some (.bool false):=hR2.cell 5
 have g5:=hR2.frozen 5
 have e6:w2.cell? ⟨w0.heap.size,6,none⟩=some (.bool false):=hR2.cell 6
 have g6:=hR2.frozen 6
 have e7:w2.cell? ⟨w0.heap.size,7,none⟩=some (.chan none):=hR2.cell 7
 have g7:=hR2.frozen 7
 have e8:w2.cell? ⟨w0.heap.size,8,none⟩=some (.map none):=hR2.cell 8
 have g8:=hR2.frozen 8
 have c0:w2.cell? ⟨w.heap.size,0,none⟩=some (.int .i64 W):=hC2.cell 0
 have c1:w2.cell? ⟨w.heap.size,1,none⟩=some (.int .i64 D):=hC2.cell 1
 have c2:w2.cell? ⟨w.heap.size,2,none⟩=some (.int .i64 R):=hC2.cell 2
 clear hC2
 by_cases hE0:E=0
 ·subst hE0
  obtain⟨h4,rfl⟩:=hA.zero
  obtain⟨X,hp,hits,hl,_⟩:=hR rfl
  have HA:=hid hA
  have HP:=hid hp
  have HI:=hid hits
  clear hA hR hp hits
  go_wp2_with fail
  refine(sO W 1 8 w2).mono ?_;rintro e w3 ⟨rfl,rfl⟩
  cases hW:Iz W 1 8
  ·have HO:=hid (show gY W D R=false by unfold gY;rw[hW];rfl)
   have HL:=hid (sQ _ _ _ _ _ _ _ _ _ _ _ (show aK (((((((((w3.setCell ⟨w0.heap.size,0,none⟩ (.slice none 0 0)).setCell ⟨w0.heap.size,1,none⟩ (.int .i64 0)).setCell ⟨w0.heap.size,2,none⟩ (.int .i64 0)).setCell ⟨w0.heap.size,3,none⟩ (.int .i64 0)).setCell ⟨w0.heap.size,4,none⟩ (.int .i64 0)).setCell ⟨w0.heap.size,5,none⟩ (.bool false)).setCell ⟨w0.heap.size,6,none⟩ (.bool false)).setCell ⟨w0.heap.size,7,none⟩ (.chan none)).setCell ⟨w0.heap.size,8,none⟩ (.map none)) w0.heap.size 91 [.slice none 0 0,.int .i64 0,.int .i64 0,.int .i64 0,.int .i64 0,.bool false,.bool false,.chan none,.map none] from(((((((((hR2.set 0 _).set 1 _).set 2 _).set 3 _).set 4 _).set 5 _).set 6 _).set 7 _).set 8 _)))
   have HB:=hid (((((((((hbB.setCell (p:=⟨w0.heap.size,0,none⟩) hle (.slice none 0 0)).setCell (p:=⟨w0.heap.size,1,none⟩) hle (.int .i64 0)).setCell (p:=⟨w0.heap.size,2,none⟩) hle (.int .i64 0)).setCell (p:=⟨w0.heap.size,3,none⟩) hle (.int .i64 0)).setCell (p:=⟨w0.heap.size,4,none⟩) hle (.int .i64 0)).setCell (p:=⟨w0.heap.size,5,none⟩) hle (.bool false)).setCell (p:=⟨w0.heap.size,6,none⟩) hle (.bool false)).setCell (p:=⟨w0.heap.size,7,none⟩) hle (.chan none)).setCell (p:=⟨w0.heap.size,8,none⟩) hle (.map none))
   clear hR2
   go_wp2_with fail
   (try simp only[Exit.inBlock,Exit.then])
   refine⟨rfl,.tuple #[.agg #[.slice none 0 0,.int .i64 0,.int .i64 0,.int .i64 0,.int .i64 0,.bool false,.bool false,.chan none,.map none],.int .i64 9],?_,HB.out,Or.inr (Or.inl ⟨rfl,HA.out,HO.out⟩)⟩
   rw[results_cell_tmp rfl]
   have:=HL.out
   simp[asAddr,this]
  ·go_wp2_with fail
   refine(sO D 4 50 w3).mono ?_;rintro e w4 ⟨rfl,rfl⟩
   cases hD:Iz D 4 50
   ·have HO:=hid (show gY W D R=false by unfold gY;rw[hW,hD];rfl)
    have HL:=hid (sQ _ _ _ _ _ _ _ _ _ _ _ (show aK (((((((((w4.setCell ⟨w0.heap.size,0,none⟩ (.slice none 0 0)).setCell ⟨w0.heap.size,1,none⟩ (.int .i64 0)).setCell ⟨w0.heap.size,2,none⟩ (.int .i64 0)).setCell ⟨w0.heap.size,3,none⟩ (.int .i64 0)).setCell ⟨w0.heap.size,4,none⟩ (.int .i64 0)).setCell ⟨w0.heap.size,5,none⟩ (.bool false)).setCell ⟨w0.heap.size,6,none⟩ (.bool false)).setCell ⟨w0.heap.size,7,none⟩ (.chan none)).setCell ⟨w0.heap.size,8,none⟩ (.map none)) w0.heap.size 91 [.slice none 0 0,.int .i64 0,.int .i64 0,.int .i64 0,.int .i64 0,.bool false,.bool false,.chan none,.map none] from(((((((((hR2.set 0 _).set 1 _).set 2 _).set 3 _).set 4 _).set 5 _).set 6 _).set 7 _).set 8 _)))
    have HB:=hid (((((((((hbB.setCell (p:=⟨w0.heap.size,0,none⟩) hle (.slice none 0 0)).setCell (p:=⟨w0.heap.size,1,none⟩) hle (.int .i64 0)).setCell (p:=⟨w0.heap.size,2,none⟩) hle (.int .i64 0)).setCell (p:=⟨w0.heap.size,3,none⟩) hle (.int .i64 0)).setCell (p:=⟨w0.heap.size,4,none⟩) hle (.int .i64 0)).setCell (p:=⟨w0.heap.size,5,none⟩) hle (.bool false)).setCell (p:=⟨w0.heap.size,6,none⟩) hle (.bool false)).setCell (p:=⟨w0.heap.size,7,none⟩) hle (.chan none)).setCell (p:=⟨w0.heap.size,8,none⟩) hle (.map none))
    clear hR2
    go_wp2_with fail
    (try simp only[Exit.inBlock,Exit.then])
    refine⟨rfl,.tuple #[.agg #[.slice none 0 0,.int .i64 0,.int .i64 0,.int .i64 0,.int .i64 0,.bool false,.bool false,.chan none,.map none],.int .i64 9],?_,HB.out,Or.inr (Or.inl ⟨rfl,HA.out,HO.out⟩)⟩
    rw[results_cell_tmp rfl]
    have:=HL.out
    simp[asAddr,this]
   ·go_wp2_with fail
    refine(sO R 1 16 w4).mono ?_;rintro e w5 ⟨rfl,rfl⟩
    cases hRr:Iz R 1 16
    ·have HO:=hid (show gY W D R=false by unfold gY;rw[hW,hD,hRr];rfl)
     have HL:=hid (sQ _ _ _ _ _ _ _ _ _ _ _ (show aK (((((((((w5.setCell ⟨w0.heap.size,0,none⟩ (.slice none 0 0)).setCell ⟨w0.heap.size,1,none⟩ (.int .i64 0)).setCell ⟨w0.heap.size,2,none⟩ (.int .i64 0)).setCell ⟨w0.heap.size,3,none⟩ (.int .i64 0)).setCell ⟨w0.heap.size,4,none⟩ (.int .i64 0)).setCell ⟨w0.heap.size,5,none⟩ (.bool false)).setCell ⟨w0.heap.size,6,none⟩ (.bool false)).setCell ⟨w0.heap.size,7,none⟩ (.chan none)).setCell ⟨w0.heap.size,8,none⟩ (.map none)) w0.heap.size 91 [.slice none 0 0,.int .i64 0,.int .i64 0,.int .i64 0,.int .i64 0,.bool false,.bool false,.chan none,.map none] from(((((((((hR2.set 0 _).set 1 _).set 2 _).set 3 _).set 4 _).set 5 _).set 6 _).set 7 _).set 8 _)))
     have HB:=hid (((((((((hbB.setCell (p:=⟨w0.heap.size,0,none⟩) hle (.slice none 0 0)).setCell (p:=⟨w0.heap.size,1,none⟩) hle (.int .i64 0)).setCell (p:=⟨w0.heap.size,2,none⟩) hle (.int .i64 0)).setCell (p:=⟨w0.heap.size,3,none⟩) hle (.int .i64 0)).setCell (p:=⟨w0.heap.size,4,none⟩) hle (.int .i64 0)).setCell (p:=⟨w0.heap.size,5,none⟩) hle (.bool false)).setCell (p:=⟨w0.heap.size,6,none⟩) hle (.bool false)).setCell (p:=⟨w0.heap.size,7,none⟩) hle (.chan none)).setCell (p:=⟨w0.heap.size,8,none⟩) hle (.map none))
     clear hR2
     go_wp2_with fail
     (try simp only[Exit.inBlock,Exit.then])
     refine⟨rfl,.tuple #[.agg #[.slice none 0 0,.int .i64 0,.int .i64 0,.int .i64 0,.int .i64 0,.bool false,.bool false,.chan none,.map none],.int .i64 9],?_,HB.out,Or.inr (Or.inl ⟨rfl,HA.out,HO.out⟩)⟩
     rw[results_cell_tmp rfl]
     have:=HL.out
     simp[asAddr,this]
    ·have HO:=hid (show gY W D R=true by unfold gY;rw[hW,hD,hRr];rfl)
     have MN:=hid hR2
     have HM6:=hid (show aK (w5.alloc (.cells #[.slice a n c,.int .i64 W,.int .i64 D,.int .i64 R,.int .i64 0,.bool false,.bool false,.chan none,.map none] 91)) w5.heap.size 91 [.slice a n c,.int .i64 W,.int .i64 D,.int .i64 R,.int .i64 0,.bool false,.bool false,.chan none,.map none] from heap_alloc_new w5 _)
     have HB6:=hid (show Below w5.heap.size w5 (w5.alloc (.cells #[.slice a n c,.int .i64 W,.int .i64 D,.int .i64 R,.int .i64 0,.bool false,.bool false,.chan none,.map none] 91)) from(Below.refl _ _).alloc (Nat.le_refl _) _)
     clear hR2
     go_wp2_with fail
     refine(empty_any (w5.alloc (.cells #[.slice a n c,.int .i64 W,.int .i64 D,.int .i64 R,.int .i64 0,.bool false,.bool false,.chan none,.map none] 91)) w5.heap.size 91 _ _ _ _ 0 false false _ _ [] HM6.out).mono ?_;rintro e w7 ⟨rfl,q,m,hq,hm,DT,hQ7,hW7,hC7⟩
     have ao7:=MN.out.lt
     have akk:=HB6.out.size
     have hzB:=hbB.size
     have ZK:Below w5.heap.size w5 w7:=(HB6.out).trans (hC7.below akk (fun i e=>by omega))
     have vH:=MN.out.below ZK
     have k0:w7.cell? ⟨w0.heap.size,0,none⟩=some (.slice none 0 0):=vH.cell 0
     have l0:=vH.frozen 0
     have k1:w7.cell? ⟨w0.heap.size,1,none⟩=some (.int .i64 0):=vH.cell 1
     have l1:=vH.frozen 1
     have k2:w7.cell? ⟨w0.heap.size,2,none⟩=some (.int .i64 0):=vH.cell 2
     have l2:=vH.frozen 2
     have k3:w7.cell? ⟨w0.heap.size,3,none⟩=some (.int .i64 0):=vH.cell 3
     have l3:=vH.frozen 3
     have k4:w7.cell? ⟨w0.heap.size,4,none⟩=some (.int .i64 0):=vH.cell 4
     have l4:=vH.frozen 4
     have k5:w7.cell? ⟨w0.heap.size,5,none⟩=some (.bool false):=vH.cell 5
     have l5:=vH.frozen 5
     have k6:w7.cell? ⟨w0.heap.size,6,none⟩=some (.bool false):=vH.cell 6
     have l6:=vH.frozen 6
     have k7:w7.cell? ⟨w0.heap.size,7,none⟩=some (.chan none):=vH.cell 7
     have l7:=vH.frozen 7
     have k8:w7.cell? ⟨w0.heap.size,8,none⟩=some (.map none):=vH.cell 8
     have l8:=vH.frozen 8
     have m0:w7.cell? ⟨w5.heap.size,0,none⟩=some (.slice a n c):=DT.cell 0
     have m1:w7.cell? ⟨w5.heap.size,1,none⟩=some (.int .i64 W):=DT.cell 1
     have m2:w7.cell? ⟨w5.heap.size,2,none⟩=some (.int .i64 D):=DT.cell 2
     have m3:w7.cell? ⟨w5.heap.size,3,none⟩=some (.int .i64 R):=DT.cell 3
     have m4:w7.cell? ⟨w5.heap.size,4,none⟩=some (.int .i64 0):=DT.cell 4
     have m5:w7.cell? ⟨w5.heap.size,5,none⟩=some (.bool false):=DT.cell 5
     have m6:w7.cell? ⟨w5.heap.size,6,none⟩=some (.bool false):=DT.cell 6
     have m7:w7.cell? ⟨w5.heap.size,7,none⟩=some (.chan (some q)):=DT.cell 7
     have m8:w7.cell? ⟨w5.heap.size,8,none⟩=some (.map (some m)):=DT.cell 8
     have hbC:Below w.heap.size w w7:=hbB.trans (ZK.mono hzB)
     have HL:=hid (sQ _ _ _ _ _ _ _ _ _ _ _ (show aK (((((((((w7.setCell ⟨w0.heap.size,0,none⟩ (.slice a n c)).setCell ⟨w0.heap.size,1,none⟩ (.int .i64 W)).setCell ⟨w0.heap.size,2,none⟩ (.int .i64 D)).setCell ⟨w0.heap.size,3,none⟩ (.int .i64 R)).setCell ⟨w0.heap.size,4,none⟩ (.int .i64 0)).setCell ⟨w0.heap.size,5,none⟩ (.bool false)).setCell ⟨w0.heap.size,6,none⟩ (.bool false)).setCell ⟨w0.heap.size,7,none⟩ (.chan (some q))).setCell ⟨w0.heap.size,8,none⟩ (.map (some m))) w0.heap.size 91 [.slice a n c,.int .i64 W,.int .i64 D,.int .i64 R,.int .i64 0,.bool false,.bool false,.chan (some q),.map (some m)] from(((((((((vH.set 0 _).set 1 _).set 2 _).set 3 _).set 4 _).set 5 _).set 6 _).set 7 _).set 8 _)))
     have HB:=hid (((((((((hbC.setCell (p:=⟨w0.heap.size,0,none⟩) hle (.slice a n c)).setCell (p:=⟨w0.heap.size,1,none⟩) hle (.int .i64 W)).setCell (p:=⟨w0.heap.size,2,none⟩) hle (.int .i64 D)).setCell (p:=⟨w0.heap.size,3,none⟩) hle (.int .i64 R)).setCell (p:=⟨w0.heap.size,4,none⟩) hle (.int .i64 0)).setCell (p:=⟨w0.heap.size,5,none⟩) hle (.bool false)).setCell (p:=⟨w0.heap.size,6,none⟩) hle (.bool false)).setCell (p:=⟨w0.heap.size,7,none⟩) hle (.chan (some q))).setCell (p:=⟨w0.heap.size,8,none⟩) hle (.map (some m)))
     have HBw:Hid (Below w5.heap.size w5 (((((((((w7.setCell ⟨w0.heap.size,0,none⟩ (.slice a n c)).setCell ⟨w0.heap.size,1,none⟩ (.int .i64 W)).setCell ⟨w0.heap.size,2,none⟩ (.int .i64 D)).setCell ⟨w0.heap.size,3,none⟩ (.int .i64 R)).setCell ⟨w0.heap.size,4,none⟩ (.int .i64 0)).setCell ⟨w0.heap.size,5,none⟩ (.bool false)).setCell ⟨w0.heap.size,6,none⟩ (.bool false)).setCell ⟨w0.heap.size,7,none⟩ (.chan (some q))).setCell ⟨w0.heap.size,8,none⟩ (.map (some m)))∨True):=Or.inr trivial
     have HCh:Hid (aG (fun k=>k=w0.heap.size) w7 (((((((((w7.setCell ⟨w0.heap.size,0,none⟩ (.slice a n c)).setCell ⟨w0.heap.size,1,none⟩ (.int .i64 W)).setCell ⟨w0.heap.size,2,none⟩ (.int .i64 D)).setCell ⟨w0.heap.size,3,none⟩ (.int .i64 R)).setCell ⟨w0.heap.size,4,none⟩ (.int .i64 0)).setCell ⟨w0.heap.size,5,none⟩ (.bool false)).setCell ⟨w0.heap.size,6,none⟩ (.bool false)).setCell ⟨w0.heap.size,7,none⟩ (.chan (some q))).setCell ⟨w0.heap.size,8,none⟩ (.map (some m)))):=hid ((((((((((aG.refl (fun k=>k=w0.heap.size) w7).setCell ⟨w0.heap.size,0,none⟩ _ (fun _=>rfl)).setCell ⟨w0.heap.size,1,none⟩ _ (fun _=>rfl)).setCell ⟨w0.heap.size,2,none⟩ _ (fun _=>rfl)).setCell ⟨w0.heap.size,3,none⟩ _ (fun _=>rfl)).setCell ⟨w0.heap.size,4,none⟩ _ (fun _=>rfl)).setCell ⟨w0.heap.size,5,none⟩ _ (fun _=>rfl)).setCell ⟨w0.heap.size,6,none⟩ _ (fun _=>rfl)).setCell ⟨w0.heap.size,7,none⟩ _ (fun _=>rfl)).setCell ⟨w0.heap.size,8,none⟩ _ (fun _=>rfl))
     have HQ7:=hid hQ7
     have HW7:=hid hW7
     have HI7:=hid (HI.out.below ZK)
     clear vH DT hQ7 hW7 hC7 ZK
     go_wp2_with fail
     (try simp only[Exit.inBlock,Exit.then])
     refine⟨rfl,.tuple #[.agg #[.slice a n c,.int .i64 W,.int .i64 D,.int .i64 R,.int .i64 0,.bool false,.bool false,.chan (some q),.map (some m)],.int .i64 0],?_,HB.out,Or.inr (Or.inr ⟨a,n,c,q,m,X,rfl,HA.out,HO.out,h4,HP.out,hl,?_,by omega,by omega,HQ7.out.dB HCh.out (by omega),HW7.out.dB HCh.out (by omega)⟩)⟩
     ·rw[results_cell_tmp rfl]
      have:=HL.out
      simp[asAddr,this]
     ·have hti:=HI7.out
      exact⟨own_base (HCh.out.own hti.own (fun g hg e=>by have:=(hti.own.lt g hg).1;omega)) (by omega),fun x hx=>⟨own_base (HCh.out.own (hti.nest x hx).f (fun g hg e=>by have:=((hti.nest x hx).f.lt g hg).1;omega)) (by omega),own_base (HCh.out.own (hti.nest x hx).n (fun g hg e=>by have:=((hti.nest x hx).n.lt g hg).1;omega)) (by omega)⟩⟩
 ·have HA:=hid (show ∃ E0 P0,bP s E0 P0∧E0≠0 from⟨E,P,hA,hE0⟩)
  obtain⟨hr1,hr2⟩:=hA.range
  have hEB:(E != 0)=true:=by simpa using hE0
  clear hA hR
  have HL:=hid (sQ _ _ _ _ _ _ _ _ _ _ _ (show aK (((((((((w2.setCell ⟨w0.heap.size,0,none⟩ (.slice none 0 0)).setCell ⟨w0.heap.size,1,none⟩ (.int .i64 0)).setCell ⟨w0.heap.size,2,none⟩ (.int .i64 0)).setCell ⟨w0.heap.size,3,none⟩ (.int .i64 0)).setCell ⟨w0.heap.size,4,none⟩ (.int .i64 0)).setCell ⟨w0.heap.size,5,none⟩ (.bool false)).setCell ⟨w0.heap.size,6,none⟩ (.bool false)).setCell ⟨w0.heap.size,7,none⟩ (.chan none)).setCell ⟨w0.heap.size,8,none⟩ (.map none)) w0.heap.size 91 [.slice none 0 0,.int .i64 0,.int .i64 0,.int .i64 0,.int .i64 0,.bool false,.bool false,.chan none,.map none] from(((((((((hR2.set 0 _).set 1 _).set 2 _).set 3 _).set 4 _).set 5 _).set 6 _).set 7 _).set 8 _)))
  have HB:=hid (((((((((hbB.setCell (p:=⟨w0.heap.size,0,none⟩) hle (.slice none 0 0)).setCell (p:=⟨w0.heap.size,1,none⟩) hle (.int .i64 0)).setCell (p:=⟨w0.heap.size,2,none⟩) hle (.int .i64 0)).setCell (p:=⟨w0.heap.size,3,none⟩) hle (.int .i64 0)).setCell (p:=⟨w0.heap.size,4,none⟩) hle (.int .i64 0)).setCell (p:=⟨w0.heap.size,5,none⟩) hle (.bool false)).setCell (p:=⟨w0.heap.size,6,none⟩) hle (.bool false)).setCell (p:=⟨w0.heap.size,7,none⟩) hle (.chan none)).setCell (p:=⟨w0.heap.size,8,none⟩) hle (.map none))
  clear hR2
  go_wp2_with fail
  (try simp only[Exit.inBlock,Exit.then])
  refine⟨rfl,.tuple #[.agg #[.slice none 0 0,.int .i64 0,.int .i64 0,.int .i64 0,.int .i64 0,.bool false,.bool false,.chan none,.map none],.int .i64 8],?_,HB.out,Or.inl ⟨rfl,HA.out⟩⟩
  rw[results_cell_tmp rfl]
  have:=HL.out
  simp[asAddr,this]
theorem jT.nil(w:World)(lo:Nat):jT w lo (.slice none 0 0) []:=⟨World.ownsRow_nil _ _ _ _,fun t ht=>by simp at ht,by simp,fun t ht=>by simp at ht,fun i j x y hx=>by simp at hx⟩
theorem jT.push{w w':World}{lo:Nat}{v v':Value}{Ts:List jv}{t:jv}(h:jT w lo v Ts)(hsame:∀ k,k<w.heap.size→v.ownBlock≠some k→w'.heap[k]? = w.heap[k]?)(hk:t.kept=.slice none 0 0)(hkv:t.kv=[])(hnew:w.heap.size≤t.blk)(hB:aK w' t.blk 149 (qY t))(hrow:uV w' lo 147 v' ((Ts++[t]).map (fun t=>t.blk))):jT w' lo v' (Ts++[t]):=by
 refine⟨hrow,fun x hx=>?_,?_,fun x hx=>?_,fun i j x y hi hj hij g hg=>?_⟩
 ·rcases List.mem_append.1 hx with hx | hx
  ·have hb:=h.each x hx
   exact(hsame x.blk hb.lt (hb.dF h.row aho)).trans hb
  ·simp at hx;subst hx;exact hB
 ·rw[List.map_append,List.nodup_append]
  refine⟨h.nodup,by simp,fun a ha b hb=>?_⟩
  simp at hb;subst hb
  obtain⟨x,hx,rfl⟩:=List.mem_map.1 ha
  have:=(h.each x hx).lt
  omega
 ·rcases List.mem_append.1 hx with hx | hx
  ·have hkk:=h.kept x hx
   exact⟨aC hkk.1 (fun g hg=>hsame g (hkk.1.lt g hg).2 (fun e=>own_ne h.row hkk.1 ahp e hg rfl)),hkk.2⟩
  ·simp at hx;subst hx
   rw[hk,hkv]
   exact⟨World.ownsRow_nil _ _ _ _,by simp,by simp⟩
 ·have hold:∀ {i:Nat} {x:jv},(Ts++[t])[i]? = some x→Ts[i]? = some x∨(i=Ts.length∧x=t):=fun {i x} hi=>by
   rcases Nat.lt_or_ge i Ts.length with h' | h'
   ·rw[List.getElem?_append_left h'] at hi;exact Or.inl hi
   ·rw[List.getElem?_append_right h'] at hi
    have:=lQ hi
    simp at this
    have e:i=Ts.length:=by omega
    subst e
    simp at hi
    exact Or.inr ⟨rfl,hi.symm⟩
  rcases hold hi with hi | ⟨rfl,rfl⟩
  ·rcases hold hj with hj | ⟨rfl,rfl⟩
   ·exact h.apart i j x y hi hj hij g hg
   ·rw[hk];simp[Value.ownBlock]
  ·rw[hk] at hg;simp[Value.ownBlock] at hg
structure fP(lo:Nat)(X:List aO)(Ts:List jv):Prop where
 low:∀ t∈Ts,lo≤t.blk
 map:Ts.map (fun t=>(t.name,t.base))=(X.filter (fun x=>x.it.kind==2)).map (fun x=>(x.it.name.text,cellText x.it.base))
 fresh:∀ t∈Ts,t.count=0∧t.kv=[]∧t.fin=false
theorem fP.lower{lo lo':Nat}{X:List aO}{Ts:List jv}(h:fP lo X Ts)(hl:lo'≤lo):fP lo' X Ts:=⟨fun t ht=>Nat.le_trans hl (h.low t ht),h.map,h.fresh⟩
theorem fP.skip{lo:Nat}{X:List aO}{Ts:List jv}{x:aO}(h:fP lo X Ts)(hx:(x.it.kind==2)=false):fP lo (X++[x]) Ts:=⟨h.low,by rw[List.filter_append,List.filter_cons_of_neg (by simp[hx])];simpa using h.map,h.fresh⟩
theorem fP.add{lo:Nat}{X:List aO}{Ts:List jv}{x:aO}{t:jv}(h:fP lo X Ts)(hlo:lo≤t.blk)(hx:(x.it.kind==2)=true)(hn:t.name=x.it.name.text)(hb:t.base=cellText x.it.base)(hf:t.count=0∧t.kv=[]∧t.fin=false):fP lo (X++[x]) (Ts++[t]) :=
 ⟨fun y hy=>by
  rcases List.mem_append.1 hy with hy | hy
  ·exact h.low y hy
  ·simp at hy;subst hy;exact hlo,by rw[List.filter_append,List.filter_cons_of_pos (by simpa using hx),List.map_append,List.map_append,h.map];simp[hn,hb],fun y hy=>by
  rcases List.mem_append.1 hy with hy | hy
  ·exact h.fresh y hy
  ·simp at hy;subst hy;exact hf⟩
theorem fP.len{lo:Nat}{X:List aO}{Ts:List jv}(h:fP lo X Ts):Ts.length≤X.length:=by
 have:=congrArg List.length h.map
 rw[List.length_map,List.length_map] at this
 rw[this]
 exact List.length_filter_le _ _
theorem Tryz.infoTopP:(Tryz.prog.info? 147).map (fun i=>(i.zero,i.size,i.bytes))=some (some (.pointer none),1,8):=by kernel_rfl
theorem qA(w:World)(lo:Nat)(la:Option Addr)(ll lc:Nat)(X:List aO)(h:dK w lo (.slice la ll lc) X)(hn:LV X)(hX:X.length≤400):
  Calls Tryz.prog 49 #[.slice la ll lc] w (fun e w'=>∃ (a:Option Addr) (n c:Nat) (Ts:List jv),e=.returned (.slice a n c)∧jT w' w.heap.size (.slice a n c) Ts∧fP w.heap.size X Ts∧Below w.heap.size w w'):=by
 have hll:ll=X.length:=by
  obtain⟨a,c,e⟩:=ay h.own
  simpa using congrArg (fun v=>match v with | Value.slice _ n _=>n | _=>0) e
 subst hll
 have H:=hid h
 have HN:=hid hn
 clear h hn
 go_enter func49,ntmps49
 go_wp2_with fail
 go_loopg [3,5,8] X.length (fun gk tv t i wr=>∃ (k:Nat) (Ts:List jv),k+gk=X.length∧i=.int .i64 k∧Hid (jT wr w.heap.size tv Ts)∧Hid (fP w.heap.size (X.take k) Ts)∧Below w.heap.size w wr)
 case atStart=>exact⟨0,[],by omega,rfl,hid (jT.nil _ _),hid ⟨fun t ht=>by simp at ht,by simp,fun t ht=>by simp at ht⟩,Below.refl _ _⟩
 case round=>
  obtain⟨k,Ts,hk,rfl,HT,HR,hbel⟩:=hrel
  obtain⟨ta,tc,rfl⟩:=HT.out.row.slice
  by_cases hlt:k<X.length
  ·obtain⟨x,hx⟩:∃ x,X[k]? = some x:=⟨X[k],List.getElem?_eq_getElem hlt⟩
   have pz:=hid (show X.take (k+1)=X.take k++[x] by rw[List.take_add_one,hx];rfl)
   obtain⟨g,cap,hv,hgl,hgs⟩:=iJ H.out.own (by omega)
   obtain⟨rfl,rfl⟩:la=some ⟨g,0,none⟩∧lc=cap:=by simpa using hv
   obtain⟨n,hn⟩:=(H.out.below hbel).rG HN.out hx
   have hs:=hn.seg
   have HBA:=hid hn.base
   clear hx hv hn
   have c0:=hs.cell (j:=0) rfl
   have c1:=hs.cell (j:=1) rfl
   have c2:=hs.cell (j:=2) rfl
   have c3:=hs.cell (j:=3) rfl
   have c4:=hs.cell (j:=4) rfl
   have c5:=hs.cell (j:=5) rfl
   have c6:=hs.cell (j:=6) rfl
   have c7:=hs.cell (j:=7) rfl
   have c8:=hs.cell (j:=8) rfl
   simp only[Nat.add_zero] at c0
   have fO:(k:Int)<(X.length:Int):=by omega
   have hki:((x.it.kind:Int)==2)=(x.it.kind==2):=by rw[Bool.eq_iff_iff];simp;omega
   have HKI:=hid hki
   clear hs hki
   cases hkd:((x.it.kind:Int)==2)
   ·have HKD:=hid (HKI.out.symm.trans hkd)
    go_wp2_with fail
    go_roundg (gk-1)
    case rel=>
     have hb1:Below wr.heap.size wr (wr.alloc (.cells #[.int .i64 x.it.kind,.string x.it.name.text,.int .i64 x.it.name.at_,.slice n.fa x.it.fields.length n.fc,.slice n.na x.it.names.length n.nc,.string n.bb,.int .i64 n.ba,.string n.ab,.int .i64 n.aa] 116)):=(Below.refl _ _).alloc (Nat.le_refl _) _
     exact⟨k+1,Ts,by omega,by go_num,hid (HT.out.below hb1),hid (by rw[pz.out];exact HR.out.skip HKD.out),hbel.trans (hb1.mono hbel.size)⟩
    case measure=>omega
   ·have HKD:=hid (HKI.out.symm.trans hkd)
    have hTl:Ts.length≤400:=by have:=HR.out.len;have:=List.length_take_le k X;omega
    have hb3:Below wr.heap.size wr (((wr.alloc (.cells #[.int .i64 x.it.kind,.string x.it.name.text,.int .i64 x.it.name.at_,.slice n.fa x.it.fields.length n.fc,.slice n.na x.it.names.length n.nc,.string n.bb,.int .i64 n.ba,.string n.ab,.int .i64 n.aa] 116)).alloc (.cells #[.string x.it.name.text,.string n.bb,.int .u64 0,.slice none 0 0,.bool false] 149)).alloc (.cells #[.pointer (some ⟨wr.heap.size+1,0,none⟩)] 147)):=su wr _ _ _
    have ho3:World.ownsRow (((wr.alloc (.cells #[.int .i64 x.it.kind,.string x.it.name.text,.int .i64 x.it.name.at_,.slice n.fa x.it.fields.length n.fc,.slice n.na x.it.names.length n.nc,.string n.bb,.int .i64 n.ba,.string n.ab,.int .i64 n.aa] 116)).alloc (.cells #[.string x.it.name.text,.string n.bb,.int .u64 0,.slice none 0 0,.bool false] 149)).alloc (.cells #[.pointer (some ⟨wr.heap.size+1,0,none⟩)] 147)) w.heap.size 147 1 (.slice ta (Ts.map (fun t=>t.blk)).length tc) (Ts.map (fun t=>t.blk)).length ((Ts.map (fun t=>t.blk)).map aJ):=aC HT.out.row (fun g hg=>hb3.block g (HT.out.row.lt g hg).2)
    have hB3:aK (((wr.alloc (.cells #[.int .i64 x.it.kind,.string x.it.name.text,.int .i64 x.it.name.at_,.slice n.fa x.it.fields.length n.fc,.slice n.na x.it.names.length n.nc,.string n.bb,.int .i64 n.ba,.string n.ab,.int .i64 n.aa] 116)).alloc (.cells #[.string x.it.name.text,.string n.bb,.int .u64 0,.slice none 0 0,.bool false] 149)).alloc (.cells #[.pointer (some ⟨wr.heap.size+1,0,none⟩)] 147)) (wr.heap.size+1) 149 [.string x.it.name.text,.string n.bb,.int .u64 0,.slice none 0 0,.bool false]:=(Fq wr _ _ _).trans (by have:=heap_alloc_new (wr.alloc (.cells #[.int .i64 x.it.kind,.string x.it.name.text,.int .i64 x.it.name.at_,.slice n.fa x.it.fields.length n.fc,.slice n.na x.it.names.length n.nc,.string n.bb,.int .i64 n.ba,.string n.ab,.int .i64 n.aa] 116)) (.cells #[.string x.it.name.text,.string n.bb,.int .u64 0,.slice none 0 0,.bool false] 149);simpa using this)
    have hN3:aK (((wr.alloc (.cells #[.int .i64 x.it.kind,.string x.it.name.text,.int .i64 x.it.name.at_,.slice n.fa x.it.fields.length n.fc,.slice n.na x.it.names.length n.nc,.string n.bb,.int .i64 n.ba,.string n.ab,.int .i64 n.aa] 116)).alloc (.cells #[.string x.it.name.text,.string n.bb,.int .u64 0,.slice none 0 0,.bool false] 149)).alloc (.cells #[.pointer (some ⟨wr.heap.size+1,0,none⟩)] 147)) (wr.heap.size+1+1) 147 [.pointer (some ⟨wr.heap.size+1,0,none⟩)]:=Fp wr _ _ _
    have hz3:=qp wr (.cells #[.int .i64 x.it.kind,.string x.it.name.text,.int .i64 x.it.name.at_,.slice n.fa x.it.fields.length n.fc,.slice n.na x.it.names.length n.nc,.string n.bb,.int .i64 n.ba,.string n.ab,.int .i64 n.aa] 116) (.cells #[.string x.it.name.text,.string n.bb,.int .u64 0,.slice none 0 0,.bool false] 149) (.cells #[.pointer (some ⟨wr.heap.size+1,0,none⟩)] 147)
    have hzw:=hbel.size
    obtain⟨N,YE⟩:∃ N,Hid (Ts.length+1=N):=⟨_,hid rfl⟩
    obtain⟨Y,HY⟩:∃ Y,Hid ((Ts.map (fun t=>t.blk)).map aJ++[.pointer (some ⟨wr.heap.size+1,0,none⟩)]=Y):=⟨_,hid rfl⟩
    have Ya:=hid ho3
    have HB3:=hid hB3
    have HN3:=hid hN3
    have HZ3:=hid hz3
    have hlm:(Ts.map (fun t=>t.blk)).length=Ts.length:=List.length_map ..
    have HLM:=hid hlm
    clear ho3 hB3 hN3 hz3 hb3 hlm
    go_wp2_with (at_builtin;refine eG _ rfl (.tmp 15) (.tmp 24) 99 147 (.pointer none) 1 8 rfl underlying99 Tryz.infoTopP rfl (by decide) (.slice ta (Ts.map (fun t=>t.blk)).length tc) Ts.length ((Ts.map (fun t=>t.blk)).map aJ) w.heap.size (by simp[Act.eval]) (by have:=Ya.out;rw[HLM.out] at this ⊢;exact this) ⟨wr.heap.size+1+1,0,none⟩ 1 1 [.pointer (some ⟨wr.heap.size+1,0,none⟩)] rfl rfl (fun j u hu=>by
     rw[fE _ _ rfl]
     have:=HN3.out.cell (0+j)
     rw[this]
     simpa using hu) (fun u hu=>by simp at hu;subst hu;rfl) N YE.out Y HY.out (by unfold maxLen;omega) (by omega) (by have:=HZ3.out;omega) ?_)
    intro a1 c1 w1 hown1 hg1
    have BP:=hid hown1
    have QI:=hid hg1
    have hb3:Below wr.heap.size wr (((wr.alloc (.cells #[.int .i64 x.it.kind,.string x.it.name.text,.int .i64 x.it.name.at_,.slice n.fa x.it.fields.length n.fc,.slice n.na x.it.names.length n.nc,.string n.bb,.int .i64 n.ba,.string n.ab,.int .i64 n.aa] 116)).alloc (.cells #[.string x.it.name.text,.string n.bb,.int .u64 0,.slice none 0 0,.bool false] 149)).alloc (.cells #[.pointer (some ⟨wr.heap.size+1,0,none⟩)] 147)):=su wr _ _ _
    have KF:Below w.heap.size w w1:=hbel.trans ((hb3.mono hzw).trans (Grew.below hg1 (fun k hk=>(HT.out.row.lt k (by simpa using hk)).1) (by have:=HZ3.out;omega)))
    have jJ:=hid (show jT w1 w.heap.size (.slice a1 N c1) (Ts++[⟨wr.heap.size+1,x.it.name.text,n.bb,0,.slice none 0 0,[],false⟩]) from by
     refine HT.out.push (fun k hk hne=>?_) rfl rfl (by show wr.heap.size≤wr.heap.size+1;omega) ?_ ?_
     ·exact(QI.out.g.block k (by have:=HZ3.out;omega) (fun e=>hne (by simpa using e.symm))).trans (hb3.block k hk)
     ·exact(QI.out.g.block (wr.heap.size+1) (by have:=HZ3.out;omega) (fun e=>by
       have:=(HT.out.row.lt (wr.heap.size+1) (by simpa using e.symm)).2
       omega)).trans HB3.out
     ·show World.ownsRow _ _ _ _ _ _ _
      have:=BP.out
      rw[← HY.out,← YE.out] at this
      rw[← YE.out]
      simpa[aJ] using this)
    clear hown1 hg1
    go_wp2_with fail
    go_roundg (gk-1)
    case rel=>
     exact⟨k+1,_,by omega,by go_num,jJ,hid (by
      rw[pz.out]
      exact HR.out.add (by show w.heap.size≤wr.heap.size+1;omega) HKD.out rfl (by rw[HBA.out];rfl) ⟨rfl,rfl,rfl⟩),KF⟩
    case measure=>omega
  ·have fO:¬ (k:Int)<(X.length:Int):=by omega
   have pz:=hid (show X.take k=X from List.take_of_length_le (by omega))
   go_wp2_with fail
   go_ret
   exact⟨ta,_,tc,rfl,Ts,(by have h9:=HT.out;simp only[List.length_map] at h9;exact h9),by have:=HR.out;rw[pz.out] at this;exact this,hbel⟩
def NT(s:ByteArray)(W D R:Int)(token:Nat)(w:World)(e:Ending)(w':World):Prop:=Below w.heap.size w w' ∧
 ((e=.returned (.tuple #[.pointer none,.int .i64 8])∧∃ E P,bP s E P∧E≠0) ∨
  (e=.returned (.tuple #[.pointer none,.int .i64 9])∧bP s 0 0∧gY W D R=false) ∨
  (∃ (b:Nat) (a:Option Addr) (n c q m:Nat) (X:List aO),e=.returned (.tuple #[.pointer (some ⟨b,0,none⟩),.int .i64 0])∧bP s 0 0∧gY W D R=true∧s.size≤400∧(aV s).1=some (X.map (fun x=>x.it))∧X.length≤400∧dK w' w.heap.size (.slice a n c) X∧w.heap.size≤b∧w.heap.size≤q∧w.heap.size≤m∧iq w' b 96 (.slice a n c) (.int .i64 W) (.int .i64 D) (.int .i64 R) 0 false false (adG token 0 (.slice none 0 0) 0 (.slice none 0 0) 0 (.slice none 0 0) 0) [] q m))
theorem Eo(s:ByteArray)(W D R:Int)(token:Nat)(w:World)(hE:Env w)(hs:s.size≤maxLen):
  Calls Tryz.prog 31 #[.string s,.agg #[.int .i64 W,.int .i64 D,.int .i64 R],.int .u64 token] w (NT s W D R token w):=by
 have hb0:Below w.heap.size w (w.alloc (.cells #[.int .i64 W,.int .i64 D,.int .i64 R] 28)):=(Below.refl _ _).alloc (Nat.le_refl _) _
 have hC0:aK (w.alloc (.cells #[.int .i64 W,.int .i64 D,.int .i64 R] 28)) w.heap.size 28 [.int .i64 W,.int .i64 D,.int .i64 R]:=heap_alloc_new w _
 obtain⟨w0,hw0⟩:∃ w0,w.alloc (.cells #[.int .i64 W,.int .i64 D,.int .i64 R] 28)=w0:=⟨_,rfl⟩
 rw[hw0] at hb0 hC0
 have c0:w0.cell? ⟨w.heap.size,0,none⟩=some (.int .i64 W):=hC0.cell 0
 have c1:w0.cell? ⟨w.heap.size,1,none⟩=some (.int .i64 D):=hC0.cell 1
 have c2:w0.cell? ⟨w.heap.size,2,none⟩=some (.int .i64 R):=hC0.cell 2
 have HE:=hid (hE.below hb0)
 have hz0:=hb0.size
 clear hE hC0
 go_enter func31,ntmps31
 go_wp2_with fail
 refine(DJ s W D R w0 HE.out hs).mono ?_;rintro e w1 ⟨hb1,⟨rfl,hA⟩ | ⟨rfl,hA,hO⟩ | ⟨a,n,c,q,m,X,rfl,hA,hO,h4,hp,hl,hI,hq,hm,hQ,hW⟩⟩
 ·have HA:=hid hA
  have HB:=hid (show Below w.heap.size w (w1.alloc (.cells #[.slice none 0 0,.int .i64 0,.int .i64 0,.int .i64 0,.int .i64 0,.bool false,.bool false,.chan none,.map none] 91)) from(hb0.trans (hb1.mono hz0)).alloc (by have:=hb1.size;omega) _)
  clear hA
  go_wp2_with fail
  go_ret2
  exact⟨HB.out,Or.inl ⟨rfl,HA.out⟩⟩
 ·have HA:=hid hA
  have HO:=hid hO
  have HB:=hid (show Below w.heap.size w (w1.alloc (.cells #[.slice none 0 0,.int .i64 0,.int .i64 0,.int .i64 0,.int .i64 0,.bool false,.bool false,.chan none,.map none] 91)) from(hb0.trans (hb1.mono hz0)).alloc (by have:=hb1.size;omega) _)
  clear hA hO
  go_wp2_with fail
  go_ret2
  exact⟨HB.out,Or.inr (Or.inl ⟨rfl,HA.out,HO.out⟩)⟩
 ·have ZL:Below w1.heap.size w1 (w1.alloc (.cells #[.slice a n c,.int .i64 W,.int .i64 D,.int .i64 R,.int .i64 0,.bool false,.bool false,.chan (some q),.map (some m)] 91)):=(Below.refl _ _).alloc (Nat.le_refl _) _
  have hbC:Below w1.heap.size w1 ((w1.alloc (.cells #[.slice a n c,.int .i64 W,.int .i64 D,.int .i64 R,.int .i64 0,.bool false,.bool false,.chan (some q),.map (some m)] 91)).alloc (.cells #[.slice a n c,.int .i64 W,.int .i64 D,.int .i64 R,.int .i64 0,.bool false,.bool false,.chan (some q),.map (some m),.int .u64 token,.int .u64 0,.int .u64 0,.int .i64 0,.slice none 0 0,.int .u64 0,.slice none 0 0,.int .i64 0,.slice none 0 0,.int .i64 0] 96)):=ZL.alloc ZL.size _
  have TB:aK ((w1.alloc (.cells #[.slice a n c,.int .i64 W,.int .i64 D,.int .i64 R,.int .i64 0,.bool false,.bool false,.chan (some q),.map (some m)] 91)).alloc (.cells #[.slice a n c,.int .i64 W,.int .i64 D,.int .i64 R,.int .i64 0,.bool false,.bool false,.chan (some q),.map (some m),.int .u64 token,.int .u64 0,.int .u64 0,.int .i64 0,.slice none 0 0,.int .u64 0,.slice none 0 0,.int .i64 0,.slice none 0 0,.int .i64 0] 96)) (w1.alloc (.cells #[.slice a n c,.int .i64 W,.int .i64 D,.int .i64 R,.int .i64 0,.bool false,.bool false,.chan (some q),.map (some m)] 91)).heap.size 96 [.slice a n c,.int .i64 W,.int .i64 D,.int .i64 R,.int .i64 0,.bool false,.bool false,.chan (some q),.map (some m),.int .u64 token,.int .u64 0,.int .u64 0,.int .i64 0,.slice none 0 0,.int .u64 0,.slice none 0 0,.int .i64 0,.slice none 0 0,.int .i64 0]:=heap_alloc_new _ _
  have hz1:=hb1.size
  have hMz:(w1.alloc (.cells #[.slice a n c,.int .i64 W,.int .i64 D,.int .i64 R,.int .i64 0,.bool false,.bool false,.chan (some q),.map (some m)] 91)).heap.size=w1.heap.size+1:=by simp
  rw[hMz] at TB
  have agm:Below w.heap.size w ((w1.alloc (.cells #[.slice a n c,.int .i64 W,.int .i64 D,.int .i64 R,.int .i64 0,.bool false,.bool false,.chan (some q),.map (some m)] 91)).alloc (.cells #[.slice a n c,.int .i64 W,.int .i64 D,.int .i64 R,.int .i64 0,.bool false,.bool false,.chan (some q),.map (some m),.int .u64 token,.int .u64 0,.int .u64 0,.int .i64 0,.slice none 0 0,.int .u64 0,.slice none 0 0,.int .i64 0,.slice none 0 0,.int .i64 0] 96)):=(hb0.trans (hb1.mono hz0)).trans (hbC.mono (by omega))
  have HB:=hid agm
  have HBC:=hid TB
  have HQ:=hid (hQ.dB (F:=fun _=>False) (aG.of_below hbC) id)
  have HW:=hid (hW.dB (F:=fun _=>False) (aG.of_below hbC) id)
  have HI:=hid (hI.below hbC)
  have HA:=hid hA
  have HO:=hid hO
  have HP:=hid hp
  clear hQ hW hI hA hO hp agm TB hbC ZL hMz
  go_wp2_with fail
  go_ret2
  refine⟨HB.out,Or.inr (Or.inr ⟨w1.heap.size+1,a,n,c,q,m,X,rfl,HA.out,HO.out,h4,HP.out,hl,?_,by omega,by omega,by omega,⟨HBC.out,HQ.out,HW.out⟩⟩)⟩
  exact⟨own_base HI.out.own hz0,fun x hx=>⟨own_base (HI.out.nest x hx).f hz0,own_base (HI.out.nest x hx).n hz0⟩⟩
def iZ(s:ByteArray)(W D R:Int)(w:World)(e:Ending)(w':World):Prop:=Below w.heap.size w w' ∧
 ((e=.returned (.tuple #[.pointer none,.int .i64 8])∧∃ E P,bP s E P∧E≠0) ∨
  (e=.returned (.tuple #[.pointer none,.int .i64 9])∧bP s 0 0∧gY W D R=false) ∨
  (∃ (b:Nat) (a:Option Addr) (n c q m:Nat) (X:List aO) (aX:Value) (ms mo:Nat) (Ts:List jv),e=.returned (.tuple #[.pointer (some ⟨b,0,none⟩),.int .i64 0])∧bP s 0 0∧gY W D R=true∧s.size≤400∧(aV s).1=some (X.map (fun x=>x.it))∧X.length≤400∧dK w' w.heap.size (.slice a n c) X∧w.heap.size≤b∧w.heap.size≤q∧w.heap.size≤m∧iq w' b 105 (.slice a n c) (.int .i64 W) (.int .i64 D) (.int .i64 R) 0 false false (adJ aX ms mo) [] q m∧jT w' w.heap.size aX Ts∧fP w.heap.size X Ts∧Void w' ms∧Void w' mo∧w.heap.size≤ms∧w.heap.size≤mo∧ms≠mo∧ms≠m∧mo≠m))
theorem uj(w:World)(o1 o2:Obj):Below w.heap.size w ((w.alloc o1).alloc o2):=by
 have h1:Below w.heap.size w (w.alloc o1):=(Below.refl _ _).alloc (Nat.le_refl _) _
 exact h1.alloc h1.size o2
theorem IB(w:World)(o1 o2:Obj):((w.alloc o1).alloc o2).heap[w.heap.size]? = (w.alloc o1).heap[w.heap.size]? :=
 ((Below.refl _ (w.alloc o1)).alloc (Nat.le_refl _) o2).block _ (by simp)
theorem IC(w:World)(o1 o2:Obj):((w.alloc o1).alloc o2).heap[w.heap.size+1]? = some o2:=by
 have:=heap_alloc_new (w.alloc o1) o2
 simpa using this
theorem ZM(w:World)(o1:Obj):w.heap.size<(w.alloc o1).drew.heap.size:=by
 show w.heap.size<(w.alloc o1).heap.size
 simp
theorem ZN(w:World)(o1 o2:Obj):w.heap.size<((w.alloc o1).alloc o2).drew.heap.size:=by
 show w.heap.size<((w.alloc o1).alloc o2).heap.size
 have:((w.alloc o1).alloc o2).heap.size=w.heap.size+2:=by simp
 omega
theorem ZO(w:World)(o1 o2:Obj):w.heap.size+1<((w.alloc o1).alloc o2).drew.heap.size:=by
 show w.heap.size+1<((w.alloc o1).alloc o2).heap.size
 have:((w.alloc o1).alloc o2).heap.size=w.heap.size+2:=by simp
 omega
theorem FZ{w:World}{lo lo':Nat}{lv:Value}{X:List aO}(h:dK w lo lv X)(hl:lo'≤lo):dK w lo' lv X:=⟨own_base h.own hl,fun x hx=>⟨own_base (h.nest x hx).f hl,own_base (h.nest x hx).n hl⟩⟩
theorem jT.lower{w:World}{lo lo':Nat}{v:Value}{Ts:List jv}(h:jT w lo v Ts)(hl:lo'≤lo):jT w lo' v Ts:=⟨own_base h.row hl,h.each,h.nodup,fun t ht=>⟨own_base (h.kept t ht).1 hl,(h.kept t ht).2⟩,h.apart⟩
theorem uo{s:ByteArray}{W D R:Int}{w W0:World}{a:Option Addr}{n c q m ms mo lo lo' b:Nat}(hbz:W0.heap.size=b){ta:Option Addr}{tn tc:Nat}{X:List aO}{Ts:List jv}
  (hq:o8 W0 q []) (hw:Waits W0 m []) (hI:dK W0 lo (.slice a n c) X) (hT:jT W0 lo' (.slice ta tn tc) Ts) (hTR:fP lo' X Ts) (hms:Void W0 ms) (hmo:Void W0 mo) (hlo:w.heap.size≤lo) (agn:w.heap.size≤lo') (lq:w.heap.size≤q) (lm:w.heap.size≤m) (lms:w.heap.size≤ms) (lmo:w.heap.size≤mo) (n1:ms≠mo) (n2:ms≠m) (n3:mo≠m)
  (hA:bP s 0 0) (hO:gY W D R=true) (h4:s.size≤400) (hp:(aV s).1=some (X.map (fun x=>x.it))) (hl:X.length≤400) (hb:Below w.heap.size w W0) :
  iZ s W D R w (.returned (.tuple #[.pointer (some ⟨b,0,none⟩),.int .i64 0])) (W0.alloc (.cells #[.slice a n c,.int .i64 W,.int .i64 D,.int .i64 R,.int .i64 0,.bool false,.bool false,.chan (some q),.map (some m),.slice ta tn tc,.map (some ms),.pointer none,.int .u64 0,.slice none 0 0,.int .i64 0,.map (some mo)] 105)):=by
 subst hbz
 have hbB:Below W0.heap.size W0 (W0.alloc (.cells #[.slice a n c,.int .i64 W,.int .i64 D,.int .i64 R,.int .i64 0,.bool false,.bool false,.chan (some q),.map (some m),.slice ta tn tc,.map (some ms),.pointer none,.int .u64 0,.slice none 0 0,.int .i64 0,.map (some mo)] 105)):=(Below.refl _ _).alloc (Nat.le_refl _) _
 have Ih:aK (W0.alloc (.cells #[.slice a n c,.int .i64 W,.int .i64 D,.int .i64 R,.int .i64 0,.bool false,.bool false,.chan (some q),.map (some m),.slice ta tn tc,.map (some ms),.pointer none,.int .u64 0,.slice none 0 0,.int .i64 0,.map (some mo)] 105)) W0.heap.size 105 [.slice a n c,.int .i64 W,.int .i64 D,.int .i64 R,.int .i64 0,.bool false,.bool false,.chan (some q),.map (some m),.slice ta tn tc,.map (some ms),.pointer none,.int .u64 0,.slice none 0 0,.int .i64 0,.map (some mo)]:=heap_alloc_new W0 _
 exact⟨hb.trans (hbB.mono hb.size),Or.inr (Or.inr ⟨W0.heap.size,a,n,c,q,m,X,.slice ta tn tc,ms,mo,Ts,rfl,hA,hO,h4,hp,hl,FZ (hI.below hbB) hlo,hb.size,lq,lm,⟨Ih,hq.dB (F:=fun _=>False) (aG.of_below hbB) id,hw.dB (F:=fun _=>False) (aG.of_below hbB) id⟩,(hT.below hbB).lower agn,hTR.lower agn,hms.dB (F:=fun _=>False) (aG.of_below hbB) id,hmo.dB (F:=fun _=>False) (aG.of_below hbB) id,lms,lmo,n1,n2,n3⟩)⟩
theorem acQ{s:ByteArray}{W D R:Int}{w wM w2:World}{a:Option Addr}{n c q m lo:Nat}{ta:Option Addr}{tn tc:Nat}{X:List aO}{Ts:List jv}
  (hq:o8 wM q []) (hw:Waits wM m []) (hI:dK wM lo (.slice a n c) X) (hT:jT w2 wM.heap.size (.slice ta tn tc) Ts) (hTR:fP wM.heap.size X Ts) (hlo:w.heap.size≤lo) (lq:w.heap.size≤q) (lm:w.heap.size≤m)
  (hA:bP s 0 0) (hO:gY W D R=true) (h4:s.size≤400) (hp:(aV s).1=some (X.map (fun x=>x.it))) (hl:X.length≤400) (hb:Below w.heap.size w wM) (hb2:Below wM.heap.size wM w2) :
  iZ s W D R w (.returned (.tuple #[.pointer (some ⟨w2.heap.size+1+1,0,none⟩),.int .i64 0])) (((w2.alloc (.map #[] 0)).alloc (.map #[] 0)).alloc (.cells #[.slice a n c,.int .i64 W,.int .i64 D,.int .i64 R,.int .i64 0,.bool false,.bool false,.chan (some q),.map (some m),.slice ta tn tc,.map (some w2.heap.size),.pointer none,.int .u64 0,.slice none 0 0,.int .i64 0,.map (some (w2.heap.size+1))] 105)):=by
 have hW0:Below w2.heap.size w2 ((w2.alloc (.map #[] 0)).alloc (.map #[] 0)):=uj w2 _ _
 have hz2:=hb2.size
 have hzM:=hb.size
 have hml:=hw.lt
 have eF:Below wM.heap.size wM ((w2.alloc (.map #[] 0)).alloc (.map #[] 0)):=hb2.trans (hW0.mono hz2)
 exact uo (W0:=((w2.alloc (.map #[] 0)).alloc (.map #[] 0))) (by simp) (hq.dB (F:=fun _=>False) (aG.of_below eF) id) (hw.dB (F:=fun _=>False) (aG.of_below eF) id) (hI.below eF) (hT.below hW0) hTR (show Void _ _ from(IB w2 _ _).trans (heap_alloc_new w2 _)) (show Void _ _ from IC w2 _ _) hlo (lo':=wM.heap.size) hzM lq lm (by omega) (by omega) (by omega) (by omega) (by omega) hA hO h4 hp hl (hb.trans (eF.mono hzM))
theorem ZP{s:ByteArray}{W D R:Int}{w wM w2:World}{a:Option Addr}{n c q m lo:Nat}{ta:Option Addr}{tn tc:Nat}{X:List aO}{Ts:List jv}
  (hq:o8 wM q []) (hw:Waits wM m []) (hI:dK wM lo (.slice a n c) X) (hT:jT w2 wM.heap.size (.slice ta tn tc) Ts) (hTR:fP wM.heap.size X Ts) (hlo:w.heap.size≤lo) (lq:w.heap.size≤q) (lm:w.heap.size≤m)
  (hA:bP s 0 0) (hO:gY W D R=true) (h4:s.size≤400) (hp:(aV s).1=some (X.map (fun x=>x.it))) (hl:X.length≤400) (hb:Below w.heap.size w wM) (hb2:Below wM.heap.size wM w2) :
  iZ s W D R w (.returned (.tuple #[.pointer (some ⟨w2.heap.size+1+1,0,none⟩),.int .i64 0])) (((w2.alloc (.map #[] 0)).alloc (.map #[] 0)).alloc (.cells #[.slice a n c,.int .i64 W,.int .i64 D,.int .i64 R,.int .i64 0,.bool false,.bool false,.chan (some q),.map (some m),.slice ta tn tc,.map (some (w2.heap.size+1)),.pointer none,.int .u64 0,.slice none 0 0,.int .i64 0,.map (some w2.heap.size)] 105)):=by
 have hW0:Below w2.heap.size w2 ((w2.alloc (.map #[] 0)).alloc (.map #[] 0)):=uj w2 _ _
 have hz2:=hb2.size
 have hzM:=hb.size
 have hml:=hw.lt
 have eF:Below wM.heap.size wM ((w2.alloc (.map #[] 0)).alloc (.map #[] 0)):=hb2.trans (hW0.mono hz2)
 exact uo (W0:=((w2.alloc (.map #[] 0)).alloc (.map #[] 0))) (by simp) (hq.dB (F:=fun _=>False) (aG.of_below eF) id) (hw.dB (F:=fun _=>False) (aG.of_below eF) id) (hI.below eF) (hT.below hW0) hTR (show Void _ _ from IC w2 _ _) (show Void _ _ from(IB w2 _ _).trans (heap_alloc_new w2 _)) hlo (lo':=wM.heap.size) hzM lq lm (by omega) (by omega) (by omega) (by omega) (by omega) hA hO h4 hp hl (hb.trans (eF.mono hzM))
theorem acR{s:ByteArray}{W D R:Int}{w wM w2:World}{a:Option Addr}{n c q m lo:Nat}{ta:Option Addr}{tn tc:Nat}{X:List aO}{Ts:List jv}(hV1:Void w2 wM.heap.size)
  (hq:o8 wM q []) (hw:Waits wM m []) (hI:dK wM lo (.slice a n c) X) (hT:jT w2 wM.heap.size (.slice ta tn tc) Ts) (hTR:fP wM.heap.size X Ts) (hlo:w.heap.size≤lo) (lq:w.heap.size≤q) (lm:w.heap.size≤m)
  (hA:bP s 0 0) (hO:gY W D R=true) (h4:s.size≤400) (hp:(aV s).1=some (X.map (fun x=>x.it))) (hl:X.length≤400) (hb:Below w.heap.size w wM) (hb2:Below wM.heap.size wM w2) :
  iZ s W D R w (.returned (.tuple #[.pointer (some ⟨w2.heap.size+1,0,none⟩),.int .i64 0])) ((w2.alloc (.map #[] 0)).alloc (.cells #[.slice a n c,.int .i64 W,.int .i64 D,.int .i64 R,.int .i64 0,.bool false,.bool false,.chan (some q),.map (some m),.slice ta tn tc,.map (some wM.heap.size),.pointer none,.int .u64 0,.slice none 0 0,.int .i64 0,.map (some w2.heap.size)] 105)):=by
 have hW0:Below w2.heap.size w2 (w2.alloc (.map #[] 0)):=(Below.refl _ _).alloc (Nat.le_refl _) _
 have hz2:=hb2.size
 have hzM:=hb.size
 have hml:=hw.lt
 have hv1:=hV1.lt
 have eF:Below wM.heap.size wM (w2.alloc (.map #[] 0)):=hb2.trans (hW0.mono hz2)
 exact uo (W0:=(w2.alloc (.map #[] 0))) (by simp) (hq.dB (F:=fun _=>False) (aG.of_below eF) id) (hw.dB (F:=fun _=>False) (aG.of_below eF) id) (hI.below eF) (hT.below hW0) hTR (hV1.dB (F:=fun _=>False) (aG.of_below hW0) id) (show Void _ _ from heap_alloc_new w2 _) hlo (lo':=wM.heap.size) hzM lq lm (by omega) (by omega) (by omega) (by omega) (by omega) hA hO h4 hp hl (hb.trans (eF.mono hzM))
theorem ZQ{s:ByteArray}{W D R:Int}{w wM w2:World}{a:Option Addr}{n c q m lo:Nat}{ta:Option Addr}{tn tc:Nat}{X:List aO}{Ts:List jv}(hV1:Void w2 wM.heap.size)
  (hq:o8 wM q []) (hw:Waits wM m []) (hI:dK wM lo (.slice a n c) X) (hT:jT w2 wM.heap.size (.slice ta tn tc) Ts) (hTR:fP wM.heap.size X Ts) (hlo:w.heap.size≤lo) (lq:w.heap.size≤q) (lm:w.heap.size≤m)
  (hA:bP s 0 0) (hO:gY W D R=true) (h4:s.size≤400) (hp:(aV s).1=some (X.map (fun x=>x.it))) (hl:X.length≤400) (hb:Below w.heap.size w wM) (hb2:Below wM.heap.size wM w2) :
  iZ s W D R w (.returned (.tuple #[.pointer (some ⟨w2.heap.size+1,0,none⟩),.int .i64 0])) ((w2.alloc (.map #[] 0)).alloc (.cells #[.slice a n c,.int .i64 W,.int .i64 D,.int .i64 R,.int .i64 0,.bool false,.bool false,.chan (some q),.map (some m),.slice ta tn tc,.map (some w2.heap.size),.pointer none,.int .u64 0,.slice none 0 0,.int .i64 0,.map (some wM.heap.size)] 105)):=by
 have hW0:Below w2.heap.size w2 (w2.alloc (.map #[] 0)):=(Below.refl _ _).alloc (Nat.le_refl _) _
 have hz2:=hb2.size
 have hzM:=hb.size
 have hml:=hw.lt
 have hv1:=hV1.lt
 have eF:Below wM.heap.size wM (w2.alloc (.map #[] 0)):=hb2.trans (hW0.mono hz2)
 exact uo (W0:=(w2.alloc (.map #[] 0))) (by simp) (hq.dB (F:=fun _=>False) (aG.of_below eF) id) (hw.dB (F:=fun _=>False) (aG.of_below eF) id) (hI.below eF) (hT.below hW0) hTR (show Void _ _ from heap_alloc_new w2 _) (hV1.dB (F:=fun _=>False) (aG.of_below hW0) id) hlo (lo':=wM.heap.size) hzM lq lm (by omega) (by omega) (by omega) (by omega) (by omega) hA hO h4 hp hl (hb.trans (eF.mono hzM))
theorem acS{s:ByteArray}{W D R:Int}{w wM w2:World}{a:Option Addr}{n c q m lo:Nat}{ta:Option Addr}{tn tc:Nat}{X:List aO}{Ts:List jv}(hV1:Void w2 wM.heap.size)(hV2:Void w2 (wM.heap.size+1))
  (hq:o8 wM q []) (hw:Waits wM m []) (hI:dK wM lo (.slice a n c) X) (hT:jT w2 wM.heap.size (.slice ta tn tc) Ts) (hTR:fP wM.heap.size X Ts) (hlo:w.heap.size≤lo) (lq:w.heap.size≤q) (lm:w.heap.size≤m)
  (hA:bP s 0 0) (hO:gY W D R=true) (h4:s.size≤400) (hp:(aV s).1=some (X.map (fun x=>x.it))) (hl:X.length≤400) (hb:Below w.heap.size w wM) (hb2:Below wM.heap.size wM w2) :
  iZ s W D R w (.returned (.tuple #[.pointer (some ⟨w2.heap.size,0,none⟩),.int .i64 0])) (w2.alloc (.cells #[.slice a n c,.int .i64 W,.int .i64 D,.int .i64 R,.int .i64 0,.bool false,.bool false,.chan (some q),.map (some m),.slice ta tn tc,.map (some wM.heap.size),.pointer none,.int .u64 0,.slice none 0 0,.int .i64 0,.map (some (wM.heap.size+1))] 105)):=by
 have hW0:Below w2.heap.size w2 w2:=Below.refl _ _
 have hz2:=hb2.size
 have hzM:=hb.size
 have hml:=hw.lt
 have hv1:=hV1.lt
 have eF:Below wM.heap.size wM w2:=hb2.trans (hW0.mono hz2)
 exact uo (W0:=w2) (by rfl) (hq.dB (F:=fun _=>False) (aG.of_below eF) id) (hw.dB (F:=fun _=>False) (aG.of_below eF) id) (hI.below eF) (hT.below hW0) hTR hV1 hV2 hlo (lo':=wM.heap.size) hzM lq lm (by omega) (by omega) (by omega) (by omega) (by omega) hA hO h4 hp hl (hb.trans (eF.mono hzM))
theorem ZR{s:ByteArray}{W D R:Int}{w wM w2:World}{a:Option Addr}{n c q m lo:Nat}{ta:Option Addr}{tn tc:Nat}{X:List aO}{Ts:List jv}(hV1:Void w2 wM.heap.size)(hV2:Void w2 (wM.heap.size+1))
  (hq:o8 wM q []) (hw:Waits wM m []) (hI:dK wM lo (.slice a n c) X) (hT:jT w2 wM.heap.size (.slice ta tn tc) Ts) (hTR:fP wM.heap.size X Ts) (hlo:w.heap.size≤lo) (lq:w.heap.size≤q) (lm:w.heap.size≤m)
  (hA:bP s 0 0) (hO:gY W D R=true) (h4:s.size≤400) (hp:(aV s).1=some (X.map (fun x=>x.it))) (hl:X.length≤400) (hb:Below w.heap.size w wM) (hb2:Below wM.heap.size wM w2) :
  iZ s W D R w (.returned (.tuple #[.pointer (some ⟨w2.heap.size,0,none⟩),.int .i64 0])) (w2.alloc (.cells #[.slice a n c,.int .i64 W,.int .i64 D,.int .i64 R,.int .i64 0,.bool false,.bool false,.chan (some q),.map (some m),.slice ta tn tc,.map (some (wM.heap.size+1)),.pointer none,.int .u64 0,.slice none 0 0,.int .i64 0,.map (some wM.heap.size)] 105)):=by
 have hW0:Below w2.heap.size w2 w2:=Below.refl _ _
 have hz2:=hb2.size
 have hzM:=hb.size
 have hml:=hw.lt
 have hv1:=hV1.lt
 have eF:Below wM.heap.size wM w2:=hb2.trans (hW0.mono hz2)
 exact uo (W0:=w2) (by rfl) (hq.dB (F:=fun _=>False) (aG.of_below eF) id) (hw.dB (F:=fun _=>False) (aG.of_below eF) id) (hI.below eF) (hT.below hW0) hTR hV2 hV1 hlo (lo':=wM.heap.size) hzM lq lm (by omega) (by omega) (by omega) (by omega) (by omega) hA hO h4 hp hl (hb.trans (eF.mono hzM))
theorem Ep(s:ByteArray)(W D R:Int)(w:World)(hE:Env w)(hs:s.size≤maxLen):
  Calls Tryz.prog 30 #[.string s,.agg #[.int .i64 W,.int .i64 D,.int .i64 R]] w (iZ s W D R w):=by
 have hb0:Below w.heap.size w (w.alloc (.cells #[.int .i64 W,.int .i64 D,.int .i64 R] 28)):=(Below.refl _ _).alloc (Nat.le_refl _) _
 have hC0:aK (w.alloc (.cells #[.int .i64 W,.int .i64 D,.int .i64 R] 28)) w.heap.size 28 [.int .i64 W,.int .i64 D,.int .i64 R]:=heap_alloc_new w _
 obtain⟨w0,hw0⟩:∃ w0,w.alloc (.cells #[.int .i64 W,.int .i64 D,.int .i64 R] 28)=w0:=⟨_,rfl⟩
 rw[hw0] at hb0 hC0
 have c0:w0.cell? ⟨w.heap.size,0,none⟩=some (.int .i64 W):=hC0.cell 0
 have c1:w0.cell? ⟨w.heap.size,1,none⟩=some (.int .i64 D):=hC0.cell 1
 have c2:w0.cell? ⟨w.heap.size,2,none⟩=some (.int .i64 R):=hC0.cell 2
 have HE:=hid (hE.below hb0)
 have hz0:=hb0.size
 clear hE hC0
 go_enter func30,ntmps30
 go_wp2_with fail
 refine(DJ s W D R w0 HE.out hs).mono ?_;rintro e w1 ⟨hb1,⟨rfl,hA⟩ | ⟨rfl,hA,hO⟩ | ⟨a,n,c,q,m,X,rfl,hA,hO,h4,hp,hl,hI,hq,hm,hQ,hW⟩⟩
 ·have HA:=hid hA
  have HB:=hid (show Below w.heap.size w (w1.alloc (.cells #[.slice none 0 0,.int .i64 0,.int .i64 0,.int .i64 0,.int .i64 0,.bool false,.bool false,.chan none,.map none] 91)) from(hb0.trans (hb1.mono hz0)).alloc (by have:=hb1.size;omega) _)
  clear hA
  go_wp2_with fail
  go_ret2
  exact⟨HB.out,Or.inl ⟨rfl,HA.out⟩⟩
 ·have HA:=hid hA
  have HO:=hid hO
  have HB:=hid (show Below w.heap.size w (w1.alloc (.cells #[.slice none 0 0,.int .i64 0,.int .i64 0,.int .i64 0,.int .i64 0,.bool false,.bool false,.chan none,.map none] 91)) from(hb0.trans (hb1.mono hz0)).alloc (by have:=hb1.size;omega) _)
  clear hA hO
  go_wp2_with fail
  go_ret2
  exact⟨HB.out,Or.inr (Or.inl ⟨rfl,HA.out,HO.out⟩)⟩
 ·have ZL:Below w1.heap.size w1 (w1.alloc (.cells #[.slice a n c,.int .i64 W,.int .i64 D,.int .i64 R,.int .i64 0,.bool false,.bool false,.chan (some q),.map (some m)] 91)):=(Below.refl _ _).alloc (Nat.le_refl _) _
  have hz1:=hb1.size
  have DV:=hid (show aK (w1.alloc (.cells #[.slice a n c,.int .i64 W,.int .i64 D,.int .i64 R,.int .i64 0,.bool false,.bool false,.chan (some q),.map (some m)] 91)) w1.heap.size 91 [.slice a n c,.int .i64 W,.int .i64 D,.int .i64 R,.int .i64 0,.bool false,.bool false,.chan (some q),.map (some m)] from heap_alloc_new w1 _)
  have HXO:=hid (OD.of h4 hp hl)
  have HQ:=hid (hQ.dB (F:=fun _=>False) (aG.of_below ZL) id)
  have HW:=hid (hW.dB (F:=fun _=>False) (aG.of_below ZL) id)
  have HI:=hid (hI.below ZL)
  have HA:=hid hA
  have HO:=hid hO
  have HP:=hid hp
  have HB:=hid ((hb0.trans (hb1.mono hz0)).trans (ZL.mono (by omega)))
  have hlq:w.heap.size≤q:=by omega
  have hlm:w.heap.size≤m:=by omega
  clear hQ hW hI hA hO hp ZL
  go_wp2_with fail
  generalize (w1.alloc (.cells #[.slice a n c,.int .i64 W,.int .i64 D,.int .i64 R,.int .i64 0,.bool false,.bool false,.chan (some q),.map (some m)] 91))=wM at *
  generalize w1.heap.size=mb at *
  have ape:∀ W:World,(Instr.makeMap 100 none).run Tryz.prog W=.ok (.map (some W.heap.size)) (W.alloc (.map #[] 0)):=fun W=>rfl
  have apf:∀ W:World,(Instr.makeMap 103 none).run Tryz.prog W=.ok (.map (some W.heap.size)) (W.alloc (.map #[] 0)):=fun W=>rfl
  have j0:wM.cell? ⟨mb,0,none⟩=some (.slice a n c):=DV.out.cell 0
  have j1:wM.cell? ⟨mb,1,none⟩=some (.int .i64 W):=DV.out.cell 1
  have j2:wM.cell? ⟨mb,2,none⟩=some (.int .i64 D):=DV.out.cell 2
  have j3:wM.cell? ⟨mb,3,none⟩=some (.int .i64 R):=DV.out.cell 3
  have j4:wM.cell? ⟨mb,4,none⟩=some (.int .i64 0):=DV.out.cell 4
  have j5:wM.cell? ⟨mb,5,none⟩=some (.bool false):=DV.out.cell 5
  have j6:wM.cell? ⟨mb,6,none⟩=some (.bool false):=DV.out.cell 6
  have j7:wM.cell? ⟨mb,7,none⟩=some (.chan (some q)):=DV.out.cell 7
  have j8:wM.cell? ⟨mb,8,none⟩=some (.map (some m)):=DV.out.cell 8
  have hmb:=DV.out.lt
  generalize Value.tuple #[.agg #[.slice a n c,.int .i64 W,.int .i64 D,.int .i64 R,.int .i64 0,.bool false,.bool false,.chan (some q),.map (some m)],.int .i64 0]=tv
  generalize Value.agg #[.int .i64 W,.int .i64 D,.int .i64 R]=cv
  clear hw0 c0 c1 c2
  have HKM:=hid (show ∀ w',Below wM.heap.size wM w'→w'.cell? ⟨mb,0,none⟩=some (.slice a n c)∧w'.cell? ⟨mb,1,none⟩=some (.int .i64 W)∧w'.cell? ⟨mb,2,none⟩=some (.int .i64 D)∧w'.cell? ⟨mb,3,none⟩=some (.int .i64 R)∧w'.cell? ⟨mb,4,none⟩=some (.int .i64 0)∧w'.cell? ⟨mb,5,none⟩=some (.bool false)∧w'.cell? ⟨mb,6,none⟩=some (.bool false)∧w'.cell? ⟨mb,7,none⟩=some (.chan (some q))∧w'.cell? ⟨mb,8,none⟩=some (.map (some m)) from fun w' hw'=>⟨(DV.out.below hw').cell 0,(DV.out.below hw').cell 1,(DV.out.below hw').cell 2,(DV.out.below hw').cell 3,(DV.out.below hw').cell 4,(DV.out.below hw').cell 5,(DV.out.below hw').cell 6,(DV.out.below hw').cell 7,(DV.out.below hw').cell 8⟩)
  go_region_held3 (fun w'=>w'.cell? ⟨mb,0,none⟩=some (.slice a n c)∧w'.cell? ⟨mb,1,none⟩=some (.int .i64 W)∧w'.cell? ⟨mb,2,none⟩=some (.int .i64 D)∧w'.cell? ⟨mb,3,none⟩=some (.int .i64 R)∧w'.cell? ⟨mb,4,none⟩=some (.int .i64 0)∧w'.cell? ⟨mb,5,none⟩=some (.bool false)∧w'.cell? ⟨mb,6,none⟩=some (.bool false)∧w'.cell? ⟨mb,7,none⟩=some (.chan (some q))∧w'.cell? ⟨mb,8,none⟩=some (.map (some m)))
   (exact HKM.out _ (by repeat (first | with_reducible assumption | with_reducible exact Below.refl _ _ | with_reducible apply Below.drew | (with_reducible refine Below.alloc ?_ (by first | exact Nat.le_refl _ | exact Ih.size | (simp;done) | (simp;have:=Ih.size;omega) | (have:=Ih.size;simp;omega)) _))))
   (first | (go_at_call 49;first
   | (refine(qA wM.drew _ a n c X (HI.out.below ((Below.refl _ wM).drew)) HXO.out.nms hl).mono ?_;rintro e w2 ⟨ta,tn,tc,Ts,rfl,hT,hTR,hb2⟩;have hh:Below wM.heap.size wM wM.drew:=(Below.refl _ wM).drew;have HT:=hid (hT.lower hh.size);have HTR:=hid (hTR.lower hh.size);have Ih:Below wM.heap.size wM w2:=hh.trans (hb2.mono hh.size);have Ag:=hid Ih;have hB2:=DV.out.below Ih;have k0:w2.cell? ⟨mb,0,none⟩=some (.slice a n c):=hB2.cell 0;have k1:w2.cell? ⟨mb,1,none⟩=some (.int .i64 W):=hB2.cell 1;have k2:w2.cell? ⟨mb,2,none⟩=some (.int .i64 D):=hB2.cell 2;have k3:w2.cell? ⟨mb,3,none⟩=some (.int .i64 R):=hB2.cell 3;have k4:w2.cell? ⟨mb,4,none⟩=some (.int .i64 0):=hB2.cell 4;have k5:w2.cell? ⟨mb,5,none⟩=some (.bool false):=hB2.cell 5;have k6:w2.cell? ⟨mb,6,none⟩=some (.bool false):=hB2.cell 6;have k7:w2.cell? ⟨mb,7,none⟩=some (.chan (some q)):=hB2.cell 7;have k8:w2.cell? ⟨mb,8,none⟩=some (.map (some m)):=hB2.cell 8;have hlt2:=hB2.lt;clear hT hTR hB2 hh hb2)
   | (refine(qA (wM.alloc (.map #[] 0)).drew _ a n c X (HI.out.below (((Below.refl _ wM).alloc (Nat.le_refl _) (.map #[] 0)).drew)) HXO.out.nms hl).mono ?_;rintro e w2 ⟨ta,tn,tc,Ts,rfl,hT,hTR,hb2⟩;have hh:Below wM.heap.size wM (wM.alloc (.map #[] 0)).drew:=((Below.refl _ wM).alloc (Nat.le_refl _) (.map #[] 0)).drew;have HT:=hid (hT.lower hh.size);have HTR:=hid (hTR.lower hh.size);have Ih:Below wM.heap.size wM w2:=hh.trans (hb2.mono hh.size);have Ag:=hid Ih;have hB2:=DV.out.below Ih;have k0:w2.cell? ⟨mb,0,none⟩=some (.slice a n c):=hB2.cell 0;have k1:w2.cell? ⟨mb,1,none⟩=some (.int .i64 W):=hB2.cell 1;have k2:w2.cell? ⟨mb,2,none⟩=some (.int .i64 D):=hB2.cell 2;have k3:w2.cell? ⟨mb,3,none⟩=some (.int .i64 R):=hB2.cell 3;have k4:w2.cell? ⟨mb,4,none⟩=some (.int .i64 0):=hB2.cell 4;have k5:w2.cell? ⟨mb,5,none⟩=some (.bool false):=hB2.cell 5;have k6:w2.cell? ⟨mb,6,none⟩=some (.bool false):=hB2.cell 6;have k7:w2.cell? ⟨mb,7,none⟩=some (.chan (some q)):=hB2.cell 7;have k8:w2.cell? ⟨mb,8,none⟩=some (.map (some m)):=hB2.cell 8;have hlt2:=hB2.lt;have ZT:Hid (Void w2 wM.heap.size):=hid ((hb2.block wM.heap.size (ZM _ _)).trans (heap_alloc_new wM _));clear hT hTR hB2 hh hb2)
   | (refine(qA ((wM.alloc (.map #[] 0)).alloc (.map #[] 0)).drew _ a n c X (HI.out.below ((uj wM (.map #[] 0) (.map #[] 0)).drew)) HXO.out.nms hl).mono ?_;rintro e w2 ⟨ta,tn,tc,Ts,rfl,hT,hTR,hb2⟩;have hh:Below wM.heap.size wM ((wM.alloc (.map #[] 0)).alloc (.map #[] 0)).drew:=(uj wM (.map #[] 0) (.map #[] 0)).drew;have HT:=hid (hT.lower hh.size);have HTR:=hid (hTR.lower hh.size);have Ih:Below wM.heap.size wM w2:=hh.trans (hb2.mono hh.size);have Ag:=hid Ih;have hB2:=DV.out.below Ih;have k0:w2.cell? ⟨mb,0,none⟩=some (.slice a n c):=hB2.cell 0;have k1:w2.cell? ⟨mb,1,none⟩=some (.int .i64 W):=hB2.cell 1;have k2:w2.cell? ⟨mb,2,none⟩=some (.int .i64 D):=hB2.cell 2;have k3:w2.cell? ⟨mb,3,none⟩=some (.int .i64 R):=hB2.cell 3;have k4:w2.cell? ⟨mb,4,none⟩=some (.int .i64 0):=hB2.cell 4;have k5:w2.cell? ⟨mb,5,none⟩=some (.bool false):=hB2.cell 5;have k6:w2.cell? ⟨mb,6,none⟩=some (.bool false):=hB2.cell 6;have k7:w2.cell? ⟨mb,7,none⟩=some (.chan (some q)):=hB2.cell 7;have k8:w2.cell? ⟨mb,8,none⟩=some (.map (some m)):=hB2.cell 8;have hlt2:=hB2.lt;have ZT:Hid (Void w2 wM.heap.size):=hid ((hb2.block wM.heap.size (ZN _ _ _)).trans ((IB wM _ _).trans (heap_alloc_new wM _)));have HV2:Hid (Void w2 (wM.heap.size+1)):=hid ((hb2.block (wM.heap.size+1) (ZO _ _ _)).trans (IC wM _ _));clear hT hTR hB2 hh hb2)))
  all_goals
   go_wp2_with fail
   go_ret2
   first
   | exact acQ HQ.out HW.out HI.out HT.out HTR.out hz0 hlq hlm HA.out HO.out h4 HP.out hl HB.out Ag.out
   | exact ZP HQ.out HW.out HI.out HT.out HTR.out hz0 hlq hlm HA.out HO.out h4 HP.out hl HB.out Ag.out
   | exact acR ZT.out HQ.out HW.out HI.out HT.out HTR.out hz0 hlq hlm HA.out HO.out h4 HP.out hl HB.out Ag.out
   | exact ZQ ZT.out HQ.out HW.out HI.out HT.out HTR.out hz0 hlq hlm HA.out HO.out h4 HP.out hl HB.out Ag.out
   | exact acS ZT.out HV2.out HQ.out HW.out HI.out HT.out HTR.out hz0 hlq hlm HA.out HO.out h4 HP.out hl HB.out Ag.out
   | exact ZR ZT.out HV2.out HQ.out HW.out HI.out HT.out HTR.out hz0 hlq hlm HA.out HO.out h4 HP.out hl HB.out Ag.out
theorem agp{w:World}{lo lo':Nat}{lv:Value}{X:List aO}(h:dK w lo lv X)(hl:lo'≤lo):dK w lo' lv X:=FZ h hl
def Pz(s:ByteArray)(W D R:Int)(token:Nat)(lo:Nat)(w':World)(x:Nat):Prop:=∃ (b:Nat) (a:Option Addr) (n c q m:Nat) (X:List aO),aK w' x 84 [.pointer (some ⟨b,0,none⟩)]∧lo≤x∧bP s 0 0∧gY W D R=true∧s.size≤400∧(aV s).1=some (X.map (fun x=>x.it))∧X.length≤400∧dK w' lo (.slice a n c) X∧lo≤b∧lo≤q∧lo≤m∧iq w' b 96 (.slice a n c) (.int .i64 W) (.int .i64 D) (.int .i64 R) 0 false false (adG token 0 (.slice none 0 0) 0 (.slice none 0 0) 0 (.slice none 0 0) 0) [] q m
def PD(s:ByteArray)(W D R:Int)(lo:Nat)(w':World)(x:Nat):Prop:=∃ (b:Nat) (a:Option Addr) (n c q m:Nat) (X:List aO) (aX:Value) (ms mo:Nat) (Ts:List jv),aK w' x 79 [.pointer (some ⟨b,0,none⟩)]∧lo≤x∧bP s 0 0∧gY W D R=true∧s.size≤400∧(aV s).1=some (X.map (fun x=>x.it))∧X.length≤400∧dK w' lo (.slice a n c) X∧lo≤b∧lo≤q∧lo≤m∧iq w' b 105 (.slice a n c) (.int .i64 W) (.int .i64 D) (.int .i64 R) 0 false false (adJ aX ms mo) [] q m∧jT w' lo aX Ts∧fP lo X Ts∧Void w' ms∧Void w' mo∧lo≤ms∧lo≤mo∧ms≠mo∧ms≠m∧mo≠m
theorem NU(s:ByteArray)(W D R:Int)(token:Nat)(w:World)(hE:Env w)(hs:s.size≤maxLen):
  Calls Tryz.prog 14 #[.string s,.agg #[.int .i64 W,.int .i64 D,.int .i64 R],.int .u64 token] w (fun e w'=>Below w.heap.size w w' ∧
   ((e=.returned (.tuple #[.pointer none,.int .i64 8])∧∃ E P,bP s E P∧E≠0)∨(e=.returned (.tuple #[.pointer none,.int .i64 9])∧bP s 0 0∧gY W D R=false)∨∃ x,e=.returned (.tuple #[.pointer (some ⟨x,0,none⟩),.int .i64 0])∧Pz s W D R token w.heap.size w' x)):=by
 have hb0:Below w.heap.size w (w.alloc (.cells #[.int .i64 W,.int .i64 D,.int .i64 R] 28)):=(Below.refl _ _).alloc (Nat.le_refl _) _
 have hC0:aK (w.alloc (.cells #[.int .i64 W,.int .i64 D,.int .i64 R] 28)) w.heap.size 28 [.int .i64 W,.int .i64 D,.int .i64 R]:=heap_alloc_new w _
 obtain⟨w0,hw0⟩:∃ w0,w.alloc (.cells #[.int .i64 W,.int .i64 D,.int .i64 R] 28)=w0:=⟨_,rfl⟩
 rw[hw0] at hb0 hC0
 have c0:w0.cell? ⟨w.heap.size,0,none⟩=some (.int .i64 W):=hC0.cell 0
 have c1:w0.cell? ⟨w.heap.size,1,none⟩=some (.int .i64 D):=hC0.cell 1
 have c2:w0.cell? ⟨w.heap.size,2,none⟩=some (.int .i64 R):=hC0.cell 2
 have HE:=hid (hE.below hb0)
 have hz0:=hb0.size
 clear hE hC0
 go_enter func14,ntmps14
 go_wp2_with fail
 refine(Eo s W D R token w0 HE.out hs).mono ?_;rintro e w1 ⟨hb1,⟨rfl,hA⟩ | ⟨rfl,hA,hO⟩ | ⟨b,a,n,c,q,m,X,rfl,hA,hO,h4,hp,hl,hI,hb,hq,hm,hE1⟩⟩
 ·have HA:=hid hA
  have HB:=hid (hb0.trans (hb1.mono hz0))
  clear hA
  go_wp2_with fail
  go_ret2
  exact⟨HB.out,Or.inl ⟨rfl,HA.out⟩⟩
 ·have HA:=hid hA
  have HO:=hid hO
  have HB:=hid (hb0.trans (hb1.mono hz0))
  clear hA hO
  go_wp2_with fail
  go_ret2
  exact⟨HB.out,Or.inr (Or.inl ⟨rfl,HA.out,HO.out⟩)⟩
 ·have hbx:Below w1.heap.size w1 (w1.alloc (.cells #[.pointer (some ⟨b,0,none⟩)] 84)):=(Below.refl _ _).alloc (Nat.le_refl _) _
  have hBx:aK (w1.alloc (.cells #[.pointer (some ⟨b,0,none⟩)] 84)) w1.heap.size 84 [.pointer (some ⟨b,0,none⟩)]:=heap_alloc_new w1 _
  have HB:=hid ((hb0.trans (hb1.mono hz0)).trans (hbx.mono (by have:=hb1.size;omega)))
  have HOK:=hid (show Pz s W D R token w.heap.size (w1.alloc (.cells #[.pointer (some ⟨b,0,none⟩)] 84)) w1.heap.size from⟨b,a,n,c,q,m,X,hBx,by have:=hb1.size;omega,hA,hO,h4,hp,hl,agp (hI.below hbx) hz0,by omega,by omega,by omega,hE1.below hbx⟩)
  clear hA hO hp hI hE1 hbx hBx
  go_wp2_with fail
  go_ret2
  exact⟨HB.out,Or.inr (Or.inr ⟨w1.heap.size,rfl,HOK.out⟩)⟩
theorem NV(s:ByteArray)(W D R:Int)(w:World)(hE:Env w)(hs:s.size≤maxLen):
  Calls Tryz.prog 13 #[.string s,.agg #[.int .i64 W,.int .i64 D,.int .i64 R]] w (fun e w'=>Below w.heap.size w w' ∧
   ((e=.returned (.tuple #[.pointer none,.int .i64 8])∧∃ E P,bP s E P∧E≠0)∨(e=.returned (.tuple #[.pointer none,.int .i64 9])∧bP s 0 0∧gY W D R=false)∨∃ x,e=.returned (.tuple #[.pointer (some ⟨x,0,none⟩),.int .i64 0])∧PD s W D R w.heap.size w' x)):=by
 have hb0:Below w.heap.size w (w.alloc (.cells #[.int .i64 W,.int .i64 D,.int .i64 R] 28)):=(Below.refl _ _).alloc (Nat.le_refl _) _
 have hC0:aK (w.alloc (.cells #[.int .i64 W,.int .i64 D,.int .i64 R] 28)) w.heap.size 28 [.int .i64 W,.int .i64 D,.int .i64 R]:=heap_alloc_new w _
 obtain⟨w0,hw0⟩:∃ w0,w.alloc (.cells #[.int .i64 W,.int .i64 D,.int .i64 R] 28)=w0:=⟨_,rfl⟩
 rw[hw0] at hb0 hC0
 have c0:w0.cell? ⟨w.heap.size,0,none⟩=some (.int .i64 W):=hC0.cell 0
 have c1:w0.cell? ⟨w.heap.size,1,none⟩=some (.int .i64 D):=hC0.cell 1
 have c2:w0.cell? ⟨w.heap.size,2,none⟩=some (.int .i64 R):=hC0.cell 2
 have HE:=hid (hE.below hb0)
 have hz0:=hb0.size
 clear hE hC0
 go_enter func13,ntmps13
 go_wp2_with fail
 refine(Ep s W D R w0 HE.out hs).mono ?_;rintro e w1 ⟨hb1,⟨rfl,hA⟩ | ⟨rfl,hA,hO⟩ | ⟨b,a,n,c,q,m,X,aX,ms,mo,Ts,rfl,hA,hO,h4,hp,hl,hI,hb,hq,hm,hE1,hT,hTR,hvs,hvo,l1,l2,d1,d2,d3⟩⟩
 ·have HA:=hid hA
  have HB:=hid (hb0.trans (hb1.mono hz0))
  clear hA
  go_wp2_with fail
  go_ret2
  exact⟨HB.out,Or.inl ⟨rfl,HA.out⟩⟩
 ·have HA:=hid hA
  have HO:=hid hO
  have HB:=hid (hb0.trans (hb1.mono hz0))
  clear hA hO
  go_wp2_with fail
  go_ret2
  exact⟨HB.out,Or.inr (Or.inl ⟨rfl,HA.out,HO.out⟩)⟩
 ·have hbx:Below w1.heap.size w1 (w1.alloc (.cells #[.pointer (some ⟨b,0,none⟩)] 79)):=(Below.refl _ _).alloc (Nat.le_refl _) _
  have hBx:aK (w1.alloc (.cells #[.pointer (some ⟨b,0,none⟩)] 79)) w1.heap.size 79 [.pointer (some ⟨b,0,none⟩)]:=heap_alloc_new w1 _
  have HB:=hid ((hb0.trans (hb1.mono hz0)).trans (hbx.mono (by have:=hb1.size;omega)))
  have HOK:=hid (show PD s W D R w.heap.size (w1.alloc (.cells #[.pointer (some ⟨b,0,none⟩)] 79)) w1.heap.size from⟨b,a,n,c,q,m,X,aX,ms,mo,Ts,hBx,by have:=hb1.size;omega,hA,hO,h4,hp,hl,agp (hI.below hbx) hz0,by omega,by omega,by omega,hE1.below hbx,(hT.below hbx).lower hz0,hTR.lower hz0,hvs.dB (F:=fun _=>False) (aG.of_below hbx) id,hvo.dB (F:=fun _=>False) (aG.of_below hbx) id,by omega,by omega,d1,d2,d3⟩)
  clear hA hO hp hI hE1 hbx hBx hT hTR hvs hvo
  go_wp2_with fail
  go_ret2
  exact⟨HB.out,Or.inr (Or.inr ⟨w1.heap.size,rfl,HOK.out⟩)⟩
end Go.Proofs.YtolfcabodiphmaaGreatDoor
